import PyProof.Rows.All
import Wide.All
import OpenK.AllK
import Wide.FinOn
import HandS.ForMost
import HandS.Walk
import HandS.Zip
import HandS.Star
import HandS.Wide
import HandS.IsInst
import HandS.TupAny
import HandS.Conv
import KE.GoesZip
import KE.GoesMore
import KE.GoesEnum
import HandS.Evl
import PyProof.InstNe
import HandS.OwnEq
import HandS.SlotsOwn
import HandS.Defaults
import HandS.MakeKw
import HandS.ExcInit
import HandS.WordsExc
import HandS.ExcField
import HandS.CallLocal
import HandS.More
import HandS.DictComp
import HandS.TryOnly
import HandS.Property
import HandS.TryMany
import HandS.ExcIs
import KE.KExcIs
import HandS.Deep
import HandS.TupMul
import HandS.Head0
import HandS.Head1
import HandS.Head2
import HandS.HeadEnd
import HandS.HeadHook1
import HandS.HeadHook2
import HandS.HeadHook3
import HandS.Words
import HandS.HeadHook4
import PySem.Challenge.RW_withinlimits_k02_parts_and_where_they_ar
set_option Elab.async false
set_option linter.all false
set_option maxRecDepth 100000
set_option maxHeartbeats 2000000
/-! Data that stands still, and what is owned and changed: readings of pure expressions. -/
namespace DL
open PySem L2 StX

/-! ### heaps: B stands still and may grow; O is what may change -/
def Ex (H H' : Hp) : Prop := ∀ a o, H a = some o → H' a = some o
theorem Ex.refl (H : Hp) : Ex H H := fun _ _ h => h
theorem Ex.trans {H H1 H2 : Hp} (a : Ex H H1) (b : Ex H1 H2) : Ex H H2 := fun x o h => b x o (a x o h)
theorem Ex.new {H : Hp} {p : Addr} {o : HO} (h : H p = none) : Ex H (upd H p o) := fun a u e => by
  rw [upd_ne (ne_of_none e h)]
  exact e
structure W (B O H : Hp) : Prop where
  b : Ex B H
  o : Ex O H
  d : ∀ a, B a = none ∨ O a = none
theorem none_of_ex {B H : Hp} {p : Addr} (e : Ex B H) (h : H p = none) : B p = none := by
  cases h1 : B p with
  | none => rfl
  | some o =>
    rw [e p o h1] at h
    cases h
theorem W.fb {B O H : Hp} {p : Addr} (w : W B O H) (h : H p = none) : B p = none := none_of_ex w.b h
theorem W.fo {B O H : Hp} {p : Addr} (w : W B O H) (h : H p = none) : O p = none := none_of_ex w.o h
/-- a new thing that stands still -/
theorem W.newB {B O H : Hp} {p : Addr} {u : HO} (w : W B O H) (h : H p = none) : W (upd B p u) O (upd H p u) := by
  refine ⟨fun a o e => ?_, fun a o e => ?_, fun a => ?_⟩
  · by_cases hp : a = p
    · subst hp
      rw [upd_same] at e ⊢
      exact e
    · rw [upd_ne hp] at e ⊢
      exact w.b a o e
  · rw [upd_ne (ne_of_none e (w.fo h))]
    exact w.o a o e
  · by_cases hp : a = p
    · subst hp
      exact .inr (w.fo h)
    · rw [upd_ne hp]
      exact w.d a
/-- a new thing that is owned -/
theorem W.newO {B O H : Hp} {p : Addr} {u : HO} (w : W B O H) (h : H p = none) : W B (upd O p u) (upd H p u) := by
  refine ⟨fun a o e => ?_, fun a o e => ?_, fun a => ?_⟩
  · rw [upd_ne (ne_of_none e (w.fb h))]
    exact w.b a o e
  · by_cases hp : a = p
    · subst hp
      rw [upd_same] at e ⊢
      exact e
    · rw [upd_ne hp] at e ⊢
      exact w.o a o e
  · by_cases hp : a = p
    · subst hp
      exact .inl (w.fb h)
    · rw [upd_ne hp]
      exact w.d a
/-- what is owned is changed -/
theorem W.mut {B O H : Hp} {p : Addr} {u v : HO} (w : W B O H) (h : O p = some u) : W B (upd O p v) (upd H p v) := by
  have hb : B p = none := by
    rcases w.d p with q | q
    · exact q
    · rw [q] at h; cases h
  refine ⟨fun a o e => ?_, fun a o e => ?_, fun a => ?_⟩
  · rw [upd_ne (ne_of_none e hb)]
    exact w.b a o e
  · by_cases hp : a = p
    · subst hp
      rw [upd_same] at e ⊢
      exact e
    · rw [upd_ne hp] at e ⊢
      exact w.o a o e
  · by_cases hp : a = p
    · subst hp
      exact .inl hb
    · rw [upd_ne hp]
      exact w.d a
/-- what was owned is given away, to stand still -/
theorem W.give {B O H : Hp} {p : Addr} {u : HO} (w : W B (upd O p u) H) (h : O p = none) : W (upd B p u) O H := by
  have hp' : H p = some u := w.o p u upd_same
  refine ⟨fun a o e => ?_, fun a o e => ?_, fun a => ?_⟩
  · by_cases hp : a = p
    · subst hp
      rw [upd_same] at e
      cases e
      exact hp'
    · rw [upd_ne hp] at e
      exact w.b a o e
  · have hp : a ≠ p := ne_of_none e h
    exact w.o a o (by rw [upd_ne hp]; exact e)
  · by_cases hp : a = p
    · subst hp
      exact .inr h
    · rw [upd_ne hp]
      have := w.d a
      rw [upd_ne hp] at this
      exact this
theorem W.bnone {B O H : Hp} {p : Addr} {u : HO} (w : W B O H) (h : O p = some u) : B p = none := by
  rcases w.d p with q | q
  · exact q
  · rw [q] at h; cases h

/-! ### data: as Dp, each list tracked -/
mutual
inductive Dt (K : PySem.W.Frag) (B : Hp) : V → PyData → Prop
  | non : Dt K B .non .none
  | bl (b : Bool) : Dt K B (.bl b) (.bool b)
  | int (i : Int) : Dt K B (.int i) (.int i)
  | str (x : Str) : Dt K B (.str x) (.str x)
  | lst {a : Addr} {xs : List V} {ds : List PyData} : B a = some (.lst xs) → DtAll K B xs ds → Dt K B (.ref a) (.list ds)
  | tup {a : Addr} {xs : List V} {ds : List PyData} : SqT K B a xs → DtAll K B xs ds → Dt K B (.ref a) (.tuple ds)
  | dct {a : Addr} : B a = some (.dK []) → Dt K B (.ref a) (.dict [])
inductive DtAll (K : PySem.W.Frag) (B : Hp) : List V → List PyData → Prop
  | nil : DtAll K B [] []
  | cons {v : V} {vs : List V} {d : PyData} {ds : List PyData} : Dt K B v d → DtAll K B vs ds → DtAll K B (v :: vs) (d :: ds)
end
mutual
theorem dt_dp {K : PySem.W.Frag} {B : Hp} : ∀ (d : PyData) (v : V), d.canLay0 = true → Dt K B v d → Dp K B v d
  | .none, _, _, h => by cases h; exact .non
  | .bool b, _, _, h => by cases h; exact .bl b
  | .int i, _, _, h => by cases h; exact .int i
  | .str x, _, _, h => by cases h; exact .str x
  | .list ds, _, c, h => by
    cases h with
    | lst hs ha => exact .lst (.inl (.inl hs)) (dt_dps ds _ c ha)
  | .tuple ds, _, c, h => by
    cases h with
    | tup hs ha => exact .tup hs (dt_dps ds _ c ha)
  | .dict _, _, c, _ => by cases c
theorem dt_dps {K : PySem.W.Frag} {B : Hp} : ∀ (ds : List PyData) (vs : List V), PyData.canLayAll0 ds = true → DtAll K B vs ds → DpAll K B vs ds
  | [], _, _, h => by cases h; exact .nil
  | d :: ds, _, c, h => by
    have c2 : (d.canLay0 && PyData.canLayAll0 ds) = true := c
    rw [Bool.and_eq_true] at c2
    cases h with
    | cons h1 h2 => exact .cons (dt_dp d _ c2.1 h1) (dt_dps ds _ c2.2 h2)
end
theorem rd_ex {B B' : Hp} {a : Addr} {u : HO} (e : Ex B B') (h : Rd B a u) : Rd B' a u := by
  rcases h with h | ⟨o, h⟩
  · exact Or.inl (e a _ h)
  · exact Or.inr ⟨o, e a _ h⟩
theorem sl_ex {K : PySem.W.Frag} {B B' : Hp} {a : Addr} {xs : List V} (e : Ex B B') (h : SqL K B a xs) : SqL K B' a xs := by
  rcases h with h | h
  · exact Or.inl (rd_ex e h)
  · exact Or.inr h
theorem st_ex {K : PySem.W.Frag} {B B' : Hp} {a : Addr} {xs : List V} (e : Ex B B') (h : SqT K B a xs) : SqT K B' a xs := by
  rcases h with h | h
  · exact Or.inl (rd_ex e h)
  · exact Or.inr h
mutual
theorem dp_ex {K : PySem.W.Frag} {B B' : Hp} (e : Ex B B') : ∀ (d : PyData) (v : V), Dt K B v d → Dt K B' v d
  | .none, _, h => by cases h; exact .non
  | .bool b, _, h => by cases h; exact .bl b
  | .int i, _, h => by cases h; exact .int i
  | .str x, _, h => by cases h; exact .str x
  | .list ds, _, h => by
    cases h with
    | lst hs ha => exact .lst (e _ _ hs) (dps_ex e ds _ ha)
  | .tuple ds, _, h => by
    cases h with
    | tup hs ha => exact .tup (st_ex e hs) (dps_ex e ds _ ha)
  | .dict _, _, h => by
    cases h with
    | dct h => exact .dct (e _ _ h)
theorem dps_ex {K : PySem.W.Frag} {B B' : Hp} (e : Ex B B') : ∀ (ds : List PyData) (vs : List V), DtAll K B vs ds → DtAll K B' vs ds
  | [], _, h => by cases h; exact .nil
  | d :: ds, _, h => by
    cases h with
    | cons h1 h2 => exact .cons (dp_ex e d _ h1) (dps_ex e ds _ h2)
end
section
variable {K : PySem.W.Frag} {B : Hp}
theorem dps_len : ∀ {ds : List PyData} {vs : List V}, DtAll K B vs ds → vs.length = ds.length
  | [], _, h => by cases h; rfl
  | _ :: ds, _, h => by
    cases h with
    | cons h1 h2 => simp [dps_len h2]
theorem dps_get : ∀ {ds : List PyData} {vs : List V} {i : Nat} {d : PyData}, DtAll K B vs ds → ds[i]? = some d → ∃ v, vs[i]? = some v ∧ Dt K B v d
  | [], _, _, _, _, h => by simp at h
  | x :: ds, _, 0, d, h, e => by
    cases h with
    | cons h1 h2 =>
      simp at e
      subst e
      exact ⟨_, rfl, h1⟩
  | x :: ds, _, i + 1, d, h, e => by
    cases h with
    | cons h1 h2 =>
      simp at e
      obtain ⟨v, hv, dv⟩ := dps_get h2 e
      exact ⟨v, by simpa using hv, dv⟩
theorem dps_getV : ∀ {ds : List PyData} {vs : List V} {i : Nat} {v : V}, DtAll K B vs ds → vs[i]? = some v → ∃ d, ds[i]? = some d ∧ Dt K B v d
  | [], _, _, _, h, e => by cases h; simp at e
  | x :: ds, _, 0, v, h, e => by
    cases h with
    | cons h1 h2 =>
      simp at e
      subst e
      exact ⟨_, rfl, h1⟩
  | x :: ds, _, i + 1, v, h, e => by
    cases h with
    | cons h1 h2 =>
      simp at e
      obtain ⟨d, hd, dv⟩ := dps_getV h2 e
      exact ⟨d, by simpa using hd, dv⟩
theorem dps_app : ∀ {ds es : List PyData} {vs ws : List V}, DtAll K B vs ds → DtAll K B ws es → DtAll K B (vs ++ ws) (ds ++ es)
  | [], _, _, _, h, g => by cases h; exact g
  | _ :: ds, _, _, _, h, g => by
    cases h with
    | cons h1 h2 => exact .cons h1 (dps_app h2 g)
theorem dps_one {v : V} {d : PyData} (h : Dt K B v d) : DtAll K B [v] [d] := .cons h .nil
theorem dps_take : ∀ {ds : List PyData} {vs : List V} (n : Nat), DtAll K B vs ds → DtAll K B (vs.take n) (ds.take n)
  | _, _, 0, _ => by simp; exact .nil
  | [], _, n + 1, h => by cases h; simp; exact .nil
  | _ :: ds, _, n + 1, h => by
    cases h with
    | cons h1 h2 => simp; exact .cons h1 (dps_take n h2)
theorem dps_drop : ∀ {ds : List PyData} {vs : List V} (n : Nat), DtAll K B vs ds → DtAll K B (vs.drop n) (ds.drop n)
  | _, _, 0, h => by simpa using h
  | [], _, n + 1, h => by cases h; simp; exact .nil
  | _ :: ds, _, n + 1, h => by
    cases h with
    | cons h1 h2 => simp; exact dps_drop n h2
theorem dps_set : ∀ {ds : List PyData} {vs : List V} {v : V} {d : PyData} (j : Nat), DtAll K B vs ds → Dt K B v d → DtAll K B (vs.set j v) (ds.set j d)
  | [], _, _, _, _, h, _ => by cases h; exact .nil
  | _ :: ds, _, _, _, 0, h, g => by
    cases h with
    | cons h1 h2 => exact .cons g h2
  | _ :: ds, _, _, _, j + 1, h, g => by
    cases h with
    | cons h1 h2 => exact .cons h1 (dps_set j h2 g)
theorem dp_int {v : V} {i : Int} (h : Dt K B v (.int i)) : v = .int i := by cases h; rfl
theorem dp_bool {v : V} {b : Bool} (h : Dt K B v (.bool b)) : v = .bl b := by cases h; rfl
theorem dp_str {v : V} {x : Str} (h : Dt K B v (.str x)) : v = .str x := by cases h; rfl
theorem dp_none {v : V} (h : Dt K B v .none) : v = .non := by cases h; rfl
theorem dp_tup {v : V} {ds : List PyData} (h : Dt K B v (.tuple ds)) : ∃ a xs, v = .ref a ∧ SqT K B a xs ∧ DtAll K B xs ds := by
  cases h with
  | tup h1 h2 => exact ⟨_, _, rfl, h1, h2⟩
theorem dp_lst {v : V} {ds : List PyData} (h : Dt K B v (.list ds)) : ∃ a xs, v = .ref a ∧ B a = some (.lst xs) ∧ DtAll K B xs ds := by
  cases h with
  | lst h1 h2 => exact ⟨_, _, rfl, h1, h2⟩
theorem dps_ints : ∀ {ns : List Int} {vs : List V}, DtAll K B vs (ns.map .int) → vs = ns.map V.int
  | [], _, h => by cases h; rfl
  | n :: ns, _, h => by
    cases h with
    | cons h1 h2 =>
      rw [dp_int h1, dps_ints h2]
      rfl
theorem dps_bools : ∀ {ns : List Bool} {vs : List V}, DtAll K B vs (ns.map .bool) → vs = ns.map V.bl
  | [], _, h => by cases h; rfl
  | n :: ns, _, h => by
    cases h with
    | cons h1 h2 =>
      rw [dp_bool h1, dps_bools h2]
      rfl
theorem ints_dps : ∀ (ns : List Int), DtAll K B (ns.map V.int) (ns.map .int)
  | [] => .nil
  | n :: ns => .cons (.int n) (ints_dps ns)
end
/-- the flat data -/
def fv : PyData → V
  | .none => .non
  | .bool b => .bl b
  | .int i => .int i
  | .str x => .str x
  | _ => .ref 0
def flatD : PyData → Bool
  | .none => true
  | .bool _ => true
  | .int _ => true
  | .str _ => true
  | _ => false
theorem fv_of {K : PySem.W.Frag} {B : Hp} {v : V} {d : PyData} (h : Dt K B v d) (f : flatD d = true) : v = fv d ∧ flatV v = true := by
  cases h with
  | non => exact ⟨rfl, rfl⟩
  | bl => exact ⟨rfl, rfl⟩
  | int => exact ⟨rfl, rfl⟩
  | str => exact ⟨rfl, rfl⟩
  | lst => cases f
  | tup => cases f
  | dct => cases f
theorem fvs_of {K : PySem.W.Frag} {B : Hp} : ∀ {ds : List PyData} {vs : List V}, DtAll K B vs ds → ds.all flatD = true → vs = ds.map fv ∧ vs.all flatV = true
  | [], _, h, _ => by cases h; exact ⟨rfl, rfl⟩
  | d :: ds, _, h, f => by
    rw [List.all_cons, Bool.and_eq_true] at f
    cases h with
    | cons h1 h2 =>
      obtain ⟨e1, f1⟩ := fv_of h1 f.1
      obtain ⟨e2, f2⟩ := fvs_of h2 f.2
      refine ⟨by rw [e1, e2]; rfl, ?_⟩
      rw [List.all_cons, f1, f2]
      rfl

/-! ### slots -/
inductive SD where
  | un
  | dat (d : PyData)
  | val (v : V)
def SlotOk (K : PySem.W.Frag) (B : Hp) : Option V → SD → Prop
  | _, .un => True
  | ov, .dat d => ∃ v, ov = some v ∧ Dt K B v d
  | ov, .val v => ov = some v
def Slots (K : PySem.W.Frag) (B : Hp) : L2.St → List SD → Prop
  | [], [] => True
  | s :: σ, g :: G => SlotOk K B s g ∧ Slots K B σ G
  | _, _ => False
section
variable {K : PySem.W.Frag} {B B' : Hp}
theorem SlotOk.ex (e : Ex B B') {s : Option V} {g : SD} (h : SlotOk K B s g) : SlotOk K B' s g := by
  cases g with
  | un => exact trivial
  | dat d =>
    obtain ⟨v, hv, hd⟩ := h
    exact ⟨v, hv, dp_ex e d v hd⟩
  | val v => exact h
theorem Slots.ex (e : Ex B B') : ∀ {σ : L2.St} {G : List SD}, Slots K B σ G → Slots K B' σ G
  | [], [], _ => trivial
  | _ :: _, _ :: _, h => ⟨h.1.ex e, Slots.ex e h.2⟩
  | [], _ :: _, h => h.elim
  | _ :: _, [], h => h.elim
theorem Slots.get : ∀ {σ : L2.St} {G : List SD} {i : Nat} {g : SD}, Slots K B σ G → G[i]? = some g → ∃ s, σ[i]? = some s ∧ SlotOk K B s g
  | [], [], _, _, _, e => by simp at e
  | s :: _, g :: _, 0, _, h, e => by
    simp at e
    subst e
    exact ⟨s, rfl, h.1⟩
  | _ :: _, _ :: _, i + 1, _, h, e => by
    simp at e
    obtain ⟨s, hs, ho⟩ := Slots.get h.2 e
    exact ⟨s, by simpa using hs, ho⟩
  | [], _ :: _, _, _, h, _ => h.elim
  | _ :: _, [], _, _, h, _ => h.elim
theorem Slots.set : ∀ {σ : L2.St} {G : List SD} (i : Nat) {s : Option V} {g : SD}, Slots K B σ G → SlotOk K B s g → Slots K B (σ.set i s) (G.set i g)
  | [], [], _, _, _, _, _ => trivial
  | _ :: _, _ :: _, 0, _, _, h, q => ⟨q, h.2⟩
  | _ :: _, _ :: _, i + 1, _, _, h, q => ⟨h.1, Slots.set i h.2 q⟩
  | [], _ :: _, _, _, _, h, _ => h.elim
  | _ :: _, [], _, _, _, h, _ => h.elim
def wipeG (G : List SD) : List Nat → List SD
  | [] => G
  | v :: vs => (wipeG G vs).set v .un
theorem Slots.wipe {σ : L2.St} {G : List SD} (h : Slots K B σ G) : ∀ vs : List Nat, Slots K B (L2.wipe σ vs) (wipeG G vs)
  | [] => h
  | v :: vs => Slots.set v (Slots.wipe h vs) trivial
end

/-- where one stands -/
structure Sta (K : PySem.W.Frag) (B O : Hp) (G : List SD) (σ : L2.St) (H : Hp) : Prop where
  w : W B O H
  s : Slots K B σ G
theorem Sta.ex {K : PySem.W.Frag} {B B' O : Hp} {G : List SD} {σ : L2.St} {H H' : Hp} (s : Sta K B O G σ H) (e : Ex B B') (w : W B' O H') : Sta K B' O G σ H' := ⟨w, s.s.ex e⟩
theorem Sta.set {K : PySem.W.Frag} {B O : Hp} {G : List SD} {σ : L2.St} {H : Hp} (s : Sta K B O G σ H) (i : Nat) {v : V} {d : PyData} (h : Dt K B v d) : Sta K B O (G.set i (.dat d)) (σ.set i (some v)) H := ⟨s.w, s.s.set i ⟨v, rfl, h⟩⟩
theorem Sta.setV {K : PySem.W.Frag} {B O : Hp} {G : List SD} {σ : L2.St} {H : Hp} (s : Sta K B O G σ H) (i : Nat) {v : V} : Sta K B O (G.set i (.val v)) (σ.set i (some v)) H := ⟨s.w, s.s.set i rfl⟩

/-! ### what evaluates to what -/
section
variable (K : PySem.W.Frag) (B O : Hp) (G : List SD)
def EvD (te : TE) (d : PyData) : Prop := ∀ B1 O1 σ H, Ex B B1 → Ex O O1 → Sta K B1 O1 G σ H → ∀ Q : VK, (∀ v B' H', Ex B1 B' → W B' O1 H' → Dt K B' v d → Q v H') → te σ H Q
def EvV (te : TE) (v : V) : Prop := ∀ B1 O1 σ H, Ex B B1 → Ex O O1 → Sta K B1 O1 G σ H → ∀ Q : VK, (∀ B' H', Ex B1 B' → W B' O1 H' → Q v H') → te σ H Q
def EvT (tt : TT) (b : Bool) : Prop := ∀ B1 O1 σ H, Ex B B1 → Ex O O1 → Sta K B1 O1 G σ H → ∀ Q : Bool → Hp → Prop, (∀ B' H', Ex B1 B' → W B' O1 H' → Q b H') → tt σ H Q
def EvA (ta : TA) (ds : List PyData) : Prop := ∀ B1 O1 σ H, Ex B B1 → Ex O O1 → Sta K B1 O1 G σ H → ∀ Q : List V → Hp → Prop, (∀ vs B' H', Ex B1 B' → W B' O1 H' → DtAll K B' vs ds → Q vs H') → ta σ H Q
def EvO (to : TO) (o : Option Int) : Prop := ∀ B1 O1 σ H, Ex B B1 → Ex O O1 → Sta K B1 O1 G σ H → ∀ Q : Option Int → Hp → Prop, (∀ B' H', Ex B1 B' → W B' O1 H' → Q o H') → to σ H Q
/-- an operator on data -/
def RD (K : PySem.W.Frag) (r : R2) (x y z : PyData) : Prop := ∀ B1 O1 H v w, W B1 O1 H → Dt K B1 v x → Dt K B1 w y → ∀ Q : VK, (∀ u B' H', Ex B1 B' → W B' O1 H' → Dt K B' u z → Q u H') → r v w H Q
/-- a built-in on data -/
def RC (K : PySem.W.Frag) (r : List V → Hp → VK → Prop) (xs : List PyData) (z : PyData) : Prop := ∀ B1 O1 H vs, W B1 O1 H → DtAll K B1 vs xs → ∀ Q : VK, (∀ u B' H', Ex B1 B' → W B' O1 H' → Dt K B' u z → Q u H') → r vs H Q
end
section
variable {K : PySem.W.Frag} {B B' O : Hp} {G : List SD} {ta tb te tc : TE} {t u : TT} {r : R2} {d x y z : PyData}
theorem EvD.ex (h : EvD K B O G te d) (e : Ex B B') : EvD K B' O G te d := fun B1 O1 σ H e1 o s Q q => h B1 O1 σ H (e.trans e1) o s Q q
theorem EvT.ex {b : Bool} (h : EvT K B O G t b) (e : Ex B B') : EvT K B' O G t b := fun B1 O1 σ H e1 o s Q q => h B1 O1 σ H (e.trans e1) o s Q q
theorem ev_is (h : EvD K B O G te d) (e : d = x) : EvD K B O G te x := by
  rw [← e]
  exact h
theorem et_is {a b : Bool} (h : EvT K B O G t a) (e : a = b) : EvT K B O G t b := by
  rw [← e]
  exact h
theorem ev_var {i : Nat} (h : G[i]? = some (.dat d)) : EvD K B O G (tVar i) d := fun B1 O1 σ H _ o s Q q => by
  obtain ⟨sv, h1, v, rfl, h2⟩ := s.s.get h
  exact ⟨v, h1, q v B1 H (Ex.refl _) s.w h2⟩
theorem evV_var {i : Nat} {v : V} (h : G[i]? = some (.val v)) : EvV K B O G (tVar i) v := fun B1 O1 σ H _ o s Q q => by
  obtain ⟨sv, h1, h2⟩ := s.s.get h
  have h3 : sv = some v := h2
  subst h3
  exact ⟨v, h1, q B1 H (Ex.refl _) s.w⟩
theorem ev_c {v : V} (h : ∀ H : Hp, Dt K H v d) : EvD K B O G (tC v) d := fun B1 _ _ H _ _ s Q q => q v B1 H (Ex.refl _) s.w (h B1)
theorem ev_int {i : Int} : EvD K B O G (tC (.int i)) (.int i) := ev_c fun _ => .int i
theorem ev_bl {b : Bool} : EvD K B O G (tC (.bl b)) (.bool b) := ev_c fun _ => .bl b
theorem ev_str {x : Str} : EvD K B O G (tC (.str x)) (.str x) := ev_c fun _ => .str x
theorem ev_non : EvD K B O G (tC .non) .none := ev_c fun _ => .non
theorem ev_op (ha : EvD K B O G ta x) (hb : EvD K B O G tb y) (hr : RD K r x y z) : EvD K B O G (tOp r ta tb) z := fun B1 O1 σ H e o s Q q =>
  ha B1 O1 σ H e o s _ fun v B2 H2 e2 w2 d2 => hb B2 O1 σ H2 (e.trans e2) o (s.ex e2 w2) _ fun v' B3 H3 e3 w3 d3 =>
    hr B3 O1 H3 v v' w3 (dp_ex e3 _ _ d2) d3 Q fun u B4 H4 e4 w4 d4 => q u B4 H4 ((e2.trans e3).trans e4) w4 d4
theorem ea_nil : EvA K B O G tNil [] := fun B1 _ _ H _ _ s Q q => q [] B1 H (Ex.refl _) s.w .nil
theorem ea_cons {tr : TA} {ds : List PyData} (h : EvD K B O G ta d) (hr : EvA K B O G tr ds) : EvA K B O G (tCons ta tr) (d :: ds) := fun B1 O1 σ H e o s Q q =>
  h B1 O1 σ H e o s _ fun v B2 H2 e2 w2 d2 => hr B2 O1 σ H2 (e.trans e2) o (s.ex e2 w2) _ fun vs B3 H3 e3 w3 d3 => q (v :: vs) B3 H3 (e2.trans e3) w3 (.cons (dp_ex e3 _ _ d2) d3)
theorem sz_of {n : Nat} (h : n ≤ 100000) : n ≤ sizeLine := Nat.le_trans h (by decide)
theorem ev_tup {t : TA} {ds : List PyData} (h : EvA K B O G t ds) (hl : ds.length ≤ 100000) : EvD K B O G (tTup t) (.tuple ds) := fun B1 O1 σ H e o s Q q =>
  h B1 O1 σ H e o s _ fun vs B2 H2 e2 w2 d2 => ⟨by rw [dps_len d2]; exact sz_of hl, fun p hp => q _ (upd B2 p (.tup vs)) _ (e2.trans (Ex.new (w2.fb hp))) (w2.newB hp) (.tup (.inl (.inl upd_same)) (dps_ex (Ex.new (w2.fb hp)) _ _ d2))⟩
theorem ev_lst {t : TA} {ds : List PyData} (h : EvA K B O G t ds) (hl : ds.length ≤ 100000) : EvD K B O G (tLst t) (.list ds) := fun B1 O1 σ H e o s Q q =>
  h B1 O1 σ H e o s _ fun vs B2 H2 e2 w2 d2 => ⟨by rw [dps_len d2]; exact sz_of hl, fun p hp => q _ (upd B2 p (.lst vs)) _ (e2.trans (Ex.new (w2.fb hp))) (w2.newB hp) (.lst upd_same (dps_ex (Ex.new (w2.fb hp)) _ _ d2))⟩
/-- *e within a display: e a tuple -/
theorem ea_star {t : TA} {es ds : List PyData} (h : EvD K B O G te (.tuple es)) (hr : EvA K B O G t ds) : EvA K B O G (tStar K te t) (es ++ ds) := fun B1 O1 σ H e o s Q q =>
  h B1 O1 σ H e o s _ fun v B2 H2 e2 w2 d2 => by
    obtain ⟨a, xs, rfl, h1, h2⟩ := dp_tup d2
    refine ⟨a, xs, rfl, .inl (st_ex w2.b h1), ?_⟩
    exact hr B2 O1 σ H2 (e.trans e2) o (s.ex e2 w2) _ fun vs B3 H3 e3 w3 d3 => q _ B3 H3 (e2.trans e3) w3 (dps_app (dps_ex e3 _ _ h2) d3)
/-! tests -/
theorem et_test {b : Bool} (h : EvD K B O G te (.bool b)) : EvT K B O G (tTest te) b := fun B1 O1 σ H e o s Q q => h B1 O1 σ H e o s _ fun v B2 H2 e2 w2 d2 => ⟨b, dp_bool d2, q B2 H2 e2 w2⟩
theorem et_B {b : Bool} (h : EvD K B O G te (.bool b)) : EvT K B O G (tB te) b := fun B1 O1 σ H e o s Q q => h B1 O1 σ H e o s _ fun v B2 H2 e2 w2 d2 => ⟨b, dp_bool d2, q B2 H2 e2 w2⟩
theorem et_yes : EvT K B O G tYes true := fun B1 O1 σ H _ o s Q q => q B1 H (Ex.refl _) s.w
theorem et_and {a b : Bool} (h1 : EvT K B O G t a) (h2 : a = true → EvT K B O G u b) : EvT K B O G (tAnd t u) (a && b) := fun B1 O1 σ H e o s Q q => h1 B1 O1 σ H e o s _ fun B2 H2 e2 w2 => by
  cases a with
  | true =>
    show u σ H2 Q
    exact h2 rfl B2 O1 σ H2 (e.trans e2) o (s.ex e2 w2) Q fun B3 H3 e3 w3 => q B3 H3 (e2.trans e3) w3
  | false =>
    show Q false H2
    exact q B2 H2 e2 w2
theorem et_or {a b : Bool} (h1 : EvT K B O G t a) (h2 : a = false → EvT K B O G u b) : EvT K B O G (tOr t u) (a || b) := fun B1 O1 σ H e o s Q q => h1 B1 O1 σ H e o s _ fun B2 H2 e2 w2 => by
  cases a with
  | true =>
    show Q true H2
    exact q B2 H2 e2 w2
  | false =>
    show u σ H2 Q
    exact h2 rfl B2 O1 σ H2 (e.trans e2) o (s.ex e2 w2) Q fun B3 H3 e3 w3 => q B3 H3 (e2.trans e3) w3
theorem et_not {a : Bool} (h1 : EvT K B O G t a) : EvT K B O G (tNot t) (!a) := fun B1 O1 σ H e o s Q q => h1 B1 O1 σ H e o s _ fun B2 H2 e2 w2 => q B2 H2 e2 w2
theorem ev_andV {a b : Bool} (h1 : EvD K B O G ta (.bool a)) (h2 : a = true → EvD K B O G tb (.bool b)) : EvD K B O G (tAndV ta tb) (.bool (a && b)) := fun B1 O1 σ H e o s Q q => h1 B1 O1 σ H e o s _ fun v B2 H2 e2 w2 d2 => ⟨a, dp_bool d2, by
  cases a with
  | true =>
    show tb σ H2 Q
    exact h2 rfl B2 O1 σ H2 (e.trans e2) o (s.ex e2 w2) Q fun v B3 H3 e3 w3 d3 => q v B3 H3 (e2.trans e3) w3 d3
  | false =>
    show Q (.bl false) H2
    exact q _ B2 H2 e2 w2 (.bl false)⟩
theorem ev_orV {a b : Bool} (h1 : EvD K B O G ta (.bool a)) (h2 : a = false → EvD K B O G tb (.bool b)) : EvD K B O G (tOrV ta tb) (.bool (a || b)) := fun B1 O1 σ H e o s Q q => h1 B1 O1 σ H e o s _ fun v B2 H2 e2 w2 d2 => ⟨a, dp_bool d2, by
  cases a with
  | true =>
    show Q (.bl true) H2
    exact q _ B2 H2 e2 w2 (.bl true)
  | false =>
    show tb σ H2 Q
    exact h2 rfl B2 O1 σ H2 (e.trans e2) o (s.ex e2 w2) Q fun v B3 H3 e3 w3 d3 => q v B3 H3 (e2.trans e3) w3 d3⟩
theorem ev_notV {a : Bool} (h1 : EvD K B O G ta (.bool a)) : EvD K B O G (tNotV ta) (.bool (!a)) := fun B1 O1 σ H e o s Q q => h1 B1 O1 σ H e o s _ fun v B2 H2 e2 w2 d2 => ⟨a, dp_bool d2, q _ B2 H2 e2 w2 (.bl _)⟩
theorem ev_if {b : Bool} (h : EvT K B O G t b) (h1 : b = true → EvD K B O G ta d) (h2 : b = false → EvD K B O G tb d) : EvD K B O G (tIf t ta tb) d := fun B1 O1 σ H e o s Q q => h B1 O1 σ H e o s _ fun B2 H2 e2 w2 => by
  cases b with
  | true =>
    show ta σ H2 Q
    exact h1 rfl B2 O1 σ H2 (e.trans e2) o (s.ex e2 w2) Q fun v B3 H3 e3 w3 d3 => q v B3 H3 (e2.trans e3) w3 d3
  | false =>
    show tb σ H2 Q
    exact h2 rfl B2 O1 σ H2 (e.trans e2) o (s.ex e2 w2) Q fun v B3 H3 e3 w3 d3 => q v B3 H3 (e2.trans e3) w3 d3
theorem ev_isN {b : Bool} (h : EvD K B O G ta d) (e : (match d with | .none => true | _ => false) = b) : EvD K B O G (tOp (fun x y H Q => y = .non ∧ Q (.bl (decide (x = .non))) H) ta (tC .non)) (.bool b) := fun B1 O1 σ H e1 o s Q q =>
  h B1 O1 σ H e1 o s _ fun v B2 H2 e2 w2 d2 => ⟨rfl, by
    have : decide (v = V.non) = b := by
      rw [← e]
      cases d2 <;> simp
    rw [this]
    exact q _ B2 H2 e2 w2 (.bl b)⟩
end
end DL

set_option Elab.async false
set_option linter.all false
set_option maxRecDepth 100000
set_option maxHeartbeats 2000000
namespace DL
open PySem L2 StX
/-! ### operators -/
section
variable {K : PySem.W.Frag} {B O : Hp} {i j : Int} {d e : PyData} {ds es : List PyData}
theorem rd_I0 {f : Int → Int → Int} : RD K (rI0 fun i j => .int (f i j)) (.int i) (.int j) (.int (f i j)) := fun B1 O1 H v w hw hv hx Q q => by
  rw [dp_int hv, dp_int hx]
  exact ⟨i, j, rfl, rfl, q _ B1 H (Ex.refl _) hw (.int _)⟩
theorem rd_B0 {f : Int → Int → Bool} : RD K (rI0 fun i j => .bl (f i j)) (.int i) (.int j) (.bool (f i j)) := fun B1 O1 H v w hw hv hx Q q => by
  rw [dp_int hv, dp_int hx]
  exact ⟨i, j, rfl, rfl, q _ B1 H (Ex.refl _) hw (.bl _)⟩
theorem rd_I {C : Int → Int → Prop} {f : Int → Int → Int} (hc : C i j) : RD K (rI C fun i j => .int (f i j)) (.int i) (.int j) (.int (f i j)) := fun B1 O1 H v w hw hv hx Q q => by
  rw [dp_int hv, dp_int hx]
  exact ⟨i, j, rfl, rfl, hc, q _ B1 H (Ex.refl _) hw (.int _)⟩
theorem atI_get {ds : List PyData} {vs : List V} {i : Int} {d : PyData} {B : Hp} (h : DtAll K B vs ds) (e : atI ds i = some d) : ∃ v, atI vs i = some v ∧ Dt K B v d := by
  unfold atI at e ⊢
  rw [dps_len h]
  cases hj : ixN ds.length i with
  | none => rw [hj] at e; cases e
  | some j =>
    rw [hj] at e
    exact dps_get h e
theorem rd_ixT (h : atI ds i = some d) : RD K (rIxT K) (.tuple ds) (.int i) d := fun B1 O1 H v w hw hv hx Q q => by
  obtain ⟨a, xs, rfl, h1, h2⟩ := dp_tup hv
  obtain ⟨v', h3, h4⟩ := atI_get h2 h
  rw [dp_int hx]
  exact ⟨a, xs, i, v', rfl, rfl, st_ex hw.b h1, h3, q _ B1 H (Ex.refl _) hw h4⟩
theorem rd_ixL (h : atI ds i = some d) : RD K (rIxL K) (.list ds) (.int i) d := fun B1 O1 H v w hw hv hx Q q => by
  obtain ⟨a, xs, rfl, h1, h2⟩ := dp_lst hv
  obtain ⟨v', h3, h4⟩ := atI_get h2 h
  rw [dp_int hx]
  exact ⟨a, xs, i, v', rfl, rfl, .inl (.inl (hw.b _ _ h1)), h3, q _ B1 H (Ex.refl _) hw h4⟩
theorem rd_eq {b : Bool} (hd : SeqAt.shaped d = true) (he : SeqAt.shaped e = true) (h : PyData.eqv d e = b) : RD K (rEqD K) d e (.bool b) := fun B1 O1 H v w hw hv hx Q q =>
  ⟨d, e, dt_dp _ _ (SeqAt.canLay_of_shaped hd) (dp_ex hw.b _ _ hv), dt_dp _ _ (SeqAt.canLay_of_shaped he) (dp_ex hw.b _ _ hx), hd, he, by rw [h]; exact q _ B1 H (Ex.refl _) hw (.bl _)⟩
theorem rd_ne {b : Bool} (hd : SeqAt.shaped d = true) (he : SeqAt.shaped e = true) (h : (!PyData.eqv d e) = b) : RD K (rNeD K) d e (.bool b) := fun B1 O1 H v w hw hv hx Q q =>
  ⟨d, e, dt_dp _ _ (SeqAt.canLay_of_shaped hd) (dp_ex hw.b _ _ hv), dt_dp _ _ (SeqAt.canLay_of_shaped he) (dp_ex hw.b _ _ hx), hd, he, by rw [h]; exact q _ B1 H (Ex.refl _) hw (.bl _)⟩
theorem rd_inT {neg : Bool} (hd : flatD d = true) (hs : es.all flatD = true) {b : Bool} (h : (if neg then !inV (fv d) (es.map fv) else inV (fv d) (es.map fv)) = b) : RD K (rIn K neg) d (.tuple es) (.bool b) := fun B1 O1 H v w hw hv hx Q q => by
  obtain ⟨a, xs, rfl, h1, h2⟩ := dp_tup hx
  obtain ⟨e1, f1⟩ := fv_of hv hd
  obtain ⟨e2, f2⟩ := fvs_of h2 hs
  refine ⟨a, xs, rfl, .inr (st_ex hw.b h1), f1, f2, ?_⟩
  rw [e1, e2, h]
  exact q _ B1 H (Ex.refl _) hw (.bl _)
theorem rd_inL {neg : Bool} (hd : flatD d = true) (hs : es.all flatD = true) {b : Bool} (h : (if neg then !inV (fv d) (es.map fv) else inV (fv d) (es.map fv)) = b) : RD K (rIn K neg) d (.list es) (.bool b) := fun B1 O1 H v w hw hv hx Q q => by
  obtain ⟨a, xs, rfl, h1, h2⟩ := dp_lst hx
  obtain ⟨e1, f1⟩ := fv_of hv hd
  obtain ⟨e2, f2⟩ := fvs_of h2 hs
  refine ⟨a, xs, rfl, .inl (.inl (.inl (hw.b _ _ h1))), f1, f2, ?_⟩
  rw [e1, e2, h]
  exact q _ B1 H (Ex.refl _) hw (.bl _)
theorem dt_tup {B1 B' : Hp} {a : Addr} {xs : List V} (e : Ex B1 B') (h1 : SqT K B1 a xs) (h2 : DtAll K B1 xs ds) : Dt K B' (.ref a) (.tuple ds) := .tup (st_ex e h1) (dps_ex e _ _ h2)
theorem rd_catT (hl : ds.length + es.length ≤ 100000) : RD K (rCatA K) (.tuple ds) (.tuple es) (.tuple (ds ++ es)) := fun B1 O1 H v w hw hv hx Q q => by
  obtain ⟨a, xs, rfl, h1, h2⟩ := dp_tup hv
  obtain ⟨b, ys, rfl, h3, h4⟩ := dp_tup hx
  have l1 := dps_len h2
  have l2 := dps_len h4
  refine ⟨a, b, xs, ys, rfl, rfl, st_ex hw.b h1, st_ex hw.b h3, sz_of (by omega), fun e => ?_, fun _ e => ?_, fun _ _ p hp => ?_⟩
  · subst e
    have : ds = [] := List.length_eq_zero_iff.mp (by rw [← l1]; rfl)
    subst this
    exact q _ B1 H (Ex.refl _) hw (.tup h3 h4)
  · subst e
    have : es = [] := List.length_eq_zero_iff.mp (by rw [← l2]; rfl)
    subst this
    rw [List.append_nil] at q
    exact q _ B1 H (Ex.refl _) hw (.tup h1 h2)
  · exact q _ (upd B1 p _) _ (Ex.new (hw.fb hp)) (hw.newB hp) (.tup (.inl (.inl upd_same)) (dps_ex (Ex.new (hw.fb hp)) _ _ (dps_app h2 h4)))
theorem rd_cat (hl : ds.length + es.length ≤ 100000) : RD K rCat (.list ds) (.list es) (.list (ds ++ es)) := fun B1 O1 H v w hw hv hx Q q => by
  obtain ⟨a, xs, rfl, h1, h2⟩ := dp_lst hv
  obtain ⟨b, ys, rfl, h3, h4⟩ := dp_lst hx
  have l1 := dps_len h2
  have l2 := dps_len h4
  refine ⟨a, b, xs, ys, rfl, rfl, hw.b _ _ h1, hw.b _ _ h3, sz_of (by omega), fun p hp => ?_⟩
  exact q _ (upd B1 p _) _ (Ex.new (hw.fb hp)) (hw.newB hp) (.lst upd_same (dps_ex (Ex.new (hw.fb hp)) _ _ (dps_app h2 h4)))
theorem list_rep {α : Type} {xs : List α} : ∀ n, (List.replicate n xs).flatten.length = xs.length * n := fun n => by
  simp [Nat.mul_comm]
end
section
variable {K : PySem.W.Frag} {B O : Hp} {G : List SD} {ta tb te : TE} {d e : PyData} {ds es : List PyData} {i j : Int}
theorem ev_un {f : Int → Int} (ha : EvD K B O G ta (.int i)) : EvD K B O G (tUn (rU fun i => .int (f i)) ta) (.int (f i)) := fun B1 O1 σ H e1 o s Q q =>
  ha B1 O1 σ H e1 o s _ fun v B2 H2 e2 w2 d2 => ⟨i, dp_int d2, q _ B2 H2 e2 w2 (.int _)⟩
theorem ev_cb {r : List V → Hp → VK → Prop} {t : TA} {xs : List PyData} (h : EvA K B O G t xs) (hr : RC K r xs d) : EvD K B O G (tCB r t) d := fun B1 O1 σ H e1 o s Q q =>
  h B1 O1 σ H e1 o s _ fun vs B2 H2 e2 w2 d2 => hr B2 O1 H2 vs w2 d2 Q fun u B3 H3 e3 w3 d3 => q u B3 H3 (e2.trans e3) w3 d3
/-! slices -/
theorem eo_none : EvO K B O G tNoPart none := fun B1 O1 σ H _ _ s Q q => q B1 H (Ex.refl _) s.w
theorem eo_some (h : EvD K B O G te (.int i)) : EvO K B O G (tPart te) (some i) := fun B1 O1 σ H e1 o s Q q => h B1 O1 σ H e1 o s _ fun v B2 H2 e2 w2 d2 => ⟨i, dp_int d2, q B2 H2 e2 w2⟩
def cutX (xs : List PyData) (lo hi : Option Int) : List PyData := (xs.drop (HT.sIx xs.length 0 lo)).take (HT.sIx xs.length xs.length hi - HT.sIx xs.length 0 lo)
theorem cut_dps {lo hi : Option Int} {vs : List V} (h : DtAll K B vs ds) : DtAll K B (cutV vs lo hi) (cutX ds lo hi) := by
  unfold cutV cutX
  rw [dps_len h]
  exact dps_take _ (dps_drop _ h)
theorem cut_whole {lo hi : Option Int} {vs : List V} (h : HT.sIx vs.length 0 lo = 0 ∧ HT.sIx vs.length vs.length hi = vs.length) : cutV vs lo hi = vs := by
  unfold cutV
  rw [h.1, h.2]
  simp
theorem ev_slT {to tp : TO} {lo hi : Option Int} (h : EvD K B O G te (.tuple ds)) (h1 : EvO K B O G to lo) (h2 : EvO K B O G tp hi) : EvD K B O G (tSl (rSlA K) te to tp) (.tuple (cutX ds lo hi)) := fun B1 O1 σ H e1 o s Q q =>
  h B1 O1 σ H e1 o s _ fun v B2 H2 e2 w2 d2 => h1 B2 O1 σ H2 (e1.trans e2) o (s.ex e2 w2) _ fun B3 H3 e3 w3 => h2 B3 O1 σ H3 ((e1.trans e2).trans e3) o (s.ex (e2.trans e3) w3) _ fun B4 H4 e4 w4 => by
    obtain ⟨a, xs, rfl, k1, k2⟩ := dp_tup d2
    have k1' := st_ex (e3.trans e4) k1
    have k2' := dps_ex (e3.trans e4) _ _ k2
    refine ⟨a, xs, rfl, st_ex w4.b k1', fun hw => ?_, fun _ p hp => ?_⟩
    · have k3 := cut_dps (lo := lo) (hi := hi) k2'
      rw [cut_whole hw] at k3
      exact q _ B4 H4 ((e2.trans e3).trans e4) w4 (.tup k1' k3)
    · exact q _ (upd B4 p _) _ (((e2.trans e3).trans e4).trans (Ex.new (w4.fb hp))) (w4.newB hp) (.tup (.inl (.inl upd_same)) (dps_ex (Ex.new (w4.fb hp)) _ _ (cut_dps k2')))
theorem ev_slL {to tp : TO} {lo hi : Option Int} (h : EvD K B O G te (.list ds)) (h1 : EvO K B O G to lo) (h2 : EvO K B O G tp hi) : EvD K B O G (tSl (rSlL K) te to tp) (.list (cutX ds lo hi)) := fun B1 O1 σ H e1 o s Q q =>
  h B1 O1 σ H e1 o s _ fun v B2 H2 e2 w2 d2 => h1 B2 O1 σ H2 (e1.trans e2) o (s.ex e2 w2) _ fun B3 H3 e3 w3 => h2 B3 O1 σ H3 ((e1.trans e2).trans e3) o (s.ex (e2.trans e3) w3) _ fun B4 H4 e4 w4 => by
    obtain ⟨a, xs, rfl, k1, k2⟩ := dp_lst d2
    have k1' := (e3.trans e4) _ _ k1
    have k2' := dps_ex (e3.trans e4) _ _ k2
    exact ⟨a, xs, rfl, .inl (.inl (w4.b _ _ k1')), fun p hp => q _ (upd B4 p _) _ (((e2.trans e3).trans e4).trans (Ex.new (w4.fb hp))) (w4.newB hp) (.lst upd_same (dps_ex (Ex.new (w4.fb hp)) _ _ (cut_dps k2')))⟩
end
/-! ### built-ins -/
section
variable {K : PySem.W.Frag} {ds : List PyData}
theorem rc_lenL : RC K (fun xs H Q => ∃ p ys, xs = [.ref p] ∧ (SqL K H p ys ∨ SqT K H p ys) ∧ Q (.int ys.length) H) [.list ds] (.int ds.length) := fun B1 O1 H vs w h Q q => by
  cases h with
  | cons h1 h2 =>
    cases h2
    obtain ⟨a, xs, rfl, k1, k2⟩ := dp_lst h1
    refine ⟨a, xs, rfl, .inl (.inl (.inl (w.b _ _ k1))), ?_⟩
    rw [dps_len k2]
    exact q _ B1 H (Ex.refl _) w (.int _)
theorem rc_lenT : RC K (fun xs H Q => ∃ p ys, xs = [.ref p] ∧ (SqL K H p ys ∨ SqT K H p ys) ∧ Q (.int ys.length) H) [.tuple ds] (.int ds.length) := fun B1 O1 H vs w h Q q => by
  cases h with
  | cons h1 h2 =>
    cases h2
    obtain ⟨a, xs, rfl, k1, k2⟩ := dp_tup h1
    refine ⟨a, xs, rfl, .inr (st_ex w.b k1), ?_⟩
    rw [dps_len k2]
    exact q _ B1 H (Ex.refl _) w (.int _)
theorem rc_listT : RC K (fun xs H Q => ∃ p ys, xs = [.ref p] ∧ (SqL K H p ys ∨ SqT K H p ys) ∧ ∀ l, H l = none → Q (.ref l) (upd H l (.lst ys))) [.tuple ds] (.list ds) := fun B1 O1 H vs w h Q q => by
  cases h with
  | cons h1 h2 =>
    cases h2
    obtain ⟨a, xs, rfl, k1, k2⟩ := dp_tup h1
    exact ⟨a, xs, rfl, .inr (st_ex w.b k1), fun l hl => q _ (upd B1 l _) _ (Ex.new (w.fb hl)) (w.newB hl) (.lst upd_same (dps_ex (Ex.new (w.fb hl)) _ _ k2))⟩
theorem rc_listL : RC K (fun xs H Q => ∃ p ys, xs = [.ref p] ∧ (SqL K H p ys ∨ SqT K H p ys) ∧ ∀ l, H l = none → Q (.ref l) (upd H l (.lst ys))) [.list ds] (.list ds) := fun B1 O1 H vs w h Q q => by
  cases h with
  | cons h1 h2 =>
    cases h2
    obtain ⟨a, xs, rfl, k1, k2⟩ := dp_lst h1
    exact ⟨a, xs, rfl, .inl (.inl (.inl (w.b _ _ k1))), fun l hl => q _ (upd B1 l _) _ (Ex.new (w.fb hl)) (w.newB hl) (.lst upd_same (dps_ex (Ex.new (w.fb hl)) _ _ k2))⟩
theorem rc_tupL : RC K (fun xs H Q => ∃ p ys, xs = [.ref p] ∧ ((SqL K H p ys ∧ ∀ l, H l = none → Q (.ref l) (upd H l (.tup ys))) ∨ (SqT K H p ys ∧ Q (.ref p) H))) [.list ds] (.tuple ds) := fun B1 O1 H vs w h Q q => by
  cases h with
  | cons h1 h2 =>
    cases h2
    obtain ⟨a, xs, rfl, k1, k2⟩ := dp_lst h1
    exact ⟨a, xs, rfl, .inl ⟨.inl (.inl (w.b _ _ k1)), fun l hl => q _ (upd B1 l _) _ (Ex.new (w.fb hl)) (w.newB hl) (.tup (.inl (.inl upd_same)) (dps_ex (Ex.new (w.fb hl)) _ _ k2))⟩⟩
theorem rc_tupT : RC K (fun xs H Q => ∃ p ys, xs = [.ref p] ∧ ((SqL K H p ys ∧ ∀ l, H l = none → Q (.ref l) (upd H l (.tup ys))) ∨ (SqT K H p ys ∧ Q (.ref p) H))) [.tuple ds] (.tuple ds) := fun B1 O1 H vs w h Q q => by
  cases h with
  | cons h1 h2 =>
    cases h2
    obtain ⟨a, xs, rfl, k1, k2⟩ := dp_tup h1
    exact ⟨a, xs, rfl, .inr ⟨st_ex w.b k1, q _ B1 H (Ex.refl _) w (.tup k1 k2)⟩⟩
theorem rc_sum {ns : List Int} : RC K (rSum K) [.list (ns.map .int)] (.int ns.sum) := fun B1 O1 H vs w h Q q => by
  cases h with
  | cons h1 h2 =>
    cases h2
    obtain ⟨a, xs, rfl, k1, k2⟩ := dp_lst h1
    have e := dps_ints k2
    subst e
    exact ⟨a, ns, rfl, .inl (.inl (w.b _ _ k1)), q _ B1 H (Ex.refl _) w (.int _)⟩
theorem rc_all {bs : List Bool} : RC K (rAll K) [.list (bs.map .bool)] (.bool (bs.all id)) := fun B1 O1 H vs w h Q q => by
  cases h with
  | cons h1 h2 =>
    cases h2
    obtain ⟨a, xs, rfl, k1, k2⟩ := dp_lst h1
    have e := dps_bools k2
    subst e
    exact ⟨a, bs, rfl, .inl (.inl (w.b _ _ k1)), q _ B1 H (Ex.refl _) w (.bl _)⟩
theorem rc_any {bs : List Bool} : RC K (rAny K) [.list (bs.map .bool)] (.bool (bs.any id)) := fun B1 O1 H vs w h Q q => by
  cases h with
  | cons h1 h2 =>
    cases h2
    obtain ⟨a, xs, rfl, k1, k2⟩ := dp_lst h1
    have e := dps_bools k2
    subst e
    exact ⟨a, bs, rfl, .inl (.inl (w.b _ _ k1)), q _ B1 H (Ex.refl _) w (.bl _)⟩
theorem rc_intI {i : Int} : RC K (fun xs H Q => (∃ i, xs = [.int i] ∧ Q (.int i) H) ∨ ∃ k, xs = [.bl k] ∧ Q (.int (if k then 1 else 0)) H) [.int i] (.int i) := fun B1 O1 H vs w h Q q => by
  cases h with
  | cons h1 h2 =>
    cases h2
    exact .inl ⟨i, by rw [dp_int h1], q _ B1 H (Ex.refl _) w (.int _)⟩
theorem rc_intB {k : Bool} : RC K (fun xs H Q => (∃ i, xs = [.int i] ∧ Q (.int i) H) ∨ ∃ k, xs = [.bl k] ∧ Q (.int (if k then 1 else 0)) H) [.bool k] (.int (if k then 1 else 0)) := fun B1 O1 H vs w h Q q => by
  cases h with
  | cons h1 h2 =>
    cases h2
    exact .inr ⟨k, by rw [dp_bool h1], q _ B1 H (Ex.refl _) w (.int _)⟩
theorem rc_abs {i : Int} : RC K (fun xs H Q => ∃ i, xs = [.int i] ∧ Q (.int (if i < 0 then -i else i)) H) [.int i] (.int (if i < 0 then -i else i)) := fun B1 O1 H vs w h Q q => by
  cases h with
  | cons h1 h2 =>
    cases h2
    exact ⟨i, by rw [dp_int h1], q _ B1 H (Ex.refl _) w (.int _)⟩
theorem rc_max2 {i j : Int} : RC K (fun xs H Q => ∃ i j, xs = [.int i, .int j] ∧ Q (.int (if j > i then j else i)) H) [.int i, .int j] (.int (if j > i then j else i)) := fun B1 O1 H vs w h Q q => by
  cases h with
  | cons h1 h2 =>
    cases h2 with
    | cons h3 h4 =>
      cases h4
      exact ⟨i, j, by rw [dp_int h1, dp_int h3], q _ B1 H (Ex.refl _) w (.int _)⟩
theorem rc_min2 {i j : Int} : RC K (fun xs H Q => ∃ i j, xs = [.int i, .int j] ∧ Q (.int (if j < i then j else i)) H) [.int i, .int j] (.int (if j < i then j else i)) := fun B1 O1 H vs w h Q q => by
  cases h with
  | cons h1 h2 =>
    cases h2 with
    | cons h3 h4 =>
      cases h4
      exact ⟨i, j, by rw [dp_int h1, dp_int h3], q _ B1 H (Ex.refl _) w (.int _)⟩
end

/-! ### what is walked -/
section
variable (K : PySem.W.Frag) (B O : Hp) (G : List SD)
/-- the walk gives the data es in order -/
structure Gives (J : It) (es : List PyData) (B' : Hp) : Prop where
  walk : ∃ (n : Nat) (G0 : Hp → Prop) (Y : Nat → Hp → V → Hp → Prop), n = es.length ∧ Walk J n G0 Y ∧ (∀ B2 O2 H2, Ex B' B2 → W B2 O2 H2 → G0 H2) ∧
    ∀ i H2 x H3 B2 O2, Ex B' B2 → W B2 O2 H2 → i < n → Y i H2 x H3 → ∃ e B3, es[i]? = some e ∧ Ex B2 B3 ∧ W B3 O2 H3 ∧ Dt K B3 x e
def EvI (wi : TI) (es : List PyData) : Prop := ∀ B1 O1 σ H, Ex B B1 → Ex O O1 → Sta K B1 O1 G σ H → ∀ R : It → Hp → Prop, (∀ J B' H', Ex B1 B' → W B' O1 H' → Gives K J es B' → R J H') → wi σ H R
end
section
variable {K : PySem.W.Frag} {B O : Hp} {G : List SD} {te : TE} {ta : TA} {es ds : List PyData}
theorem ei_list (h : EvD K B O G te (.list es)) : EvI K B O G (iList K te) es := fun B1 O1 σ H e1 o s R r => h B1 O1 σ H e1 o s _ fun v B2 H2 e2 w2 d2 => by
  obtain ⟨a, xs, rfl, k1, k2⟩ := dp_lst d2
  refine ⟨a, rfl, ⟨xs, .inl (.inl (w2.b _ _ k1))⟩, r _ B2 H2 e2 w2 ⟨xs.length, _, _, dps_len k2, walk_list (xs := xs), fun B3 O3 H3 e3 w3 => .inl (.inl (w3.b _ _ (e3 _ _ k1))), fun i H3 x H4 B3 O3 e3 w3 hi y => ?_⟩⟩
  obtain ⟨rfl, hx⟩ := y
  obtain ⟨e, he, hd⟩ := dps_getV k2 hx
  exact ⟨e, B3, he, Ex.refl _, w3, dp_ex e3 _ _ hd⟩
theorem ei_tup (h : EvD K B O G te (.tuple es)) : EvI K B O G (iTup K te) es := fun B1 O1 σ H e1 o s R r => h B1 O1 σ H e1 o s _ fun v B2 H2 e2 w2 d2 => by
  obtain ⟨a, xs, rfl, k1, k2⟩ := dp_tup d2
  refine ⟨a, rfl, ⟨xs, st_ex w2.b k1⟩, r _ B2 H2 e2 w2 ⟨xs.length, _, _, dps_len k2, walk_tup (xs := xs), fun B3 O3 H3 e3 w3 => st_ex (e3.trans w3.b) k1, fun i H3 x H4 B3 O3 e3 w3 hi y => ?_⟩⟩
  obtain ⟨rfl, hx⟩ := y
  obtain ⟨e, he, hd⟩ := dps_getV k2 hx
  exact ⟨e, B3, he, Ex.refl _, w3, dp_ex e3 _ _ hd⟩
def rangeD (lo : Int) (n : Nat) : List PyData := (List.range n).map fun (i : Nat) => .int (lo + i)
theorem rangeD_get {lo : Int} {n i : Nat} (h : i < n) : (rangeD lo n)[i]? = some (.int (lo + i)) := by
  unfold rangeD
  rw [List.getElem?_map, List.getElem?_range h]
  rfl
theorem rangeD_len {lo : Int} {n : Nat} : (rangeD lo n).length = n := by
  unfold rangeD
  rw [List.length_map, List.length_range]
theorem ei_range1 {j : Int} (h : EvA K B O G ta [.int j]) (hj : -1000000 ≤ j ∧ j ≤ 1000000) : EvI K B O G (iRng1 ta) (rangeD 0 j.toNat) := fun B1 O1 σ H e1 o s R r => h B1 O1 σ H e1 o s _ fun vs B2 H2 e2 w2 d2 => by
  have e := dps_ints (ns := [j]) d2
  refine ⟨j, e, by omega, by omega, r _ B2 H2 e2 w2 ⟨j.toNat, _, _, rangeD_len.symm, walk_range, fun _ _ _ _ _ => trivial, fun i H3 x H4 B3 O3 e3 w3 hi y => ?_⟩⟩
  obtain ⟨rfl, rfl⟩ := y
  exact ⟨_, B3, rangeD_get hi, Ex.refl _, w3, .int _⟩
theorem ei_range2 {i j : Int} (h : EvA K B O G ta [.int i, .int j]) (hi : -1000000 ≤ i ∧ i ≤ 1000000) (hj : -1000000 ≤ j ∧ j ≤ 1000000) : EvI K B O G (iRng2 ta) (rangeD i (j - i).toNat) := fun B1 O1 σ H e1 o s R r => h B1 O1 σ H e1 o s _ fun vs B2 H2 e2 w2 d2 => by
  have e := dps_ints (ns := [i, j]) d2
  refine ⟨i, j, e, by omega, r _ B2 H2 e2 w2 ⟨(j - i).toNat, _, _, rangeD_len.symm, walk_range, fun _ _ _ _ _ => trivial, fun k H3 x H4 B3 O3 e3 w3 hi y => ?_⟩⟩
  obtain ⟨rfl, rfl⟩ := y
  exact ⟨_, B3, rangeD_get hi, Ex.refl _, w3, .int _⟩
def enumD (es : List PyData) : List PyData := (List.range es.length).map fun (i : Nat) => .tuple [.int i, es.getD i .none]
theorem enumD_len : (enumD es).length = es.length := by
  unfold enumD
  rw [List.length_map, List.length_range]
theorem enumD_get {i : Nat} {e : PyData} (h : es[i]? = some e) : (enumD es)[i]? = some (.tuple [.int i, e]) := by
  have hi : i < es.length := (List.getElem?_eq_some_iff.mp h).1
  unfold enumD
  rw [List.getElem?_map, List.getElem?_range hi]
  have : es.getD i PyData.none = e := by rw [List.getD_eq_getElem?_getD, h]; rfl
  simp [this, h]
theorem pair_new {B2 O2 H2 : Hp} {T : Addr} {x y : V} {d e : PyData} (w : W B2 O2 H2) (hT : H2 T = none) (hx : Dt K B2 x d) (hy : Dt K B2 y e) :
    Ex B2 (upd B2 T (.tup [x, y])) ∧ W (upd B2 T (.tup [x, y])) O2 (upd H2 T (.tup [x, y])) ∧ Dt K (upd B2 T (.tup [x, y])) (.ref T) (.tuple [d, e]) :=
  ⟨Ex.new (w.fb hT), w.newB hT, .tup (.inl (.inl upd_same)) (dps_ex (Ex.new (w.fb hT)) _ _ (.cons hx (.cons hy .nil)))⟩
theorem ei_enum (h : EvA K B O G ta [.list es]) : EvI K B O G (iEnum K ta) (enumD es) := fun B1 O1 σ H e1 o s R r => h B1 O1 σ H e1 o s _ fun vs B2 H2 e2 w2 d2 => by
  cases d2 with
  | cons d3 d4 =>
    cases d4
    obtain ⟨a, xs, rfl, k1, k2⟩ := dp_lst d3
    refine ⟨a, xs, rfl, .inl (.inl (w2.b _ _ k1)), r _ B2 H2 e2 w2 ⟨xs.length, _, _, by rw [enumD_len]; exact dps_len k2, walk_enum (xs := xs), fun B3 O3 H3 e3 w3 => .inl (.inl (w3.b _ _ (e3 _ _ k1))), fun i H3 x H4 B3 O3 e3 w3 hi y => ?_⟩⟩
    obtain ⟨T, x', y', rfl, hT, rfl, hx, hy⟩ := y
    cases hx
    obtain ⟨e, he, hd⟩ := dps_getV k2 hy
    obtain ⟨q1, q2, q3⟩ := pair_new w3 hT (.int (i : Nat)) (dp_ex e3 _ _ hd)
    exact ⟨_, _, enumD_get he, q1, q2, q3⟩
end
/-! ### targets -/
/-- the target takes the data e: G becomes G' -/
def EvG (K : PySem.W.Frag) (R : L2.St → L2.St → Prop) (g : TG) (G : List SD) (e : PyData) (G' : List SD) : Prop :=
  ∀ B1 O1 σ H v, Sta K B1 O1 G σ H → Dt K B1 v e → ∀ Q : L2.St → Hp → Prop, (∀ σ', Sta K B1 O1 G' σ' H → R σ σ' → Q σ' H) → g v σ H Q
theorem wipe_get (σ : L2.St) (i : Nat) : ∀ vs : List Nat, (L2.wipe σ vs)[i]? = if i ∈ vs then (if i < σ.length then some none else none) else σ[i]?
  | [] => by simp [L2.wipe]
  | v :: vs => by
    unfold L2.wipe
    rw [List.getElem?_set]
    by_cases h : v = i
    · subst h
      simp [wipe_length]
    · rw [if_neg h, wipe_get σ i vs]
      have h' : ¬ i = v := fun e => h e.symm
      simp [h']
theorem wipe_set {σ : L2.St} {j : Nat} {x : Option V} {vs : List Nat} (h : j ∈ vs) : L2.wipe (σ.set j x) vs = L2.wipe σ vs := by
  apply List.ext_getElem?
  intro i
  rw [wipe_get, wipe_get, List.length_set]
  by_cases hi : i ∈ vs
  · simp [hi]
  · rw [if_neg hi, if_neg hi, List.getElem?_set_ne (by rintro rfl; exact hi h)]
theorem wipe_wipe {σ : L2.St} {vs : List Nat} : L2.wipe (L2.wipe σ vs) vs = L2.wipe σ vs := by
  apply List.ext_getElem?
  intro i
  rw [wipe_get, wipe_get, wipe_length]
  by_cases hi : i ∈ vs <;> simp [hi]
section
variable {K : PySem.W.Frag} {G : List SD} {e a b : PyData} {j k : Nat} {vs : List Nat} {n : Nat}
abbrev RW (vs : List Nat) : L2.St → L2.St → Prop := fun σ σ' => L2.wipe σ' vs = L2.wipe σ vs
abbrev RT : L2.St → L2.St → Prop := fun _ _ => True
theorem eg_name : EvG K RT (gName j) G e (G.set j (.dat e)) := fun B1 O1 σ H v s d Q q => q _ (s.set j d) trivial
theorem eg_nameW (h : j ∈ vs) : EvG K (RW vs) (gName j) G e (G.set j (.dat e)) := fun B1 O1 σ H v s d Q q => q _ (s.set j d) (wipe_set h)
theorem eg_pair : EvG K RT (gTup K 2 (gCons (gName j) (gCons (gName k) gNil))) G (.tuple [a, b]) ((G.set j (.dat a)).set k (.dat b)) := fun B1 O1 σ H v s d Q q => by
  obtain ⟨p, xs, rfl, h1, h2⟩ := dp_tup d
  have hl := dps_len h2
  cases h2 with
  | cons h3 h4 =>
    cases h4 with
    | cons h5 h6 =>
      cases h6
      refine ⟨p, _, rfl, st_ex s.w.b h1, rfl, _, _, rfl, _, _, rfl, rfl, q _ ((s.set j h3).set k h5) trivial⟩
theorem eg_pairW (hj : j ∈ vs) (hk : k ∈ vs) : EvG K (RW vs) (gTup K 2 (gCons (gName j) (gCons (gName k) gNil))) G (.tuple [a, b]) ((G.set j (.dat a)).set k (.dat b)) := fun B1 O1 σ H v s d Q q => by
  obtain ⟨p, xs, rfl, h1, h2⟩ := dp_tup d
  cases h2 with
  | cons h3 h4 =>
    cases h4 with
    | cons h5 h6 =>
      cases h6
      refine ⟨p, _, rfl, st_ex s.w.b h1, rfl, _, _, rfl, _, _, rfl, rfl, q _ ((s.set j h3).set k h5) ?_⟩
      show L2.wipe ((σ.set j _).set k _) vs = _
      rw [wipe_set hk, wipe_set hj]
end
/-! ### comprehensions -/
section
variable {K : PySem.W.Frag} {B O : Hp} {G : List SD} {wi : TI} {g : TG} {tt : TT} {te : TE} {vs : List Nat} {es : List PyData}
theorem ev_lc (f : PyData → Bool) (v : PyData → PyData) (Gi : PyData → List SD) (hI : EvI K B O G wi es) (hz : es.length ≤ 100000)
    (hg : ∀ e, e ∈ es → EvG K (RW vs) g (wipeG G vs) e (Gi e)) (ht : ∀ e, e ∈ es → EvT K B O (Gi e) tt (f e)) (he : ∀ e, e ∈ es → f e = true → EvD K B O (Gi e) te (v e)) :
    EvD K B O G (tLc wi g tt te vs) (.list ((es.filter f).map v)) := fun B1 O1 σ H e1 o s Q q => by
  refine hI B1 O1 σ H e1 o s _ fun J B2 H2 e2 w2 gv D hD => ?_
  obtain ⟨n, G0, Y, hn, wk, hG0, hY⟩ := gv
  have oD : O1 D = none := w2.fo hD
  refine lc_it wk (fun i H' => ∃ B' acc, Ex B2 B' ∧ W B' (upd O1 D (.lst acc)) H' ∧ DtAll K B' acc (((es.take i).filter f).map v))
    ⟨B2, [], Ex.refl _, w2.newO hD, by simp; exact .nil⟩ (fun i H' _ ⟨B', acc, e', w', _⟩ => hG0 B' _ H' e' w') ?_ ?_
  · rintro i x H3 H4 hi ⟨B3, acc, e3, w3, da⟩ y
    obtain ⟨e, B4, hie, e4, w4, dx⟩ := hY i H3 x H4 B3 _ e3 w3 hi y
    have hm : e ∈ es := List.mem_of_getElem? hie
    have s4 : Sta K B4 (upd O1 D (.lst acc)) (wipeG G vs) (L2.wipe σ vs) H4 := ⟨w4, (s.s.ex ((e2.trans e3).trans e4)).wipe vs⟩
    have hOD : Ex O (upd O1 D (.lst acc)) := o.trans (Ex.new oD)
    refine hg e hm B4 _ _ H4 x s4 dx _ fun σ' s5 r5 => ⟨r5.trans wipe_wipe, ?_⟩
    have hlen : acc.length ≤ 100000 := by
      rw [dps_len da, List.length_map]
      have h1 := List.length_filter_le f (es.take i)
      have h2 : (es.take i).length ≤ es.length := List.length_take_le' i es
      omega
    refine ht e hm B4 _ σ' H4 (e1.trans ((e2.trans e3).trans e4)) hOD s5 _ fun B5 H5 e5 w5 => ?_
    have htk : es.take (i + 1) = es.take i ++ [e] := by
      rw [List.take_add_one, hie]
      rfl
    cases hf : f e with
    | true =>
      show te σ' H5 _
      refine he e hm hf B5 _ σ' H5 (e1.trans (((e2.trans e3).trans e4).trans e5)) hOD (s5.ex e5 w5) _ fun u B6 H6 e6 w6 d6 => ?_
      refine ⟨acc, w6.o D _ upd_same, Nat.lt_of_le_of_lt hlen (by decide), B6, acc ++ [u], ((e3.trans e4).trans e5).trans e6, ?_, ?_⟩
      · have := w6.mut (v := .lst (acc ++ [u])) upd_same
        rw [upd_upd] at this
        exact this
      · rw [htk, List.filter_append, List.map_append]
        refine dps_app (dps_ex ((e4.trans e5).trans e6) _ _ da) ?_
        simp [hf]
        exact dps_one d6
    | false =>
      show ∃ B' acc, _
      refine ⟨B5, acc, (e3.trans e4).trans e5, w5, ?_⟩
      rw [htk, List.filter_append, List.map_append]
      simp [hf]
      have := dps_ex (e4.trans e5) _ _ da
      simpa using this
  · rintro H3 ⟨B3, acc, e3, w3, da⟩
    rw [hn, List.take_length] at da
    exact q _ (upd B3 D (.lst acc)) H3 ((e2.trans e3).trans (Ex.new (w3.bnone upd_same))) (w3.give oD) (.lst upd_same (dps_ex (Ex.new (w3.bnone upd_same)) _ _ da))
end
end DL
namespace DL
open PySem L2 StX
section
variable {K : PySem.W.Frag} {B O : Hp} {G : List SD} {te : TE} {d e : PyData}
theorem rd_eqS {b : Bool} (hd : flatD d = true) (he : flatD e = true) (hs : scal (fv d) (fv e) = true) (h : decide (fv d = fv e) = b) : RD K rEq d e (.bool b) := fun B1 O1 H v w hw hv hx Q q => by
  obtain ⟨e1, _⟩ := fv_of hv hd
  obtain ⟨e2, _⟩ := fv_of hx he
  rw [e1, e2]
  refine ⟨hs, ?_⟩
  rw [h]
  exact q _ B1 H (Ex.refl _) hw (.bl _)
theorem rd_neS {b : Bool} (hd : flatD d = true) (he : flatD e = true) (hs : scal (fv d) (fv e) = true) (h : (!decide (fv d = fv e)) = b) : RD K rNe d e (.bool b) := fun B1 O1 H v w hw hv hx Q q => by
  obtain ⟨e1, _⟩ := fv_of hv hd
  obtain ⟨e2, _⟩ := fv_of hx he
  rw [e1, e2]
  refine ⟨hs, ?_⟩
  rw [h]
  exact q _ B1 H (Ex.refl _) hw (.bl _)
theorem rd_eqStr {x y : Str} : RD K rEq (.str x) (.str y) (.bool (x == y)) := rd_eqS rfl rfl rfl dec_str
theorem rd_eqInt {x y : Int} : RD K rEq (.int x) (.int y) (.bool (x == y)) := rd_eqS rfl rfl rfl dec_int
theorem rd_neInt {x y : Int} : RD K rNe (.int x) (.int y) (.bool (!(x == y))) := rd_neS rfl rfl rfl (by rw [show decide (fv (.int x) = fv (.int y)) = (x == y) from dec_int])
/-- x is None -/
theorem ev_isNone {tb : TE} {b : Bool} {ta : TE} (h : EvD K B O G ta d) (hb : EvD K B O G tb .none) (e : (match d with | .none => true | _ => false) = b) : EvD K B O G (tOp (fun x y H Q => y = .non ∧ Q (.bl (decide (x = .non))) H) ta tb) (.bool b) :=
  ev_op h hb fun B1 O1 H v w hw hv hx Q q => ⟨dp_none hx, by
    have : decide (v = V.non) = b := by
      rw [← e]
      cases hv <;> simp
    rw [this]
    exact q _ B1 H (Ex.refl _) hw (.bl b)⟩
end
end DL

set_option Elab.async false
set_option linter.all false
set_option maxRecDepth 100000
set_option maxHeartbeats 2000000
namespace DL
open PySem PySem.Spec PyProof.Rows L2 StX
/-! ### statements -/
section
variable {K : PySem.W.Frag} {B O : Hp} {G : List SD} {σ : L2.St} {H : Hp} {te ta tb : TE} {tt : TT} {tu tw tz : TS} {D : Ends} {d : PyData} {ds : List PyData} {i : Nat}
theorem s_asg (s : Sta K B O G σ H) (h : EvD K B O G te d) (k : ∀ v B' H', Ex B B' → Dt K B' v d → Sta K B' O (G.set i (.dat d)) (σ.set i (some v)) H' → D.nx (σ.set i (some v)) H') : tAsg te (gName i) D σ H :=
  h B O σ H (Ex.refl _) (Ex.refl _) s _ fun v B' H' e w dv => k v B' H' e dv ((s.ex e w).set i dv)
theorem q_asg (s : Sta K B O G σ H) (h : EvD K B O G te d) (k : ∀ v B' H', Ex B B' → Dt K B' v d → Sta K B' O (G.set i (.dat d)) (σ.set i (some v)) H' → tz D (σ.set i (some v)) H') : tSeq (tAsg te (gName i)) tz D σ H := s_asg (D := { D with nx := tz D }) s h k
theorem s_ret (s : Sta K B O G σ H) (h : EvD K B O G te d) (k : ∀ v B' H', Ex B B' → W B' O H' → Dt K B' v d → D.rt v H') : tRet te D σ H :=
  h B O σ H (Ex.refl _) (Ex.refl _) s _ fun v B' H' e w dv => k v B' H' e w dv
theorem s_if {b : Bool} (s : Sta K B O G σ H) (h : EvT K B O G tt b) (h1 : b = true → ∀ B' H', Ex B B' → Sta K B' O G σ H' → tu D σ H') (h2 : b = false → ∀ B' H', Ex B B' → Sta K B' O G σ H' → tw D σ H') : tIfS tt tu tw D σ H :=
  h B O σ H (Ex.refl _) (Ex.refl _) s _ fun B' H' e w => by
    cases b with
    | true =>
      show tu D σ H'
      exact h1 rfl B' H' e (s.ex e w)
    | false =>
      show tw D σ H'
      exact h2 rfl B' H' e (s.ex e w)
theorem q_if {b : Bool} (s : Sta K B O G σ H) (h : EvT K B O G tt b) (h1 : b = true → ∀ B' H', Ex B B' → Sta K B' O G σ H' → tu { D with nx := tz D } σ H') (h2 : b = false → ∀ B' H', Ex B B' → Sta K B' O G σ H' → tw { D with nx := tz D } σ H') : tSeq (tIfS tt tu tw) tz D σ H := s_if (D := { D with nx := tz D }) s h h1 h2
/-- an if that ends the def -/
theorem q_when {b : Bool} (s : Sta K B O G σ H) (h : EvT K B O G tt b) (h1 : b = true → ∀ B' H', Ex B B' → Sta K B' O G σ H' → tu { D with nx := tz D } σ H') (h2 : b = false → ∀ B' H', Ex B B' → Sta K B' O G σ H' → tz D σ H') : tSeq (tIfS tt tu tNext) tz D σ H := q_if s h h1 h2
theorem q_whenF (s : Sta K B O G σ H) (h : EvT K B O G tt false) (h2 : ∀ B' H', Ex B B' → Sta K B' O G σ H' → tz D σ H') : tSeq (tIfS tt tu tNext) tz D σ H := q_if s h (fun z => nomatch z) fun _ => h2
theorem q_whenT (s : Sta K B O G σ H) (h : EvT K B O G tt true) (h1 : ∀ B' H', Ex B B' → Sta K B' O G σ H' → tu { D with nx := tz D } σ H') : tSeq (tIfS tt tu tNext) tz D σ H := q_if s h (fun _ => h1) fun z => nomatch z
/-- a new list that will be changed -/
def EvL (K : PySem.W.Frag) (B O : Hp) (G : List SD) (te : TE) (ds : List PyData) : Prop := ∀ B1 O1 σ H, Ex B B1 → Ex O O1 → Sta K B1 O1 G σ H → ∀ Q : VK, (∀ p vs B' H', Ex B1 B' → O1 p = none → W B' (upd O1 p (.lst vs)) H' → DtAll K B' vs ds → Q (.ref p) H') → te σ H Q
theorem el_lst {t : TA} (h : EvA K B O G t ds) (hl : ds.length ≤ 100000) : EvL K B O G (tLst t) ds := fun B1 O1 σ H e o s Q q =>
  h B1 O1 σ H e o s _ fun vs B2 H2 e2 w2 d2 => ⟨by rw [dps_len d2]; exact sz_of hl, fun p hp => q p vs B2 _ e2 (w2.fo hp) (w2.newO hp) d2⟩
theorem el_listL (h : EvD K B O G te (.list ds)) : EvL K B O G (tCB (fun xs H Q => ∃ p ys, xs = [.ref p] ∧ (SqL K H p ys ∨ SqT K H p ys) ∧ ∀ l, H l = none → Q (.ref l) (upd H l (.lst ys))) (tCons te tNil)) ds := fun B1 O1 σ H e o s Q q =>
  h B1 O1 σ H e o s _ fun v B2 H2 e2 w2 d2 => by
    obtain ⟨a, xs, rfl, k1, k2⟩ := dp_lst d2
    exact ⟨a, xs, rfl, .inl (.inl (.inl (w2.b _ _ k1))), fun l hl => q l xs B2 _ e2 (w2.fo hl) (w2.newO hl) k2⟩
theorem q_asgL (s : Sta K B O G σ H) (h : EvL K B O G te ds) (k : ∀ p vs B' H', Ex B B' → O p = none → DtAll K B' vs ds → Sta K B' (upd O p (.lst vs)) (G.set i (.val (.ref p))) (σ.set i (some (.ref p))) H' → tz D (σ.set i (some (.ref p))) H') : tSeq (tAsg te (gName i)) tz D σ H :=
  h B O σ H (Ex.refl _) (Ex.refl _) s _ fun p vs B' H' e hp w dv => k p vs B' H' e hp dv ⟨w, (s.s.ex e).set i rfl⟩
/-- append to an owned list -/
theorem s_app {l : Addr} {vs : List V} (s : Sta K B O G σ H) (hg : G[i]? = some (.val (.ref l))) (ho : O l = some (.lst vs)) (hz : vs.length < 100000) (h : EvD K B O G te d)
    (k : ∀ v B' H', Ex B B' → Dt K B' v d → Sta K B' (upd O l (.lst (vs ++ [v]))) G σ H' → D.nx σ H') : tDrop (tBM K "list" rAppend (tVar i) (tCons te tNil)) D σ H := by
  obtain ⟨sv, h1, h2⟩ := s.s.get hg
  have h3 : sv = some (.ref l) := h2
  subst h3
  refine ⟨_, h1, .inl ⟨rfl, _, SqL.of (s.w.o _ _ ho)⟩, ?_⟩
  refine h B O σ H (Ex.refl _) (Ex.refl _) s _ fun v B' H' e w dv => ?_
  exact ⟨l, vs, v, rfl, rfl, w.o _ _ ho, Nat.lt_of_lt_of_le hz (by decide), k v B' _ e dv ⟨w.mut ho, s.s.ex e⟩⟩
theorem q_app {l : Addr} {vs : List V} (s : Sta K B O G σ H) (hg : G[i]? = some (.val (.ref l))) (ho : O l = some (.lst vs)) (hz : vs.length < 100000) (h : EvD K B O G te d)
    (k : ∀ v B' H', Ex B B' → Dt K B' v d → Sta K B' (upd O l (.lst (vs ++ [v]))) G σ H' → tz D σ H') : tSeq (tDrop (tBM K "list" rAppend (tVar i) (tCons te tNil))) tz D σ H := s_app (D := { D with nx := tz D }) s hg ho hz h k
theorem q_extend {l : Addr} {vs : List V} (s : Sta K B O G σ H) (hg : G[i]? = some (.val (.ref l))) (ho : O l = some (.lst vs)) (hz : vs.length + ds.length ≤ 100000) (h : EvD K B O G te (.list ds))
    (k : ∀ ws B' H', Ex B B' → DtAll K B' ws ds → Sta K B' (upd O l (.lst (vs ++ ws))) G σ H' → D.nx σ H') : tDrop (tBM K "list" rExtend (tVar i) (tCons te tNil)) D σ H := by
  obtain ⟨sv, h1, h2⟩ := s.s.get hg
  have h3 : sv = some (.ref l) := h2
  subst h3
  refine ⟨_, h1, .inl ⟨rfl, _, SqL.of (s.w.o _ _ ho)⟩, ?_⟩
  refine h B O σ H (Ex.refl _) (Ex.refl _) s _ fun v B' H' e w dv => ?_
  obtain ⟨b, zs, rfl, k1, k2⟩ := dp_lst dv
  exact ⟨l, b, vs, zs, rfl, rfl, w.o _ _ ho, w.b _ _ k1, sz_of (by rw [dps_len k2]; exact hz), k zs B' _ e k2 ⟨w.mut ho, s.s.ex e⟩⟩
/-- x[j] = e of an owned list -/
theorem s_setO {l : Addr} {vs : List V} {z : Int} {j : Nat} {ti : TE} (s : Sta K B O G σ H) (hg : G[i]? = some (.val (.ref l))) (ho : O l = some (.lst vs)) (h : EvD K B O G te d) (hi : EvD K B O G ti (.int z)) (hj : ixN vs.length z = some j)
    (k : ∀ v B' H', Ex B B' → Dt K B' v d → Sta K B' (upd O l (.lst (vs.set j v))) G σ H' → D.nx σ H') : tAsg te (gSub (tVar i) ti rSetL) D σ H := by
  obtain ⟨sv, h1, h2⟩ := s.s.get hg
  have h3 : sv = some (.ref l) := h2
  subst h3
  refine h B O σ H (Ex.refl _) (Ex.refl _) s _ fun v B' H' e w dv => ?_
  refine ⟨_, h1, ?_⟩
  refine hi B' O σ H' e (Ex.refl _) (s.ex e w) _ fun v2 B2 H2 e2 w2 dv2 => ?_
  rw [dp_int dv2]
  exact ⟨l, vs, z, j, rfl, rfl, w2.o _ _ ho, hj, k v B2 _ (e.trans e2) (dp_ex e2 _ _ dv) ⟨w2.mut ho, s.s.ex (e.trans e2)⟩⟩
theorem q_setO {l : Addr} {vs : List V} {z : Int} {j : Nat} {ti : TE} (s : Sta K B O G σ H) (hg : G[i]? = some (.val (.ref l))) (ho : O l = some (.lst vs)) (h : EvD K B O G te d) (hi : EvD K B O G ti (.int z)) (hj : ixN vs.length z = some j)
    (k : ∀ v B' H', Ex B B' → Dt K B' v d → Sta K B' (upd O l (.lst (vs.set j v))) G σ H' → tz D σ H') : tSeq (tAsg te (gSub (tVar i) ti rSetL)) tz D σ H := s_setO (D := { D with nx := tz D }) s hg ho h hi hj k
/-- an owned list is read -/
theorem ev_ixO {l : Addr} {vs : List V} {z : Int} (hg : G[i]? = some (.val (.ref l))) (ho : O l = some (.lst vs)) (hv : DtAll K B vs ds) (hb : EvD K B O G tb (.int z)) (h : atI ds z = some d) : EvD K B O G (tOp (rIxL K) (tVar i) tb) d := fun B1 O1 σ H e o s Q q => by
  obtain ⟨sv, h1, h2⟩ := s.s.get hg
  have h3 : sv = some (.ref l) := h2
  subst h3
  refine ⟨_, h1, ?_⟩
  refine hb B1 O1 σ H e o s _ fun v B2 H2 e2 w2 d2 => ?_
  obtain ⟨v', h4, h5⟩ := atI_get (dps_ex (e.trans e2) _ _ hv) h
  rw [dp_int d2]
  exact ⟨l, vs, z, v', rfl, rfl, .inl (.inl (w2.o _ _ (o _ _ ho))), h4, q _ B2 H2 e2 w2 h5⟩
theorem ev_lenO {l : Addr} {vs : List V} (hg : G[i]? = some (.val (.ref l))) (ho : O l = some (.lst vs)) : EvD K B O G (tCB (fun xs H Q => ∃ p ys, xs = [.ref p] ∧ (SqL K H p ys ∨ SqT K H p ys) ∧ Q (.int ys.length) H) (tCons (tVar i) tNil)) (.int vs.length) := fun B1 O1 σ H e o s Q q => by
  obtain ⟨sv, h1, h2⟩ := s.s.get hg
  have h3 : sv = some (.ref l) := h2
  subst h3
  exact ⟨_, h1, l, vs, rfl, .inl (.inl (.inl (s.w.o _ _ (o _ _ ho)))), q _ B1 H (Ex.refl _) s.w (.int _)⟩
/-- tuple(x) of an owned list -/
theorem ev_tupO {l : Addr} {vs : List V} (hg : G[i]? = some (.val (.ref l))) (ho : O l = some (.lst vs)) (hv : DtAll K B vs ds) : EvD K B O G (tCB (fun xs H Q => ∃ p ys, xs = [.ref p] ∧ ((SqL K H p ys ∧ ∀ l, H l = none → Q (.ref l) (upd H l (.tup ys))) ∨ (SqT K H p ys ∧ Q (.ref p) H))) (tCons (tVar i) tNil)) (.tuple ds) := fun B1 O1 σ H e o s Q q => by
  obtain ⟨sv, h1, h2⟩ := s.s.get hg
  have h3 : sv = some (.ref l) := h2
  subst h3
  exact ⟨_, h1, l, vs, rfl, .inl ⟨.inl (.inl (s.w.o _ _ (o _ _ ho))), fun p hp => q _ (upd B1 p _) _ (Ex.new (s.w.fb hp)) (s.w.newB hp) (.tup (.inl (.inl upd_same)) (dps_ex (e.trans (Ex.new (s.w.fb hp))) _ _ hv))⟩⟩
/-- an owned list is given back -/
theorem s_retO {l : Addr} {vs : List V} {O0 : Hp} (s : Sta K B O G σ H) (hg : G[i]? = some (.val (.ref l))) (ho : O = upd O0 l (.lst vs)) (hn : O0 l = none) (hv : DtAll K B vs ds) (k : ∀ B' H', Ex B B' → W B' O0 H' → Dt K B' (.ref l) (.list ds) → D.rt (.ref l) H') : tRet (tVar i) D σ H := by
  subst ho
  obtain ⟨sv, h1, h2⟩ := s.s.get hg
  have h3 : sv = some (.ref l) := h2
  subst h3
  have hb := s.w.bnone upd_same
  exact ⟨_, h1, k (upd B l (.lst vs)) H (Ex.new hb) (s.w.give hn) (.lst upd_same (dps_ex (Ex.new hb) _ _ hv))⟩
/-! loops -/
theorem s_for {wi : TI} {g : TG} {es : List PyData} (s : Sta K B O G σ H) (hI : EvI K B O G wi es) (P : Nat → Hp → Hp → List SD → Prop) (mono : ∀ i B1 B2 O1 G1, Ex B1 B2 → P i B1 O1 G1 → P i B2 O1 G1)
    (h0 : P 0 B O G)
    (hs : ∀ i e B1 O1 G1 σ1 H1 v, es[i]? = some e → Ex B B1 → P i B1 O1 G1 → Sta K B1 O1 G1 σ1 H1 → Dt K B1 v e → ∀ N : L2.St → Hp → Prop, (∀ B' O' G' σ' H', Ex B1 B' → P (i + 1) B' O' G' → Sta K B' O' G' σ' H' → N σ' H') → g v σ1 H1 fun σ2 H2 => tu { D with nx := N, ct := N, bk := D.nx } σ2 H2)
    (hd : ∀ B1 O1 G1 σ1 H1, Ex B B1 → P es.length B1 O1 G1 → Sta K B1 O1 G1 σ1 H1 → D.nx σ1 H1) : tFor wi g tu D σ H := by
  refine hI B O σ H (Ex.refl _) (Ex.refl _) s _ fun J B2 H2 e2 w2 gv => ?_
  obtain ⟨n, G0, Y, hn, wk, hG0, hY⟩ := gv
  refine for_it wk (fun i σ' H' => ∃ B' O' G', Ex B2 B' ∧ P i B' O' G' ∧ Sta K B' O' G' σ' H') ⟨B2, O, G, Ex.refl _, mono _ _ _ _ _ e2 h0, s.ex e2 w2⟩ (fun i σ' H' _ ⟨B', O', G', e', p', s'⟩ => hG0 B' O' H' e' s'.w) ?_ ?_
  · rintro i x σ' H3 H4 hi ⟨B3, O3, G3, e3, p3, s3⟩ y
    obtain ⟨e, B4, hie, e4, w4, dx⟩ := hY i H3 x H4 B3 _ e3 s3.w hi y
    refine hs i e B4 O3 G3 σ' H4 x hie ((e2.trans e3).trans e4) (mono _ _ _ _ _ e4 p3) ⟨w4, s3.s.ex e4⟩ dx _ fun B' O' G' σ2 H5 e5 p5 s5 => ⟨B', O', G', (e3.trans e4).trans e5, p5, s5⟩
  · rintro σ' H3 ⟨B3, O3, G3, e3, p3, s3⟩
    exact hd B3 O3 G3 σ' H3 (e2.trans e3) (by rw [← hn]; exact p3) s3
theorem q_for {wi : TI} {g : TG} {es : List PyData} (s : Sta K B O G σ H) (hI : EvI K B O G wi es) (P : Nat → Hp → Hp → List SD → Prop) (mono : ∀ i B1 B2 O1 G1, Ex B1 B2 → P i B1 O1 G1 → P i B2 O1 G1)
    (h0 : P 0 B O G)
    (hs : ∀ i e B1 O1 G1 σ1 H1 v, es[i]? = some e → Ex B B1 → P i B1 O1 G1 → Sta K B1 O1 G1 σ1 H1 → Dt K B1 v e → ∀ N : L2.St → Hp → Prop, (∀ B' O' G' σ' H', Ex B1 B' → P (i + 1) B' O' G' → Sta K B' O' G' σ' H' → N σ' H') → g v σ1 H1 fun σ2 H2 => tu { D with nx := N, ct := N, bk := tz D } σ2 H2)
    (hd : ∀ B1 O1 G1 σ1 H1, Ex B B1 → P es.length B1 O1 G1 → Sta K B1 O1 G1 σ1 H1 → tz D σ1 H1) : tSeq (tFor wi g tu) tz D σ H := s_for (D := { D with nx := tz D }) s hI P mono h0 hs hd
end

/-! ### defs -/
/-- the promise of a def of data: R tells the arguments and the answer -/
def SpR (K : PySem.W.Frag) (R : List PyData → PyData → Prop) : Sp := fun vs H Q _ => ∃ B O ds d, W B O H ∧ DtAll K B vs ds ∧ R ds d ∧ ∀ v B' H', Ex B B' → W B' O H' → Dt K B' v d → Q v H'
section
variable {K : PySem.W.Frag} {B O : Hp} {G : List SD} {R : List PyData → PyData → Prop} {ds : List PyData} {d : PyData} {t : TA} {E : XK}
theorem ev_call (h : EvA K B O G t ds) (hr : R ds d) : EvD K B O G (tCall (SpR K R) [] E t) d := fun B1 O1 σ H e o s Q q =>
  h B1 O1 σ H e o s _ fun vs B2 H2 e2 w2 d2 => by
    rw [List.append_nil]
    exact ⟨B2, O1, ds, d, w2, d2, hr, fun v B3 H3 e3 w3 d3 => q v B3 H3 (e2.trans e3) w3 d3⟩
end
def gOf (ds : List PyData) (n : Nat) : List SD := ds.map SD.dat ++ List.replicate n .un
theorem slots_start {K : PySem.W.Frag} {B : Hp} : ∀ {vs : List V} {ds : List PyData}, DtAll K B vs ds → ∀ n, Slots K B (vs.map some ++ List.replicate n none) (gOf ds n)
  | _, _, .nil, 0 => trivial
  | _, _, .nil, n + 1 => ⟨trivial, slots_start (ds := []) .nil n⟩
  | _, _, .cons h t, n => ⟨⟨_, rfl, h⟩, slots_start t n⟩
section
variable {P : Program} {w : World} {K : PySem.W.Frag} {mg : Str → Option Value} {base : Heap}
theorem ok_fn {x qual : Str} {st : Stmt} {f : Addr} {fd : FuncData} {N ps : List Str} {k : Nat} {R : List PyData → PyData → Prop} (F : Fun K x qual st f fd) (S : FnScope N ps (defScope st)) (hl : ∀ ds d, R ds d → ds.length = ps.length)
    (hb : ∀ (cdv : Value) (A : Around) (outer : List Env) (s : Shared) (H0 : Hp) (E : XK), Room k (A.deeper (envOfC qual (defScope st) s.heap.objs.size f cdv)) → ∀ ds d, R ds d →
      ∃ t, PSs (cxOf CX0 P w K mg base N qual (defScope st) f cdv A outer s H0 E).nox (defBody st) t ∧
        ∀ B O σ H (Q : VK), Sta K B O (gOf ds (N.length - ps.length)) σ H → (∀ v B' H', Ex B B' → W B' O H' → Dt K B' v d → Q v H') → t { nx := fun _ H' => Q .non H', rt := Q } σ H) :
    FnOk P w K mg base CX0 (k + 1) f fd ps (SpR K R) := by
  refine F.ok S (fun vs H Q E h => ?_) (fun cdv A outer s H vs Q E hr h => ?_)
  · obtain ⟨B, O, ds, d, _, h2, h3, _⟩ := h
    rw [dps_len h2]
    exact hl ds d h3
  · obtain ⟨B, O, ds, d, h1, h2, h3, k⟩ := h
    obtain ⟨t, ht, hq⟩ := hb cdv A outer s H E hr ds d h3
    refine ⟨t, ht, hq B O _ H Q ⟨h1, ?_⟩ k⟩
    have e := slots_start h2 (N.length - ps.length)
    have hl' : vs.length = ps.length := by rw [dps_len h2]; exact hl ds d h3
    unfold L2.start
    rw [hl']
    exact e
/-- a def that stands at its name, and its promise -/
structure Cal (P : Program) (w : World) (K : PySem.W.Frag) (mg : Str → Option Value) (base : Heap) (k : Nat) (x : Str) (ps : List Str) (sp : Sp) : Prop where
  ex : ∃ f fd, FnOk P w K mg base CX0 k f fd ps sp ∧ mg x = some (.ref f) ∧ PySem.W.keepIn K (.ref f) = true ∧ Binds K fd ps []
/-- where a def of the text stands -/
structure At (K : PySem.W.Frag) (mg : Str → Option Value) (x : Str) (st : Stmt) (ps : List Str) (f : Addr) (fd : FuncData) : Prop where
  fn : Fun K x x st f fd
  mg : mg x = some (.ref f)
  bi : Binds K fd ps []
theorem At.cal {x : Str} {st : Stmt} {ps : List Str} {f : Addr} {fd : FuncData} {k : Nat} {sp : Sp} (a : At K mg x st ps f fd) (h : FnOk P w K mg base CX0 k f fd ps sp) : Cal P w K mg base k x ps sp := ⟨f, fd, h, a.mg, a.fn.kp, a.bi⟩
end
theorem pe_cal {X : Cx} {x : Str} {ps : List Str} {sp : Sp} {k j : Nat} {p pos : Pos} {e : Expr} {es : List Expr} {t : TA} (C : Cal X.prog X.w X.K X.mg X.base k x ps sp) (hr : Room j X.A) (hk : k ≤ j) (hg : Gl X x) (ha : PA X (e :: es) t) (hd : (x == ("__debug__" : Str)) = false := by decide)
    (he : starEach (e :: es) X.env = (false, eval e X.env) :: starEach es X.env := by rfl) (hpl : (backTo pos (starEach es X.env)).any (·.1) = false := by rfl) :
    PE X (.Call (.Name x p) (e :: es) [] pos) (tCall sp [] E0 t) := by
  obtain ⟨f, fd, h1, h2, h3, h4⟩ := C.ex
  exact pe_call (h1.mono hk) hr hg h2 h3 h4 .nil pass0 ha hd he hpl
end DL

set_option Elab.async false
set_option linter.all false
set_option maxRecDepth 100000
set_option maxHeartbeats 2000000
/-! The rules that name the written part, with it told. -/
namespace DL
open PySem PySem.Spec PyProof.Rows L2 StX
section
variable (K : PySem.W.Frag) {X : Cx}
theorem ix_tupK (h : X.K = K := by rfl) : IxR X (rIxT K) := h ▸ ix_tup
theorem ix_listK (h : X.K = K := by rfl) : IxR X (rIxL K) := h ▸ ix_list
theorem op_inK (h : X.K = K := by rfl) : OpR X (compareOp .In) (rIn K false) := h ▸ op_in_seq
theorem op_notInK (h : X.K = K := by rfl) : OpR X (compareOp .NotIn) (rIn K true) := h ▸ op_notIn_seq
theorem op_eqDK (hu : X.A.units + 64 < cLine) (h : X.K = K := by rfl) : OpR X (compareOp .Eq) (rEqD K) := h ▸ op_eqD hu
theorem op_neDK (hu : X.A.units + 64 < cLine) (h : X.K = K := by rfl) : OpR X (compareOp .NotEq) (rNeD K) := h ▸ op_neD hu
theorem op_catAK (h : X.K = K := by rfl) : OpR X (binaryOp .Add) (rCatA K) := h ▸ op_catA
theorem sl_tupAK (h : X.K = K := by rfl) : SlR X (rSlA K) := h ▸ sl_tupA
theorem sl_listK (h : X.K = K := by rfl) : SlR X (rSlL K) := h ▸ sl_list
theorem call_lenK (h : X.K = K := by rfl) : CallR X (.builtin "len") (fun xs H Q => ∃ p ys, xs = [.ref p] ∧ (SqL K H p ys ∨ SqT K H p ys) ∧ Q (.int ys.length) H) := h ▸ call_len_seq
theorem call_listK (h : X.K = K := by rfl) : CallR X (.type "list") (fun xs H Q => ∃ p ys, xs = [.ref p] ∧ (SqL K H p ys ∨ SqT K H p ys) ∧ ∀ l, H l = none → Q (.ref l) (upd H l (.lst ys))) := h ▸ call_list_of
theorem call_tupleK (h : X.K = K := by rfl) : CallR X (.type "tuple") (fun xs H Q => ∃ p ys, xs = [.ref p] ∧ ((SqL K H p ys ∧ ∀ l, H l = none → Q (.ref l) (upd H l (.tup ys))) ∨ (SqT K H p ys ∧ Q (.ref p) H))) := h ▸ call_tuple_of
theorem cr_sumK (hc : X.calm = true) (h : X.K = K := by rfl) : CallR X (.builtin "sum") (rSum K) := h ▸ cr_sum hc
theorem cr_allK (hc : X.calm = true) (h : X.K = K := by rfl) : CallR X (.builtin "all") (rAll K) := h ▸ cr_all hc
theorem cr_anyK (hc : X.calm = true) (h : X.K = K := by rfl) : CallR X (.builtin "any") (rAny K) := h ▸ cr_any hc
theorem pi_listK {e tg : Expr} {te : TE} (he : PE X e te) (h : X.K = K := by rfl) : PI X tg e (iList K te) := h ▸ pi_list he
theorem pi_tupK {e tg : Expr} {te : TE} (he : PE X e te) (h : X.K = K := by rfl) : PI X tg e (iTup K te) := h ▸ pi_tup he
theorem pg_tupK {es : List Expr} {t : TGs} {kk n : Nat} {pos : Pos} (hc : X.calm = true) (hts : PGs X es t) (h : X.K = K := by rfl) (hn : (assignEach es X.env).length = n := by rfl) (hst : (assignEach es X.env).findIdx? (·.1) = none := by rfl) :
    PG X (.Tuple es kk pos) (gTup K n t) := h ▸ pg_tup hc hts hn hst
theorem pa_starK {e : Expr} {es : List Expr} {te : TE} {t : TA} {p : Pos} (he : PE X e te) (hr : PA X es t) (h : X.K = K := by rfl) (hs : starEach (.Starred e p :: es) X.env = (true, eval e X.env) :: starEach es X.env := by rfl) : PA X (.Starred e p :: es) (tStar K te t) := h ▸ pa_star he hr hs
theorem pi_enumK {e : Expr} {ta : TA} {p pos tpos : Pos} {elts : List Expr} {kk : Nat} (hg : Gl X "enumerate") (hm : X.mg "enumerate" = none) (ha : PA X [e] ta) (h : X.K = K := by rfl) (hs : starEach [e] X.env = [(false, eval e X.env)] := by rfl) :
    PI X (.Tuple elts kk tpos) (.Call (.Name "enumerate" p) [e] [] pos) (iEnum K ta) := h ▸ pi_enum hg hm ha hs
end
section
variable {K : PySem.W.Frag} {α : Type} {x y z : α} {xs : List α}
theorem at0 : atI (x :: xs) 0 = some x := by
  have h : (0 : Int) < (xs.length : Int) + 1 := by omega
  simp [atI, ixN, h]
theorem at1 : atI (x :: y :: xs) 1 = some y := by
  have h : (1 : Int) < (xs.length : Int) + 1 + 1 := by omega
  simp [atI, ixN, h]
theorem at2 : atI (x :: y :: z :: xs) 2 = some z := by
  have h : (2 : Int) < (xs.length : Int) + 1 + 1 + 1 := by omega
  simp [atI, ixN, h]
theorem at_last : atI (xs ++ [x]) (-1) = some x := by
  have h1 : ¬ (0 : Int) ≤ -1 := by omega
  have h2 : (-1 + ((xs.length : Int) + 1)).toNat = xs.length := by omega
  have h3 : -((xs.length : Int) + 1) ≤ -1 := by omega
  simp [atI, ixN, h2, h3]
end
end DL
namespace DL
open PySem PySem.Spec PyProof.Rows L2 StX
section
variable {K : PySem.W.Frag} {B O : Hp} {G : List SD} {wi : TI} {g : TG} {tt : TT} {te : TE} {vs : List Nat} {es : List PyData}
theorem EvL.d {te : TE} {ds : List PyData} (h : EvL K B O G te ds) : EvD K B O G te (.list ds) := fun B1 O1 σ H e1 o s Q q => h B1 O1 σ H e1 o s _ fun p ws B' H' e' hp w' da =>
  q _ (upd B' p (.lst ws)) H' (e'.trans (Ex.new (w'.bnone upd_same))) (w'.give hp) (.lst upd_same (dps_ex (Ex.new (w'.bnone upd_same)) _ _ da))
/-- a comprehension over typed things, with a test -/
theorem el_lcT {α : Type} (xs : List α) (en : α → PyData) (f : α → Bool) (v : α → PyData) (Gi : α → List SD) (hI : EvI K B O G wi (xs.map en)) (hz : xs.length ≤ 100000)
    (hg : ∀ x, x ∈ xs → EvG K (RW vs) g (wipeG G vs) (en x) (Gi x)) (ht : ∀ x, x ∈ xs → EvT K B O (Gi x) tt (f x)) (he : ∀ x, x ∈ xs → f x = true → EvD K B O (Gi x) te (v x)) :
    EvL K B O G (tLc wi g tt te vs) ((xs.filter f).map v) := fun B1 O1 σ H e1 o s Q q => by
  refine hI B1 O1 σ H e1 o s _ fun J B2 H2 e2 w2 gv D hD => ?_
  obtain ⟨n, G0, Y, hn, wk, hG0, hY⟩ := gv
  have oD : O1 D = none := w2.fo hD
  refine lc_it wk (fun i H' => ∃ B' acc, Ex B2 B' ∧ W B' (upd O1 D (.lst acc)) H' ∧ DtAll K B' acc (((xs.take i).filter f).map v))
    ⟨B2, [], Ex.refl _, w2.newO hD, by simp; exact .nil⟩ (fun i H' _ ⟨B', acc, e', w', _⟩ => hG0 B' _ H' e' w') ?_ ?_
  · rintro i x H3 H4 hi ⟨B3, acc, e3, w3, da⟩ y
    obtain ⟨e, B4, hie, e4, w4, dx⟩ := hY i H3 x H4 B3 _ e3 w3 hi y
    rw [List.getElem?_map] at hie
    obtain ⟨c, hic, hce⟩ : ∃ c, xs[i]? = some c ∧ en c = e := by
      cases hx : xs[i]? with
      | none => rw [hx] at hie; cases hie
      | some c => rw [hx] at hie; exact ⟨c, rfl, Option.some.inj hie⟩
    subst hce
    have hm : c ∈ xs := List.mem_of_getElem? hic
    have s4 : Sta K B4 (upd O1 D (.lst acc)) (wipeG G vs) (L2.wipe σ vs) H4 := ⟨w4, (s.s.ex ((e2.trans e3).trans e4)).wipe vs⟩
    have hOD : Ex O (upd O1 D (.lst acc)) := o.trans (Ex.new oD)
    refine hg c hm B4 _ _ H4 x s4 dx _ fun σ' s5 r5 => ⟨r5.trans wipe_wipe, ?_⟩
    have hlen : acc.length ≤ 100000 := by
      rw [dps_len da, List.length_map]
      have h1 := List.length_filter_le f (xs.take i)
      have h2 : (xs.take i).length ≤ xs.length := List.length_take_le' i xs
      omega
    refine ht c hm B4 _ σ' H4 (e1.trans ((e2.trans e3).trans e4)) hOD s5 _ fun B5 H5 e5 w5 => ?_
    have htk : xs.take (i + 1) = xs.take i ++ [c] := by
      rw [List.take_add_one, hic]
      rfl
    cases hf : f c with
    | true =>
      show te σ' H5 _
      refine he c hm hf B5 _ σ' H5 (e1.trans (((e2.trans e3).trans e4).trans e5)) hOD (s5.ex e5 w5) _ fun u B6 H6 e6 w6 d6 => ?_
      refine ⟨acc, w6.o D _ upd_same, Nat.lt_of_le_of_lt hlen (by decide), B6, acc ++ [u], ((e3.trans e4).trans e5).trans e6, ?_, ?_⟩
      · have := w6.mut (v := .lst (acc ++ [u])) upd_same
        rw [upd_upd] at this
        exact this
      · rw [htk, List.filter_append, List.map_append]
        refine dps_app (dps_ex ((e4.trans e5).trans e6) _ _ da) ?_
        simp [hf]
        exact dps_one d6
    | false =>
      show ∃ B' acc, _
      refine ⟨B5, acc, (e3.trans e4).trans e5, w5, ?_⟩
      rw [htk, List.filter_append, List.map_append]
      simp [hf]
      have := dps_ex (e4.trans e5) _ _ da
      simpa using this
  · rintro H3 ⟨B3, acc, e3, w3, da⟩
    rw [hn, List.length_map, List.take_length] at da
    exact q D acc B3 H3 (e2.trans e3) oD w3 da
theorem ev_lcT {α : Type} (xs : List α) (en : α → PyData) (f : α → Bool) (v : α → PyData) (Gi : α → List SD) (hI : EvI K B O G wi (xs.map en)) (hz : xs.length ≤ 100000)
    (hg : ∀ x, x ∈ xs → EvG K (RW vs) g (wipeG G vs) (en x) (Gi x)) (ht : ∀ x, x ∈ xs → EvT K B O (Gi x) tt (f x)) (he : ∀ x, x ∈ xs → f x = true → EvD K B O (Gi x) te (v x)) :
    EvD K B O G (tLc wi g tt te vs) (.list ((xs.filter f).map v)) := (el_lcT xs en f v Gi hI hz hg ht he).d
theorem el_map {α : Type} (xs : List α) (en : α → PyData) (v : α → PyData) (Gi : α → List SD) (hI : EvI K B O G wi (xs.map en)) (hz : xs.length ≤ 100000)
    (hg : ∀ x, x ∈ xs → EvG K (RW vs) g (wipeG G vs) (en x) (Gi x)) (he : ∀ x, x ∈ xs → EvD K B O (Gi x) te (v x)) :
    EvL K B O G (tLc wi g tYes te vs) (xs.map v) := by
  have h := el_lcT (K := K) (B := B) (O := O) (G := G) (wi := wi) (g := g) (tt := tYes) (te := te) (vs := vs) xs en (fun _ => true) v Gi hI hz hg (fun _ _ => et_yes) (fun x hx _ => he x hx)
  rw [List.filter_eq_self.mpr (by simp)] at h
  exact h
theorem ev_map {α : Type} (xs : List α) (en : α → PyData) (v : α → PyData) (Gi : α → List SD) (hI : EvI K B O G wi (xs.map en)) (hz : xs.length ≤ 100000)
    (hg : ∀ x, x ∈ xs → EvG K (RW vs) g (wipeG G vs) (en x) (Gi x)) (he : ∀ x, x ∈ xs → EvD K B O (Gi x) te (v x)) :
    EvD K B O G (tLc wi g tYes te vs) (.list (xs.map v)) := by
  have h := ev_lcT (K := K) (B := B) (O := O) (G := G) (wi := wi) (g := g) (tt := tYes) (te := te) (vs := vs) xs en (fun _ => true) v Gi hI hz hg (fun _ _ => et_yes) (fun x hx _ => he x hx)
  rw [List.filter_eq_self.mpr (by simp)] at h
  exact h
end
theorem SpR_false {P : Program} {w : World} {K : PySem.W.Frag} {mg : Str → Option Value} {base : Heap} {k : Nat} {f : Addr} {fd : FuncData} {ps : List Str} {R : List PyData → PyData → Prop} (h : ∀ ds d, ¬ R ds d) : FnOk P w K mg base CX0 k f fd ps (SpR K R) :=
  ⟨fun _ _ _ _ ⟨_, _, ds, d, _, _, r, _⟩ => (h ds d r).elim, fun _ _ _ _ _ _ _ _ _ _ _ _ _ ⟨_, _, ds, d, _, _, r, _⟩ => (h ds d r).elim⟩
/-- the same promise told by less -/
theorem SpR_imp {P : Program} {w : World} {K : PySem.W.Frag} {mg : Str → Option Value} {base : Heap} {k : Nat} {f : Addr} {fd : FuncData} {ps : List Str} {R R' : List PyData → PyData → Prop} (F : FnOk P w K mg base CX0 k f fd ps (SpR K R)) (h : ∀ ds d, R' ds d → R ds d) : FnOk P w K mg base CX0 k f fd ps (SpR K R') :=
  F.imp fun _ _ _ _ ⟨B, O, ds, d, a, b, c, e⟩ => ⟨B, O, ds, d, a, b, h _ _ c, e⟩
/-- the promise of a def that hands back a new list -/
def SpL (K : PySem.W.Frag) (R : List PyData → List PyData → Prop) : Sp := fun vs H Q _ => ∃ B O ds es, W B O H ∧ DtAll K B vs ds ∧ R ds es ∧ ∀ p ws B' H', Ex B B' → O p = none → W B' (upd O p (.lst ws)) H' → DtAll K B' ws es → Q (.ref p) H'
section
variable {K : PySem.W.Frag} {B O : Hp} {G : List SD} {R : List PyData → List PyData → Prop} {ds es : List PyData} {t : TA} {E : XK} {te : TE} {D : Ends} {σ : L2.St} {H : Hp}
theorem el_call (h : EvA K B O G t ds) (hr : R ds es) : EvL K B O G (tCall (SpL K R) [] E t) es := fun B1 O1 σ H e o s Q q =>
  h B1 O1 σ H e o s _ fun vs B2 H2 e2 w2 d2 => by
    rw [List.append_nil]
    exact ⟨B2, O1, ds, es, w2, d2, hr, fun p ws B3 H3 e3 hp w3 d3 => q p ws B3 H3 (e2.trans e3) hp w3 d3⟩
theorem el_listT {te : TE} (h : EvD K B O G te (.tuple ds)) : EvL K B O G (tCB (fun xs H Q => ∃ p ys, xs = [.ref p] ∧ (SqL K H p ys ∨ SqT K H p ys) ∧ ∀ l, H l = none → Q (.ref l) (upd H l (.lst ys))) (tCons te tNil)) ds := fun B1 O1 σ H e o s Q q =>
  h B1 O1 σ H e o s _ fun v B2 H2 e2 w2 d2 => by
    obtain ⟨a, xs, rfl, k1, k2⟩ := dp_tup d2
    exact ⟨a, xs, rfl, .inr (st_ex w2.b k1), fun l hl => q l xs B2 _ e2 (w2.fo hl) (w2.newO hl) k2⟩
theorem s_retL (s : Sta K B O G σ H) (h : EvL K B O G te es) (k : ∀ p ws B' H', Ex B B' → O p = none → W B' (upd O p (.lst ws)) H' → DtAll K B' ws es → D.rt (.ref p) H') : tRet te D σ H :=
  h B O σ H (Ex.refl _) (Ex.refl _) s _ fun p ws B' H' e hp w dv => k p ws B' H' e hp w dv
end
section
variable {P : Program} {w : World} {K : PySem.W.Frag} {mg : Str → Option Value} {base : Heap}
theorem ok_fnL {x qual : Str} {st : Stmt} {f : Addr} {fd : FuncData} {N ps : List Str} {k : Nat} {R : List PyData → List PyData → Prop} (F : Fun K x qual st f fd) (S : FnScope N ps (defScope st)) (hl : ∀ ds d, R ds d → ds.length = ps.length)
    (hb : ∀ (cdv : Value) (A : Around) (outer : List Env) (s : Shared) (H0 : Hp) (E : XK), Room k (A.deeper (envOfC qual (defScope st) s.heap.objs.size f cdv)) → ∀ ds es, R ds es →
      ∃ t, PSs (cxOf CX0 P w K mg base N qual (defScope st) f cdv A outer s H0 E).nox (defBody st) t ∧
        ∀ B O σ H (Q : VK), Sta K B O (gOf ds (N.length - ps.length)) σ H → (∀ p ws B' H', Ex B B' → O p = none → W B' (upd O p (.lst ws)) H' → DtAll K B' ws es → Q (.ref p) H') → t { nx := fun _ H' => Q .non H', rt := Q } σ H) :
    FnOk P w K mg base CX0 (k + 1) f fd ps (SpL K R) := by
  refine F.ok S (fun vs H Q E h => ?_) (fun cdv A outer s H vs Q E hr h => ?_)
  · obtain ⟨B, O, ds, d, _, h2, h3, _⟩ := h
    rw [dps_len h2]
    exact hl ds d h3
  · obtain ⟨B, O, ds, d, h1, h2, h3, k⟩ := h
    obtain ⟨t, ht, hq⟩ := hb cdv A outer s H E hr ds d h3
    refine ⟨t, ht, hq B O _ H Q ⟨h1, ?_⟩ k⟩
    have e := slots_start h2 (N.length - ps.length)
    have hl' : vs.length = ps.length := by rw [dps_len h2]; exact hl ds d h3
    unfold L2.start
    rw [hl']
    exact e
end
theorem SpL_false {P : Program} {w : World} {K : PySem.W.Frag} {mg : Str → Option Value} {base : Heap} {k : Nat} {f : Addr} {fd : FuncData} {ps : List Str} {R : List PyData → List PyData → Prop} (h : ∀ ds d, ¬ R ds d) : FnOk P w K mg base CX0 k f fd ps (SpL K R) :=
  ⟨fun _ _ _ _ ⟨_, _, ds, d, _, _, r, _⟩ => (h ds d r).elim, fun _ _ _ _ _ _ _ _ _ _ _ _ _ ⟨_, _, ds, d, _, _, r, _⟩ => (h ds d r).elim⟩
theorem at_nn {α : Type} {xs : List α} {i : Int} {x : α} (hi : 0 ≤ i) (h : xs[i.toNat]? = some x) : atI xs i = some x := by
  have hl : i.toNat < xs.length := (List.getElem?_eq_some_iff.mp h).1
  have h2 : i < xs.length := by omega
  unfold atI ixN
  rw [if_pos hi, if_pos h2]
  exact h
theorem ix_nn {n : Nat} {i : Int} (hi : 0 ≤ i) (h : i.toNat < n) : ixN n i = some i.toNat := by
  have h2 : i < n := by omega
  unfold ixN
  rw [if_pos hi, if_pos h2]
theorem enum_inv {es : List PyData} {i : Nat} {e : PyData} (h : (enumD es)[i]? = some e) : ∃ x, es[i]? = some x ∧ e = .tuple [.int i, x] := by
  have hi : i < es.length := by
    have := (List.getElem?_eq_some_iff.mp h).1
    rwa [enumD_len] at this
  have h2 : es[i]? = some es[i] := List.getElem?_eq_getElem hi
  rw [enumD_get h2] at h
  exact ⟨es[i], h2, (Option.some.inj h).symm⟩
theorem range_inv {lo : Int} {n i : Nat} {e : PyData} (h : (rangeD lo n)[i]? = some e) : i < n ∧ e = .int (lo + i) := by
  have hi : i < n := by
    have := (List.getElem?_eq_some_iff.mp h).1
    rwa [rangeD_len] at this
  rw [rangeD_get hi] at h
  exact ⟨hi, (Option.some.inj h).symm⟩
theorem map_inv {α β : Type} {xs : List α} {f : α → β} {i : Nat} {y : β} (h : (xs.map f)[i]? = some y) : ∃ x, xs[i]? = some x ∧ y = f x := by
  rw [List.getElem?_map] at h
  cases hx : xs[i]? with
  | none => rw [hx] at h; cases h
  | some x => rw [hx] at h; exact ⟨x, rfl, (Option.some.inj h).symm⟩
section
variable {K : PySem.W.Frag} {B O : Hp} {G : List SD} {σ : L2.St} {H : Hp} {D : Ends} {i : Nat}
theorem s_retOL {l : Addr} {vs : List V} {O0 : Hp} (s : Sta K B O G σ H) (hg : G[i]? = some (.val (.ref l))) (ho : O = upd O0 l (.lst vs)) (k : W B (upd O0 l (.lst vs)) H → D.rt (.ref l) H) : tRet (tVar i) D σ H := by
  subst ho
  obtain ⟨sv, h1, h2⟩ := s.s.get hg
  have h3 : sv = some (.ref l) := h2
  subst h3
  exact ⟨_, h1, k s.w⟩
end
theorem cut_init {xs : List PyData} {x : PyData} : cutX (xs ++ [x]) none (some (-1)) = xs := by
  have h : HT.sIx (xs ++ [x]).length (xs ++ [x]).length (some (-1)) = xs.length := by
    show (if (-1 : Int) < 0 then ((-1 : Int) + ((xs ++ [x]).length : Int)).toNat else min (-1 : Int).toNat (xs ++ [x]).length) = _
    rw [if_pos (by decide), List.length_append]
    simp
    omega
  unfold cutX
  rw [h, HT.sIx_none]
  simp
theorem cut_tail {xs : List PyData} {x : PyData} : cutX (x :: xs) (some 1) none = xs := by
  have h : HT.sIx (x :: xs).length 0 (some 1) = 1 := by
    have h2 := HT.sIx_nat (x :: xs).length 0 1
    have h3 : min 1 (x :: xs).length = 1 := by simp
    rw [h3] at h2
    exact h2
  unfold cutX
  rw [h, HT.sIx_none]
  simp
end DL

set_option Elab.async false
set_option linter.all false
set_option maxRecDepth 100000
set_option maxHeartbeats 2000000
/-! zip of a tuple and a list. -/
namespace DL
open PySem PySem.Spec PyProof.Rows L2 StX
def ItM (K : PySem.W.Frag) (a b : Addr) : It where
  go := fun i H => ∃ (xs ys : List V) (x y : V), (SqT K H a xs ∧ SqL K H b ys) ∧ xs[i]? = some x ∧ ys[i]? = some y
  yld := fun i H v H' => ∃ T x y, (v = .ref T ∧ H T = none ∧ H' = upd H T (.tup [x, y])) ∧ (∀ xs, SqT K H a xs → xs[i]? = some x) ∧ (∀ ys, SqL K H b ys → ys[i]? = some y)
  stop := fun i H => ∃ xs ys : List V, (SqT K H a xs ∧ SqL K H b ys) ∧ i ≤ xs.length ∧ i ≤ ys.length ∧ (i = xs.length ∨ i = ys.length)
structure StM (a b z TI TO i1 i2 : Addr) (i : Nat) (h : Heap) : Prop where
  z : IsZip h z TI TO .none
  ti : IsTupOf2 h TI (.ref i1) (.ref i2)
  to : ∃ x y, IsTupOf2 h TO x y
  t1 : h.IsTupleIter i1 a i
  t2 : h.IsListIter i2 b i
theorem StM.lt {a b z TI TO i1 i2 : Addr} {i : Nat} {h : Heap} (s : StM a b z TI TO i1 i2 i h) : ∀ c, c ∈ [z, TI, TO, i1, i2] → ∃ o, h.get? c = some o ∧ ∀ v, o.data ≠ .cell v := fun c hc => by
  obtain ⟨hz, hti, ⟨x, y, hto⟩, ⟨o1, e1, _, d1⟩, ⟨o2, e2, _, d2⟩⟩ := s
  simp only [List.mem_cons, List.not_mem_nil, or_false] at hc
  rcases hc with e | e | e | e | e <;> subst e
  · exact ⟨_, hz, fun v => nofun⟩
  · exact ⟨_, hti, fun v => nofun⟩
  · exact ⟨_, hto, fun v => nofun⟩
  · exact ⟨o1, e1, fun v q => by rw [d1] at q; cases q⟩
  · exact ⟨o2, e2, fun v q => by rw [d2] at q; cases q⟩
theorem turnM {P : Program} {w : World} {K : PySem.W.Frag} {elts : List Expr} {kk : Nat} {tpos : Pos} {a b z TI TO i1 i2 : Addr} (S : ZipSep2 z TI TO i1 i2 [i1, a] [i2, b]) (n1 : a ≠ i1) (n2 : b ≠ i2) :
    Turn P w K (.Tuple elts kk tpos) (ItM K a b) [z, TI, TO, i1, i2] z (fun i h => StM a b z TI TO i1 i2 i h) := by
  refine ⟨by simp, fun i h st c hc => ?_, fun i h h' st k => ?_, ?_, ?_, fun A i s Q E st h => wpAny_pyIter_zip st.z h⟩
  · obtain ⟨o, ho, hd⟩ := st.lt c hc
    exact ⟨o, ho, hd⟩
  · obtain ⟨hz, hti, ⟨x, y, hto⟩, h1, h2⟩ := st
    exact ⟨k z (by simp) _ hz, k TI (by simp) _ hti, ⟨x, y, k TO (by simp) _ hto⟩, h1.at fun o e => k i1 (by simp) o e, h2.at fun o e => k i2 (by simp) o e⟩
  · intro X hP hw hK hc i pins s σ H E I hf st hg
    subst hP hw hK
    have lts := st.lt
    obtain ⟨hz, hti, ⟨x0, y0, hto⟩, h1, h2⟩ := st
    obtain ⟨xs, ys, x, y, ⟨hqx, hqy⟩, hx, hy⟩ := hg
    obtain ⟨its, rv, p1, _⟩ := I.tuple hqx
    obtain ⟨its2, rv2, p2, _⟩ := I.list hqy
    have hl1 := rv.length
    have hl2 := rv2.length
    have hi1 : i < its.toArray.size := by
      have := (List.getElem?_eq_some_iff.mp hx).1
      simp
      omega
    have hi2 : i < its2.toArray.size := by
      have := (List.getElem?_eq_some_iff.mp hy).1
      simp
      omega
    have hzl : z < s.heap.objs.size := Heap.lt_size hz
    have hh := I.ok.hd hc
    refine wpAny_pyNext_zipD2_item S (Draws.tuple (A := X.A.in1) hh i1 a n1 its.toArray) (Draws.list (A := X.A.in1) hh i2 b n2 its2.toArray) hz hti hto ⟨h1, p1⟩ ⟨h2, p2.isList⟩ hi1 hi2 fun u u2 h' tk hu hu2 z' to' st1 st2 hT hsz hk => ?_
    have ru : RelV x u := by
      obtain ⟨q, hq, r⟩ := rv.get hx
      have e : its.toArray[i]? = some u := hu
      simp only [List.getElem?_toArray] at e
      rw [hq] at e
      cases e
      exact r
    have ru2 : RelV y u2 := by
      obtain ⟨q, hq, r⟩ := rv2.get hy
      have e : its2.toArray[i]? = some u2 := hu2
      simp only [List.getElem?_toArray] at e
      rw [hq] at e
      cases e
      exact r
    refine ⟨_, rfl, wpAny_letOwnedTupleGo_zip (s := { s with heap := h', toks := tk }) z' fun g' zz sb => ?_⟩
    have hT2 : g'.get? s.heap.objs.size = some { cls := .type "tuple", data := .seq #[u, u2] } := (sb.2 _ (Nat.ne_of_gt hzl)).trans hT
    have new : ObjOk X.prog X.w (upd H s.heap.objs.size (.tup [x, y])) g' s.heap.objs.size (.tup [x, y]) := ⟨(by decide : 2 ≤ sizeLine), [u, u2], Paired.cons ru (Paired.cons ru2 Paired.nil), _, hT2, rfl, _, rfl⟩
    have J := I.turnedNew (h' := g') (t' := tk) (ch := [z, TI, TO, i1, i2]) (fun c o hb q => (sb.2 c (fun q' => hb (by simp [q']))).trans (hk c o (fun q' => hb (by simp [q'])) (fun q' => hb (by simp [q'])) (fun q' => hb (by simp [q'])) (fun q' => hb (by simp [q'])) q)) hf (Nat.le_refl _) new
    refine ⟨.ref s.heap.objs.size, _, J, rfl, ⟨_, x, y, ⟨rfl, I.hok.fresh (Nat.le_refl _), rfl⟩, fun l hl => ?_, fun l hl => ?_⟩, ⟨zz, ?_, ⟨u, u2, ?_⟩, ?_, ?_⟩, fun c hcm => ?_⟩
    · rw [I.tuple_inj hl hqx]
      exact hx
    · rw [I.list_inj hl hqy]
      exact hy
    · exact (sb.2 _ S.TIz).trans (hk _ _ S.TIz S.TITO S.TIi1 S.TIi2 hti)
    · exact (sb.2 _ S.TOz).trans to'
    · exact st1.1.at fun o q => (sb.2 _ S.zi1.symm).trans q
    · exact st2.1.at fun o q => (sb.2 _ S.zi2.symm).trans q
    · obtain ⟨o, ho, _⟩ := lts c hcm
      rw [upd_ne (Nat.ne_of_lt (Heap.lt_size ho))]
      exact (hf c hcm).1
  · intro X hP hw hK hc i pins s σ H E I hf st hg
    subst hP hw hK
    obtain ⟨hz, hti, ⟨x0, y0, hto⟩, h1, h2⟩ := st
    obtain ⟨xs, ys, ⟨hqx, hqy⟩, le1, le2, hend⟩ := hg
    obtain ⟨its, rv, p1, _⟩ := I.tuple hqx
    obtain ⟨its2, rv2, p2, _⟩ := I.list hqy
    have hl1 := rv.length
    have hl2 := rv2.length
    have hh := I.ok.hd hc
    have z1 : its.toArray.size = xs.length := by
      simp
      omega
    have z2 : its2.toArray.size = ys.length := by
      simp
      omega
    refine wpAny_pyNext_zipD2_end S (Draws.tuple (A := X.A.in1) hh i1 a n1 its.toArray) (Draws.list (A := X.A.in1) hh i2 b n2 its2.toArray) hz hti hto ⟨h1, p1⟩ ⟨h2, p2.isList⟩ (by omega) (by omega) (by omega) fun h' tk hk => ?_
    exact ⟨rfl, I.turnedL (t' := tk) (ch := [z, TI, TO, i1, i2]) (fun c o hb q => hk c o (fun q' => hb (by simp [q'])) (fun q' => hb (by simp [q'])) (fun q' => hb (by simp [q'])) (fun q' => hb (by simp [q'])) q) hf⟩
def iZipM (K : PySem.W.Frag) (ta : TA) : TI := fun σ H R => ta σ H fun vs H1 => ∃ a b xs ys, vs = [V.ref a, V.ref b] ∧ SqT K H1 a xs ∧ SqL K H1 b ys ∧ R (ItM K a b) H1
theorem pi_zipM (K : PySem.W.Frag) {X : Cx} {e e2 : Expr} {ta : TA} {p pos tpos : Pos} {elts : List Expr} {kk : Nat} (hg : Gl X "zip") (hm : X.mg "zip" = none) (ha : PA X [e, e2] ta) (hK : X.K = K := by rfl)
    (hs : starEach [e, e2] X.env = (false, eval e X.env) :: starEach [e2] X.env := by rfl) (hpl : (backTo pos (starEach [e2] X.env)).any (·.1) = false := by rfl) :
    PI X (.Tuple elts kk tpos) (.Call (.Name "zip" p) [e, e2] [] pos) (iZipM K ta) := by
  subst hK
  refine ⟨fun pins s σ H R I h => Call_ (ld_blt I hg hm PyProof.Rows.boot_zip (PyProof.Rows.callWith_type1 (thn (ha.run pos pins s σ H _ I h) fun us s1 ⟨vs, H1, I1, r1, q1⟩ => ?_) hs hpl))⟩
  obtain ⟨a, b, xs, ys, rfl, hqx, hqy, q⟩ := q1
  obtain ⟨u1, u2, rfl, r1, r2⟩ := vals2 r1
  cases r1
  cases r2
  obtain ⟨its, rv, p1, _⟩ := I1.tuple hqx
  obtain ⟨its2, rv2, p2, _⟩ := I1.list hqy
  have la : a < s1.heap.objs.size := by
    obtain ⟨o, ho, _⟩ := id p1
    exact Heap.lt_size ho
  have lb : b < s1.heap.objs.size := p2.lt
  refine zip_begins2 (begins_tuple a its.toArray) (begins_list b its2.toArray) p1 p2.isList fun h' hz hti hto g1 g2 hsz hk => wpAny_pyIter_zip hz ?_
  have J : Inv X pins σ H1 { s1 with heap := h' } := I1.kept (t' := s1.toks) hk
  have S : ZipSep2 (s1.heap.objs.size + 4) (s1.heap.objs.size + 2) (s1.heap.objs.size + 3) s1.heap.objs.size (s1.heap.objs.size + 1) [s1.heap.objs.size, a] [s1.heap.objs.size + 1, b] :=
    zip_sep2 (fp1 := [a]) (fp2 := [b]) (by simpa using la) (by simpa using lb)
  refine ⟨s1.heap.objs.size + 4, [s1.heap.objs.size + 4, s1.heap.objs.size + 2, s1.heap.objs.size + 3, s1.heap.objs.size, s1.heap.objs.size + 1], _, _, H1, rfl, J, turnM S (Nat.ne_of_lt la) (Nat.ne_of_lt (Nat.lt_succ_of_lt lb)),
    ⟨hz, hti, ⟨_, _, hto⟩, ⟨_, g1, rfl, rfl⟩, ⟨_, g2, rfl, rfl⟩⟩, fun c hcm => ?_, q⟩
  have hle : s1.heap.objs.size ≤ c := by
    simp only [List.mem_cons, List.not_mem_nil, or_false] at hcm
    rcases hcm with e' | e' | e' | e' | e' <;> (rw [e']; first | exact Nat.le_refl _ | exact Nat.le_add_right _ _)
  exact I1.fpOk hle (I1.hok.fresh hle)
section
variable {K : PySem.W.Frag} {B O : Hp} {G : List SD} {ta : TA} {es ds : List PyData}
def zipD (es ds : List PyData) : List PyData := (es.zip ds).map fun z => .tuple [z.1, z.2]
theorem ei_zipM (h : EvA K B O G ta [.tuple es, .list ds]) (hl : es.length = ds.length) : EvI K B O G (iZipM K ta) ((es.zip ds).map fun z => .tuple [z.1, z.2]) := fun B1 O1 σ H e1 o s R r => h B1 O1 σ H e1 o s _ fun vs B2 H2 e2 w2 d2 => by
  cases d2 with
  | cons d3 d4 =>
    cases d4 with
    | cons d5 d6 =>
      cases d6
      obtain ⟨a, xs, rfl, k1, k2⟩ := dp_tup d3
      obtain ⟨b, ys, rfl, k3, k4⟩ := dp_lst d5
      have l1 := dps_len k2
      have l2 := dps_len k4
      have hz : ((es.zip ds).map fun z => PyData.tuple [z.1, z.2]).length = xs.length := by
        rw [List.length_map, List.length_zip]
        omega
      refine ⟨a, b, xs, ys, rfl, st_ex w2.b k1, .inl (.inl (w2.b _ _ k3)), r _ B2 H2 e2 w2 ⟨xs.length, (fun H => SqT K H a xs ∧ SqL K H b ys), YPair (fun i => xs[i]?) (fun i => ys[i]?), hz.symm, ?_, fun B3 O3 H3 e3 w3 => ⟨st_ex (e3.trans w3.b) k1, .inl (.inl (w3.b _ _ (e3 _ _ k3)))⟩, fun i H3 x H4 B3 O3 e3 w3 hi y => ?_⟩⟩
      · refine ⟨fun i H3 hi q => ⟨xs, ys, xs[i], ys[i]'(by omega), q, by simp [hi], by simp [show i < ys.length by omega]⟩, fun H3 q => ⟨xs, ys, q, Nat.le_refl _, by omega, .inl rfl⟩, fun i H3 v H4 hi q y => ?_⟩
        obtain ⟨T, x, y, ⟨e1, e2, e3⟩, h1, h2⟩ := y
        exact ⟨T, x, y, e1, e2, e3, h1 xs q.1, h2 ys q.2⟩
      · obtain ⟨T, x', y', rfl, hT, rfl, hx, hy⟩ := y
        obtain ⟨d, hd, dd⟩ := dps_getV k2 hx
        obtain ⟨e, he, de⟩ := dps_getV k4 hy
        obtain ⟨q1, q2, q3⟩ := pair_new w3 hT (dp_ex e3 _ _ dd) (dp_ex e3 _ _ de)
        refine ⟨_, _, ?_, q1, q2, q3⟩
        rw [List.getElem?_map, (List.getElem?_zip_eq_some (z := (d, e))).mpr ⟨hd, he⟩]
        rfl
end
end DL

set_option Elab.async false
set_option linter.all false
set_option maxRecDepth 100000
set_option maxHeartbeats 2000000
/-! Expressions and defs that change what is owned. -/
namespace DL
open PySem PySem.Spec PyProof.Rows L2 StX
/-- an expression that may change what is owned: R tells the data and what is owned behind it -/
def EvX (K : PySem.W.Frag) (B O : Hp) (G : List SD) (te : TE) (R : PyData → Hp → Prop) : Prop := ∀ B1 σ H, Ex B B1 → Sta K B1 O G σ H → ∀ Q : VK, (∀ v d B' O' H', Ex B1 B' → R d O' → W B' O' H' → Dt K B' v d → Q v H') → te σ H Q
def EvXs (K : PySem.W.Frag) (B O : Hp) (G : List SD) (ta : TA) (R : List PyData → Hp → Prop) : Prop := ∀ B1 σ H, Ex B B1 → Sta K B1 O G σ H → ∀ Q : List V → Hp → Prop, (∀ vs ds B' O' H', Ex B1 B' → R ds O' → W B' O' H' → DtAll K B' vs ds → Q vs H') → ta σ H Q
section
variable {K : PySem.W.Frag} {B B' O : Hp} {G : List SD} {te ta tb : TE} {t : TA} {r : R2} {d : PyData} {R R1 R3 : PyData → Hp → Prop} {R2' : PyData → Hp → PyData → Hp → Prop}
theorem EvX.ex (h : EvX K B O G te R) (e : Ex B B') : EvX K B' O G te R := fun B1 σ H e1 s Q q => h B1 σ H (e.trans e1) s Q q
theorem ex_pure (h : EvD K B O G te d) : EvX K B O G te (fun d' O' => d' = d ∧ O' = O) := fun B1 σ H e s Q q => h B1 O σ H e (Ex.refl _) s Q fun v B' H' e' w' dv => q v d B' O H' e' ⟨rfl, rfl⟩ w' dv
theorem ex_imp (h : EvX K B O G te R) (k : ∀ d O', R d O' → R1 d O') : EvX K B O G te R1 := fun B1 σ H e s Q q => h B1 σ H e s Q fun v d B' O' H' e' r' w' dv => q v d B' O' H' e' (k d O' r') w' dv
theorem ex_op (h1 : EvX K B O G ta R1) (h2 : ∀ d1 B' O', Ex B B' → R1 d1 O' → EvX K B' O' G tb (R2' d1 O')) (h3 : ∀ d1 O' d2 O'', R1 d1 O' → R2' d1 O' d2 O'' → ∃ z, RD K r d1 d2 z ∧ R3 z O'') : EvX K B O G (tOp r ta tb) R3 := fun B1 σ H e s Q q =>
  h1 B1 σ H e s _ fun v d1 B2 O2 H2 e2 r1 w2 dv => h2 d1 B2 O2 (e.trans e2) r1 B2 σ H2 (Ex.refl _) ⟨w2, s.s.ex e2⟩ _ fun u d2 B3 O3 H3 e3 r2 w3 du => by
    obtain ⟨z, hz, hr⟩ := h3 d1 O2 d2 O3 r1 r2
    exact hz B3 O3 H3 v u w3 (dp_ex e3 _ _ dv) du Q fun x B4 H4 e4 w4 dx => q x z B4 O3 H4 ((e2.trans e3).trans e4) hr w4 dx
theorem exs_nil : EvXs K B O G tNil (fun ds O' => ds = [] ∧ O' = O) := fun B1 σ H e s Q q => q [] [] B1 O H (Ex.refl _) ⟨rfl, rfl⟩ s.w .nil
theorem exs_cons {S : PyData → Hp → List PyData → Hp → Prop} {T : List PyData → Hp → Prop} (h1 : EvX K B O G te R) (h2 : ∀ d B' O', Ex B B' → R d O' → EvXs K B' O' G t (S d O')) (h3 : ∀ d O' ds O'', R d O' → S d O' ds O'' → T (d :: ds) O'') : EvXs K B O G (tCons te t) T := fun B1 σ H e s Q q =>
  h1 B1 σ H e s _ fun v d B2 O2 H2 e2 r1 w2 dv => h2 d B2 O2 (e.trans e2) r1 B2 σ H2 (Ex.refl _) ⟨w2, s.s.ex e2⟩ _ fun vs ds B3 O3 H3 e3 r2 w3 dvs => q (v :: vs) (d :: ds) B3 O3 H3 (e2.trans e3) (h3 d O2 ds O3 r1 r2) w3 (.cons (dp_ex e3 _ _ dv) dvs)
theorem ex_tup {T : List PyData → Hp → Prop} (h : EvXs K B O G t T) (hl : ∀ ds O', T ds O' → ds.length ≤ 100000) : EvX K B O G (tTup t) (fun d O' => ∃ ds, d = .tuple ds ∧ T ds O') := fun B1 σ H e s Q q =>
  h B1 σ H e s _ fun vs ds B2 O2 H2 e2 r2 w2 d2 => ⟨by rw [dps_len d2]; exact sz_of (hl ds O2 r2), fun p hp => q _ (.tuple ds) (upd B2 p (.tup vs)) O2 _ (e2.trans (Ex.new (w2.fb hp))) ⟨ds, rfl, r2⟩ (w2.newB hp) (.tup (.inl (.inl upd_same)) (dps_ex (Ex.new (w2.fb hp)) _ _ d2))⟩
theorem ex_lst {T : List PyData → Hp → Prop} (h : EvXs K B O G t T) (hl : ∀ ds O', T ds O' → ds.length ≤ 100000) : EvX K B O G (tLst t) (fun d O' => ∃ ds, d = .list ds ∧ T ds O') := fun B1 σ H e s Q q =>
  h B1 σ H e s _ fun vs ds B2 O2 H2 e2 r2 w2 d2 => ⟨by rw [dps_len d2]; exact sz_of (hl ds O2 r2), fun p hp => q _ (.list ds) (upd B2 p (.lst vs)) O2 _ (e2.trans (Ex.new (w2.fb hp))) ⟨ds, rfl, r2⟩ (w2.newB hp) (.lst upd_same (dps_ex (Ex.new (w2.fb hp)) _ _ d2))⟩
variable {σ : L2.St} {H : Hp} {D : Ends} {tz : TS} {i : Nat}
theorem qx_asg (s : Sta K B O G σ H) (h : EvX K B O G te R) (k : ∀ v d B' O' H', Ex B B' → R d O' → Dt K B' v d → Sta K B' O' (G.set i (.dat d)) (σ.set i (some v)) H' → tz D (σ.set i (some v)) H') : tSeq (tAsg te (gName i)) tz D σ H :=
  h B σ H (Ex.refl _) s _ fun v d B' O' H' e r' w' dv => k v d B' O' H' e r' dv ⟨w', (s.s.ex e).set i ⟨v, rfl, dv⟩⟩
theorem sx_ret (s : Sta K B O G σ H) (h : EvX K B O G te R) (k : ∀ v d B' O' H', Ex B B' → R d O' → W B' O' H' → Dt K B' v d → D.rt v H') : tRet te D σ H :=
  h B σ H (Ex.refl _) s _ fun v d B' O' H' e r' w' dv => k v d B' O' H' e r' w' dv
/-- append what is reckoned with changes to an owned list that these leave -/
theorem sx_app {l : Addr} {vs : List V} (s : Sta K B O G σ H) (hg : G[i]? = some (.val (.ref l))) (ho : O l = some (.lst vs)) (hz : vs.length < 100000) (h : EvX K B O G te R) (hr : ∀ d O', R d O' → O' l = some (.lst vs))
    (k : ∀ v d B' O' H', Ex B B' → R d O' → Dt K B' v d → Sta K B' (upd O' l (.lst (vs ++ [v]))) G σ H' → D.nx σ H') : tDrop (tBM K "list" rAppend (tVar i) (tCons te tNil)) D σ H := by
  obtain ⟨sv, h1, h2⟩ := s.s.get hg
  have h3 : sv = some (.ref l) := h2
  subst h3
  refine ⟨_, h1, .inl ⟨rfl, _, SqL.of (s.w.o _ _ ho)⟩, ?_⟩
  refine h B σ H (Ex.refl _) s _ fun v d B' O' H' e r' w' dv => ?_
  exact ⟨l, vs, v, rfl, rfl, w'.o _ _ (hr d O' r'), Nat.lt_of_lt_of_le hz (by decide), k v d B' O' _ e r' dv ⟨w'.mut (hr d O' r'), s.s.ex e⟩⟩
/-- the arguments of such a def: data, or just these values -/
def EvAS (K : PySem.W.Frag) (B O : Hp) (G : List SD) (ta : TA) (gs : List SD) : Prop := ∀ B1 σ H, Ex B B1 → Sta K B1 O G σ H → ∀ Q : List V → Hp → Prop, (∀ vs B' H', Ex B1 B' → W B' O H' → Slots K B' (vs.map some) gs → Q vs H') → ta σ H Q
theorem as_nil : EvAS K B O G tNil [] := fun B1 σ H e s Q q => q [] B1 H (Ex.refl _) s.w trivial
theorem as_dat {gs : List SD} (h : EvD K B O G te d) (hr : EvAS K B O G t gs) : EvAS K B O G (tCons te t) (.dat d :: gs) := fun B1 σ H e s Q q =>
  h B1 O σ H e (Ex.refl _) s _ fun v B2 H2 e2 w2 d2 => hr B2 σ H2 (e.trans e2) (s.ex e2 w2) _ fun vs B3 H3 e3 w3 d3 => q (v :: vs) B3 H3 (e2.trans e3) w3 ⟨⟨v, rfl, dp_ex e3 _ _ d2⟩, d3⟩
theorem as_val {gs : List SD} {v : V} (h : EvV K B O G te v) (hr : EvAS K B O G t gs) : EvAS K B O G (tCons te t) (.val v :: gs) := fun B1 σ H e s Q q =>
  h B1 O σ H e (Ex.refl _) s _ fun B2 H2 e2 w2 => hr B2 σ H2 (e.trans e2) (s.ex e2 w2) _ fun vs B3 H3 e3 w3 d3 => q (v :: vs) B3 H3 (e2.trans e3) w3 ⟨rfl, d3⟩
def SpX (K : PySem.W.Frag) (Pre : List SD → Hp → Hp → (PyData → Hp → Prop) → Prop) : Sp := fun vs H Q _ => ∃ B O gs R, W B O H ∧ Slots K B (vs.map some) gs ∧ Pre gs B O R ∧ ∀ v d B' O' H', Ex B B' → R d O' → W B' O' H' → Dt K B' v d → Q v H'
variable {Pre : List SD → Hp → Hp → (PyData → Hp → Prop) → Prop} {gs : List SD} {E : XK}
theorem ex_call (h : EvAS K B O G t gs) (hr : ∀ B', Ex B B' → Pre gs B' O R) : EvX K B O G (tCall (SpX K Pre) [] E t) R := fun B1 σ H e s Q q =>
  h B1 σ H e s _ fun vs B2 H2 e2 w2 d2 => by
    rw [List.append_nil]
    exact ⟨B2, O, gs, R, w2, d2, hr B2 (e.trans e2), fun v d B3 O3 H3 e3 r3 w3 d3 => q v d B3 O3 H3 (e2.trans e3) r3 w3 d3⟩
end
theorem slots_len {K : PySem.W.Frag} {B : Hp} : ∀ {σ : L2.St} {G : List SD}, Slots K B σ G → σ.length = G.length
  | [], [], _ => rfl
  | _ :: _, _ :: _, h => congrArg Nat.succ (slots_len h.2)
  | [], _ :: _, h => h.elim
  | _ :: _, [], h => h.elim
theorem slots_fill {K : PySem.W.Frag} {B : Hp} : ∀ {σ : L2.St} {G : List SD}, Slots K B σ G → ∀ n, Slots K B (σ ++ List.replicate n none) (G ++ List.replicate n .un)
  | [], [], _, 0 => trivial
  | [], [], _, n + 1 => ⟨trivial, slots_fill (σ := []) (G := []) trivial n⟩
  | _ :: _, _ :: _, h, n => ⟨h.1, slots_fill h.2 n⟩
  | [], _ :: _, h, _ => h.elim
  | _ :: _, [], h, _ => h.elim
section
variable {P : Program} {w : World} {K : PySem.W.Frag} {mg : Str → Option Value} {base : Heap}
theorem ok_fnX {x qual : Str} {st : Stmt} {f : Addr} {fd : FuncData} {N ps : List Str} {k : Nat} {Pre : List SD → Hp → Hp → (PyData → Hp → Prop) → Prop} (F : Fun K x qual st f fd) (S : FnScope N ps (defScope st)) (hl : ∀ gs B O R, Pre gs B O R → gs.length = ps.length)
    (hb : ∀ (cdv : Value) (A : Around) (outer : List Env) (s : Shared) (H0 : Hp) (E : XK), Room k (A.deeper (envOfC qual (defScope st) s.heap.objs.size f cdv)) →
      ∃ t, PSs (cxOf CX0 P w K mg base N qual (defScope st) f cdv A outer s H0 E).nox (defBody st) t ∧
        ∀ gs B O R σ H (Q : VK), Pre gs B O R → Sta K B O (gs ++ List.replicate (N.length - ps.length) .un) σ H → (∀ v d B' O' H', Ex B B' → R d O' → W B' O' H' → Dt K B' v d → Q v H') → t { nx := fun _ H' => Q .non H', rt := Q } σ H) :
    FnOk P w K mg base CX0 (k + 1) f fd ps (SpX K Pre) := by
  refine F.ok S (fun vs H Q E h => ?_) (fun cdv A outer s H vs Q E hr h => ?_)
  · obtain ⟨B, O, gs, R, _, h2, h3, _⟩ := h
    have := slots_len h2
    rw [List.length_map] at this
    rw [this]
    exact hl gs B O R h3
  · obtain ⟨B, O, gs, R, h1, h2, h3, k⟩ := h
    obtain ⟨t, ht, hq⟩ := hb cdv A outer s H E hr
    refine ⟨t, ht, hq gs B O R _ H Q h3 ⟨h1, ?_⟩ k⟩
    have e := slots_fill h2 (N.length - ps.length)
    have hl' : vs.length = ps.length := by
      have := slots_len h2
      rw [List.length_map] at this
      rw [this]
      exact hl gs B O R h3
    unfold L2.start
    rw [hl']
    exact e
theorem SpX_false {k : Nat} {f : Addr} {fd : FuncData} {ps : List Str} {Pre : List SD → Hp → Hp → (PyData → Hp → Prop) → Prop} (h : ∀ gs B O R, ¬ Pre gs B O R) : FnOk P w K mg base CX0 k f fd ps (SpX K Pre) :=
  ⟨fun _ _ _ _ ⟨B, O, gs, R, _, _, r, _⟩ => (h gs B O R r).elim, fun _ _ _ _ _ _ _ _ _ _ _ _ _ ⟨B, O, gs, R, _, _, r, _⟩ => (h gs B O R r).elim⟩
end
/-! ### pools and rooms -/
def PoolAt (O : Hp) (p : Addr) : Prop := ∃ a b : Int, O p = some (.lst [.int a, .int b]) ∧ 0 ≤ b ∧ b < 2147483647
def RoomAt (O : Hp) (r : Addr) : Prop := ∃ z : Int, O r = some (.lst [.int z])
structure Mv (p : Addr) (O O' : Hp) : Prop where
  pool : PoolAt O' p
  fr : ∀ a, a ≠ p → O' a = O a
theorem Mv.refl {p : Addr} {O : Hp} (h : PoolAt O p) : Mv p O O := ⟨h, fun _ _ => rfl⟩
theorem Mv.trans {p : Addr} {O O1 O2 : Hp} (a : Mv p O O1) (b : Mv p O1 O2) : Mv p O O2 := ⟨b.pool, fun x h => (b.fr x h).trans (a.fr x h)⟩
structure Mv2 (p r : Addr) (O O' : Hp) : Prop where
  pool : PoolAt O' p
  room : RoomAt O' r
  fr : ∀ a, a ≠ p → a ≠ r → O' a = O a
theorem Mv2.refl {p r : Addr} {O : Hp} (h : PoolAt O p) (h2 : RoomAt O r) : Mv2 p r O O := ⟨h, h2, fun _ _ _ => rfl⟩
theorem Mv2.trans {p r : Addr} {O O1 O2 : Hp} (a : Mv2 p r O O1) (b : Mv2 p r O1 O2) : Mv2 p r O O2 := ⟨b.pool, b.room, fun x h h' => (b.fr x h h').trans (a.fr x h h')⟩
theorem PoolAt.ne {O : Hp} {p r : Addr} (h : PoolAt O p) (h2 : RoomAt O r) : r ≠ p := by
  obtain ⟨a, b, e, _⟩ := h
  obtain ⟨z, e2⟩ := h2
  intro q
  subst q
  rw [e] at e2
  cases e2
theorem Mv.two {p r : Addr} {O O' : Hp} (a : Mv p O O') (h : PoolAt O p) (h2 : RoomAt O r) : Mv2 p r O O' := by
  refine ⟨a.pool, ?_, fun x h1 _ => a.fr x h1⟩
  obtain ⟨z, e⟩ := id h2
  exact ⟨z, by rw [a.fr r (h.ne h2)]; exact e⟩
end DL

set_option Elab.async false
set_option linter.all false
set_option maxRecDepth 100000
set_option maxHeartbeats 2000000
/-! Parts of readers as plain data. -/
namespace PT
open PySem DL
inductive Part where
  | leaf (w : Str) (fs : List PyData)
  | row (ps : List Part)
  | choice (m : PyData) (os : List (Int × Part))
  | one (w : Str) (fs : List PyData) (p : Part)
mutual
def enc : Part → PyData
  | .leaf w fs => .tuple (.str w :: fs)
  | .row ps => .tuple [.str "row", .tuple (encs ps)]
  | .choice m os => .tuple [.str "choice", m, .tuple (enco os)]
  | .one w fs p => .tuple (.str w :: (fs ++ [enc p]))
def encs : List Part → List PyData
  | [] => []
  | p :: ps => enc p :: encs ps
def enco : List (Int × Part) → List PyData
  | [] => []
  | (n, p) :: os => .tuple [.int n, enc p] :: enco os
end
theorem encs_eq : ∀ ps, encs ps = ps.map enc
  | [] => rfl
  | p :: ps => by
    show enc p :: encs ps = enc p :: ps.map enc
    rw [encs_eq ps]
theorem enco_eq : ∀ os, enco os = os.map fun o => .tuple [.int o.1, enc o.2]
  | [] => rfl
  | (n, p) :: os => by
    show _ :: enco os = _
    rw [enco_eq os]
    rfl
def isLeafW (w : Str) : Bool := w == "cell" || w == "need" || w == "pad"
def isOneW (w : Str) : Bool := w == "times" || w == "counted" || w == "within" || w == "fill" || w == "if left"
def word : Part → Str
  | .leaf w _ => w
  | .row _ => "row"
  | .choice _ _ => "choice"
  | .one w _ _ => w
def good (d : PyData) : Bool := flatD d && SeqAt.shaped d
/-- the top of a part is as it should be -/
def ok0 : Part → Prop
  | .leaf w fs => isLeafW w = true ∧ fs.length ≤ 3 ∧ fs.all good = true
  | .row ps => ps.length ≤ 6
  | .choice m os => good m = true ∧ 0 < os.length ∧ os.length ≤ 6
  | .one w fs _ => isOneW w = true ∧ fs.length ≤ 4 ∧ fs.all good = true ∧ (w = "times" → ∃ n, fs = [.int n] ∧ 0 ≤ n ∧ n ≤ 6)
def kids : Part → List Part
  | .leaf _ _ => []
  | .row ps => ps
  | .choice _ os => os.map (·.2)
  | .one _ _ p => [p]
def ok : Nat → Part → Prop
  | 0, _ => False
  | h + 1, t => ok0 t ∧ ∀ p, p ∈ kids t → ok h p
def fields : Part → List PyData
  | .leaf _ fs => fs
  | .row ps => [.tuple (ps.map enc)]
  | .choice m os => [m, .tuple (os.map fun o => .tuple [.int o.1, enc o.2])]
  | .one _ fs p => fs ++ [enc p]
theorem enc_eq (t : Part) : enc t = .tuple (.str (word t) :: fields t) := by
  cases t with
  | leaf w fs => rfl
  | row ps =>
    show PyData.tuple [.str "row", .tuple (encs ps)] = _
    rw [encs_eq]
    rfl
  | choice m os =>
    show PyData.tuple [.str "choice", m, .tuple (enco os)] = _
    rw [enco_eq]
    rfl
  | one w fs p => rfl
theorem kids_len {t : Part} (h : ok0 t) : (kids t).length ≤ 6 := by
  cases t with
  | leaf => simp [kids]
  | row ps => exact h
  | choice m os =>
    obtain ⟨_, _, h3⟩ := h
    simp [kids]
    omega
  | one => simp [kids]
theorem ok_mono : ∀ {h j : Nat} {t : Part}, h ≤ j → ok h t → ok j t
  | 0, _, _, _, o => o.elim
  | h + 1, 0, _, l, _ => absurd l (by omega)
  | h + 1, j + 1, t, l, o => ⟨o.1, fun p hp => ok_mono (by omega) (o.2 p hp)⟩
/-! sizes -/
def osum : List (Option Int) → Option Int
  | [] => some 0
  | none :: _ => none
  | some n :: r => (osum r).map (n + ·)
def encN : Option Int → PyData
  | none => .none
  | some n => .int n
def numOf : List PyData → Option Int
  | .int n :: _ => some n
  | _ => none
def sizeK (w : Str) (fs : List PyData) (ss : List (Option Int)) : Option Int :=
  if w = "cell" then some 1
  else if w = "need" then some 0
  else if w = "row" ∨ w = "choice" ∨ w = "times" then
    (if none ∈ ss then none
    else if w = "row" then some ((ss.map fun s => s.getD 0).sum)
    else if w = "times" then ((numOf fs).map fun n => n * (ss.headD (some 0)).getD 0)
    else if ∀ s ∈ ss, s = ss.headD (some 0) then some (1 + (ss.headD (some 0)).getD 0) else none)
  else none
def size : Nat → Part → Option Int
  | 0, _ => none
  | h + 1, t => sizeK (word t) (fields t) ((kids t).map (size h))
/-! parts in parts -/
def subsAt (S : Part → List (List Int × Part)) (ks : List Part) (i : Nat) : List (List Int × Part) := match ks[i]? with
  | some c => (S c).map fun q => ((i : Int) :: q.1, q.2)
  | none => []
def subsTo (S : Part → List (List Int × Part)) (t : Part) (n : Nat) : List (List Int × Part) := ([], t) :: (List.range n).flatMap (subsAt S (kids t))
def subs : Nat → Part → List (List Int × Part)
  | 0, t => [([], t)]
  | h + 1, t => subsTo (subs h) t (kids t).length
theorem subsTo_succ {S : Part → List (List Int × Part)} {t : Part} {n : Nat} {c : Part} (h : (kids t)[n]? = some c) : subsTo S t (n + 1) = subsTo S t n ++ (S c).map fun q => ((n : Int) :: q.1, q.2) := by
  unfold subsTo
  rw [List.range_succ, List.flatMap_append, ← List.cons_append]
  simp [subsAt, h]
def cntP : Nat → Nat
  | 0 => 0
  | h + 1 => 1 + 6 * cntP h
theorem subsTo_len {S : Part → List (List Int × Part)} {t : Part} {m : Nat} (hS : ∀ c, c ∈ kids t → (S c).length ≤ m) : ∀ n, (subsTo S t n).length ≤ 1 + n * m
  | 0 => by simp [subsTo]
  | n + 1 => by
    have ih := subsTo_len hS n
    cases hc : (kids t)[n]? with
    | none =>
      have : subsTo S t (n + 1) = subsTo S t n := by
        unfold subsTo
        rw [List.range_succ, List.flatMap_append]
        simp [subsAt, hc]
      rw [this, Nat.succ_mul]
      omega
    | some c =>
      rw [subsTo_succ hc, List.length_append, List.length_map, Nat.succ_mul]
      have := hS c (List.mem_of_getElem? hc)
      omega
theorem subs_len : ∀ {h : Nat} {t : Part}, ok h t → (subs h t).length ≤ cntP h
  | 0, _, o => o.elim
  | h + 1, t, o => by
    have h1 := subsTo_len (S := subs h) (t := t) (m := cntP h) (fun c hc => subs_len (o.2 c hc)) (kids t).length
    have h2 := kids_len o.1
    have h3 : (kids t).length * cntP h ≤ 6 * cntP h := Nat.mul_le_mul_right _ h2
    show (subsTo (subs h) t (kids t).length).length ≤ 1 + 6 * cntP h
    omega
theorem cnt_le : ∀ {h : Nat}, h ≤ 7 → cntP h ≤ 55987
  | 0, _ => by decide
  | 1, _ => by decide
  | 2, _ => by decide
  | 3, _ => by decide
  | 4, _ => by decide
  | 5, _ => by decide
  | 6, _ => by decide
  | 7, _ => by decide
  | h + 8, l => absurd l (by omega)
theorem cnt_mono {h : Nat} (l : h + 1 ≤ 7) {n : Nat} (hn : n ≤ 6) : 1 + n * cntP h ≤ 55987 := by
  have h1 := cnt_le l
  have h2 : n * cntP h ≤ 6 * cntP h := Nat.mul_le_mul_right _ hn
  have h3 : cntP (h + 1) = 1 + 6 * cntP h := rfl
  omega
def getP : Part → List Int → Option Part
  | t, [] => some t
  | t, i :: p => if 0 ≤ i then (kids t)[i.toNat]?.bind (getP · p) else none
theorem subs_get : ∀ {h : Nat} {t : Part} {p : List Int} {c : Part}, (p, c) ∈ subs h t → getP t p = some c
  | 0, t, p, c, m => by
    simp [subs] at m
    obtain ⟨rfl, rfl⟩ := m
    rfl
  | h + 1, t, p, c, m => by
    have m' : (p, c) ∈ subsTo (subs h) t (kids t).length := m
    unfold subsTo at m'
    rw [List.mem_cons, List.mem_flatMap] at m'
    rcases m' with m' | ⟨i, _, m'⟩
    · cases m'
      rfl
    · unfold subsAt at m'
      cases hk : (kids t)[i]? with
      | none => rw [hk] at m'; cases m'
      | some k =>
        rw [hk] at m'
        obtain ⟨q, hq, e⟩ := List.mem_map.mp m'
        cases e
        have := subs_get hq
        show (if 0 ≤ (i : Int) then _ else _) = _
        rw [if_pos (by omega), Int.toNat_natCast, hk]
        exact this
theorem ok_get : ∀ {p : List Int} {h : Nat} {t c : Part}, ok h t → getP t p = some c → ok h c
  | [], h, t, c, o, e => by cases e; exact o
  | i :: p, 0, t, c, o, e => o.elim
  | i :: p, h + 1, t, c, o, e => by
    have e' : (if 0 ≤ i then (kids t)[i.toNat]?.bind (getP · p) else none) = some c := e
    split at e'
    · cases hk : (kids t)[i.toNat]? with
      | none => rw [hk] at e'; cases e'
      | some k =>
        rw [hk] at e'
        exact ok_mono (Nat.le_succ h) (ok_get (o.2 k (List.mem_of_getElem? hk)) e')
    · cases e'
theorem subs_path : ∀ {h : Nat} {t : Part} {p : List Int} {c : Part}, (p, c) ∈ subs h t → p.length ≤ h
  | 0, t, p, c, m => by
    simp [subs] at m
    simp [m.1]
  | h + 1, t, p, c, m => by
    have m' : (p, c) ∈ subsTo (subs h) t (kids t).length := m
    unfold subsTo at m'
    rw [List.mem_cons, List.mem_flatMap] at m'
    rcases m' with m' | ⟨i, _, m'⟩
    · cases m'
      simp
    · unfold subsAt at m'
      cases hk : (kids t)[i]? with
      | none => rw [hk] at m'; cases m'
      | some k =>
        rw [hk] at m'
        obtain ⟨q, hq, e⟩ := List.mem_map.mp m'
        cases e
        have := subs_path hq
        simp
        omega
/-- the parts in their places -/
def withK : Part → List Part → Part
  | .leaf w fs, _ => .leaf w fs
  | .row _, ks => .row ks
  | .choice m os, ks => .choice m ((os.zip ks).map fun z => (z.1.1, z.2))
  | .one w fs p, ks => .one w fs (ks.headD p)
def repP : Part → List Int → Part → Option Part
  | _, [], o => some o
  | t, i :: p, o => if 0 ≤ i then (kids t)[i.toNat]?.bind fun c => (repP c p o).map fun c' => withK t ((kids t).set i.toNat c') else none
theorem rep_get : ∀ {p : List Int} {t c : Part} (o : Part), getP t p = some c → ∃ d, repP t p o = some d
  | [], t, c, o, e => ⟨o, rfl⟩
  | i :: p, t, c, o, e => by
    have e' : (if 0 ≤ i then (kids t)[i.toNat]?.bind (getP · p) else none) = some c := e
    split at e'
    · rename_i hi
      cases hk : (kids t)[i.toNat]? with
      | none => rw [hk] at e'; cases e'
      | some k =>
        rw [hk] at e'
        obtain ⟨d, hd⟩ := rep_get (t := k) o e'
        refine ⟨withK t ((kids t).set i.toNat d), ?_⟩
        show (if 0 ≤ i then _ else _) = _
        rw [if_pos hi, hk]
        show (repP k p o).map _ = _
        rw [hd]
        rfl
    · cases e'
theorem withK_same (t : Part) : withK t (kids t) = t := by
  cases t with
  | leaf => rfl
  | row => rfl
  | choice m os =>
    have h : ∀ xs : List (Int × Part), ((xs.zip (xs.map (·.2))).map fun z => (z.1.1, z.2)) = xs := fun xs => by
      induction xs with
      | nil => rfl
      | cons o r ih =>
        show (o.1, o.2) :: ((r.zip (r.map (·.2))).map fun z => (z.1.1, z.2)) = _
        rw [ih]
    show Part.choice m _ = _
    exact congrArg _ (h os)
  | one => rfl
theorem set_same {α : Type} : ∀ {xs : List α} {i : Nat} {x : α}, xs[i]? = some x → xs.set i x = xs
  | [], _, _, _ => rfl
  | y :: ys, 0, x, h => by simp at h; subst h; rfl
  | y :: ys, i + 1, x, h => by simp at h; simp [set_same h]
theorem rep_same : ∀ {p : List Int} {t c : Part}, getP t p = some c → repP t p c = some t
  | [], t, c, e => by cases e; rfl
  | i :: p, t, c, e => by
    have e' : (if 0 ≤ i then (kids t)[i.toNat]?.bind (getP · p) else none) = some c := e
    split at e'
    · rename_i hi
      cases hk : (kids t)[i.toNat]? with
      | none => rw [hk] at e'; cases e'
      | some k =>
        rw [hk] at e'
        have := rep_same (t := k) e'
        show (if 0 ≤ i then _ else _) = _
        rw [if_pos hi, hk]
        show (repP k p c).map _ = _
        rw [this]
        show some (withK t _) = _
        rw [set_same hk, withK_same]
    · cases e'
def encP (p : List Int) : PyData := .tuple (p.map .int)
def encQ (q : List Int × Part) : PyData := .tuple [encP q.1, enc q.2]
theorem row_of {t : Part} (ho : ok0 t) (h : (word t == "row") = true) : ∃ ps, t = .row ps := by
  cases t with
  | row ps => exact ⟨ps, rfl⟩
  | leaf x fs =>
    have e : x = "row" := eq_of_beq h
    subst e
    exact absurd ho.1 (by decide)
  | choice m os => exact absurd (show (("choice" : Str) == "row") = true from h) (by decide)
  | one x fs p =>
    have e : x = "row" := eq_of_beq h
    subst e
    exact absurd ho.1 (by decide)
theorem choice_of {t : Part} (ho : ok0 t) (h : (word t == "choice") = true) : ∃ m os, t = .choice m os := by
  cases t with
  | choice m os => exact ⟨m, os, rfl⟩
  | leaf x fs =>
    have e : x = "choice" := eq_of_beq h
    subst e
    exact absurd ho.1 (by decide)
  | row ps => exact absurd (show (("row" : Str) == "choice") = true from h) (by decide)
  | one x fs p =>
    have e : x = "choice" := eq_of_beq h
    subst e
    exact absurd ho.1 (by decide)
theorem one_of {t : Part} (ho : ok0 t) (h1 : (word t == "row") = false) (h2 : (word t == "choice") = false) (h : isLeafW (word t) = false) : ∃ w fs p, t = .one w fs p := by
  cases t with
  | choice m os => exact absurd h2 (by show ¬ (("choice" : Str) == "choice") = false; decide)
  | leaf x fs =>
    have h' : isLeafW x = false := h
    rw [ho.1] at h'
    cases h'
  | row ps => exact absurd h1 (by show ¬ (("row" : Str) == "row") = false; decide)
  | one x fs p => exact ⟨x, fs, p, rfl⟩
theorem leaf_of {t : Part} (ho : ok0 t) (h1 : (word t == "row") = false) (h2 : (word t == "choice") = false) (h : isOneW (word t) = false) : ∃ w fs, t = .leaf w fs := by
  cases t with
  | choice m os => exact absurd h2 (by show ¬ (("choice" : Str) == "choice") = false; decide)
  | one x fs p =>
    have h' : isOneW x = false := h
    rw [ho.1] at h'
    cases h'
  | row ps => exact absurd h1 (by show ¬ (("row" : Str) == "row") = false; decide)
  | leaf x fs => exact ⟨x, fs, rfl⟩
theorem leafW_one {w : Str} (h : isLeafW w = true) : isOneW w = false := by
  unfold isLeafW at h
  simp only [Bool.or_eq_true] at h
  rcases h with (h | h) | h <;> (have e := eq_of_beq h; subst e; decide)
theorem oneW_leaf {w : Str} (h : isOneW w = true) : isLeafW w = false := by
  cases e : isLeafW w with
  | false => rfl
  | true => rw [leafW_one e] at h; cases h
end PT

set_option Elab.async false
set_option linter.all false
set_option maxRecDepth 100000
set_option maxHeartbeats 2000000
/-! More of the same: walks that are reckoned with changes, owned lists compared. -/
namespace DL
open PySem PySem.Spec PyProof.Rows L2 StX
def EvIX (K : PySem.W.Frag) (B O : Hp) (G : List SD) (wi : TI) (T : List PyData → Hp → Prop) : Prop := ∀ B1 σ H, Ex B B1 → Sta K B1 O G σ H → ∀ R : It → Hp → Prop, (∀ J es B' O' H', Ex B1 B' → T es O' → W B' O' H' → Gives K J es B' → R J H') → wi σ H R
section
variable {K : PySem.W.Frag} {B O : Hp} {G : List SD} {te ta tb th : TE} {t : TA} {d : PyData} {ds : List PyData} {σ : L2.St} {H : Hp} {D : Ends} {tz tu : TS} {i : Nat}
theorem eix_list {T : List PyData → Hp → Prop} (h : EvX K B O G te (fun d O' => ∃ es, d = .list es ∧ T es O')) : EvIX K B O G (iList K te) T := fun B1 σ H e1 s R r => h B1 σ H e1 s _ fun v d B2 O2 H2 e2 ⟨es, ed, hT⟩ w2 d2 => by
  subst ed
  obtain ⟨a, xs, rfl, k1, k2⟩ := dp_lst d2
  refine ⟨a, rfl, ⟨xs, .inl (.inl (w2.b _ _ k1))⟩, r _ es B2 O2 H2 e2 hT w2 ⟨xs.length, _, _, dps_len k2, walk_list (xs := xs), fun B3 O3 H3 e3 w3 => .inl (.inl (w3.b _ _ (e3 _ _ k1))), fun i H3 x H4 B3 O3 e3 w3 hi y => ?_⟩⟩
  obtain ⟨rfl, hx⟩ := y
  obtain ⟨e, he, hd⟩ := dps_getV k2 hx
  exact ⟨e, B3, he, Ex.refl _, w3, dp_ex e3 _ _ hd⟩
theorem eix_range {T : List PyData → Hp → Prop} (h : EvXs K B O G t (fun ds O' => ∃ j : Int, ds = [.int j] ∧ (-1000000 ≤ j ∧ j ≤ 1000000) ∧ T (rangeD 0 j.toNat) O')) : EvIX K B O G (iRng1 t) T := fun B1 σ H e1 s R r => h B1 σ H e1 s _ fun vs ds B2 O2 H2 e2 ⟨j, ed, hj, hT⟩ w2 d2 => by
  subst ed
  have e := dps_ints (ns := [j]) d2
  refine ⟨j, e, by omega, by omega, r _ _ B2 O2 H2 e2 hT w2 ⟨j.toNat, _, _, rangeD_len.symm, walk_range, fun _ _ _ _ _ => trivial, fun i H3 x H4 B3 O3 e3 w3 hi y => ?_⟩⟩
  obtain ⟨rfl, rfl⟩ := y
  exact ⟨_, B3, rangeD_get hi, Ex.refl _, w3, .int _⟩
theorem sx_for {wi : TI} {g : TG} {T : List PyData → Hp → Prop} (s : Sta K B O G σ H) (hI : EvIX K B O G wi T) (P : List PyData → Nat → Hp → Hp → List SD → Prop) (mono : ∀ es i B1 B2 O1 G1, Ex B1 B2 → P es i B1 O1 G1 → P es i B2 O1 G1)
    (h0 : ∀ es O' B', Ex B B' → T es O' → P es 0 B' O' G)
    (hs : ∀ es i e B1 O1 G1 σ1 H1 v, es[i]? = some e → Ex B B1 → P es i B1 O1 G1 → Sta K B1 O1 G1 σ1 H1 → Dt K B1 v e → ∀ N : L2.St → Hp → Prop, (∀ B' O' G' σ' H', Ex B1 B' → P es (i + 1) B' O' G' → Sta K B' O' G' σ' H' → N σ' H') → g v σ1 H1 fun σ2 H2 => tu { D with nx := N, ct := N, bk := D.nx } σ2 H2)
    (hd : ∀ es B1 O1 G1 σ1 H1, Ex B B1 → P es es.length B1 O1 G1 → Sta K B1 O1 G1 σ1 H1 → D.nx σ1 H1) : tFor wi g tu D σ H := by
  refine hI B σ H (Ex.refl _) s _ fun J es B2 O2 H2 e2 hT w2 gv => ?_
  obtain ⟨n, G0, Y, hn, wk, hG0, hY⟩ := gv
  refine for_it wk (fun i σ' H' => ∃ B' O' G', Ex B2 B' ∧ P es i B' O' G' ∧ Sta K B' O' G' σ' H') ⟨B2, O2, G, Ex.refl _, h0 es O2 B2 e2 hT, ⟨w2, s.s.ex e2⟩⟩ (fun i σ' H' _ ⟨B', O', G', e', p', s'⟩ => hG0 B' O' H' e' s'.w) ?_ ?_
  · rintro i x σ' H3 H4 hi ⟨B3, O3, G3, e3, p3, s3⟩ y
    obtain ⟨e, B4, hie, e4, w4, dx⟩ := hY i H3 x H4 B3 _ e3 s3.w hi y
    refine hs es i e B4 O3 G3 σ' H4 x hie ((e2.trans e3).trans e4) (mono _ _ _ _ _ _ e4 p3) ⟨w4, s3.s.ex e4⟩ dx _ fun B' O' G' σ2 H5 e5 p5 s5 => ⟨B', O', G', (e3.trans e4).trans e5, p5, s5⟩
  · rintro σ' H3 ⟨B3, O3, G3, e3, p3, s3⟩
    exact hd es B3 O3 G3 σ' H3 (e2.trans e3) (by rw [← hn]; exact p3) s3
theorem qx_for {wi : TI} {g : TG} {T : List PyData → Hp → Prop} (s : Sta K B O G σ H) (hI : EvIX K B O G wi T) (P : List PyData → Nat → Hp → Hp → List SD → Prop) (mono : ∀ es i B1 B2 O1 G1, Ex B1 B2 → P es i B1 O1 G1 → P es i B2 O1 G1)
    (h0 : ∀ es O' B', Ex B B' → T es O' → P es 0 B' O' G)
    (hs : ∀ es i e B1 O1 G1 σ1 H1 v, es[i]? = some e → Ex B B1 → P es i B1 O1 G1 → Sta K B1 O1 G1 σ1 H1 → Dt K B1 v e → ∀ N : L2.St → Hp → Prop, (∀ B' O' G' σ' H', Ex B1 B' → P es (i + 1) B' O' G' → Sta K B' O' G' σ' H' → N σ' H') → g v σ1 H1 fun σ2 H2 => tu { D with nx := N, ct := N, bk := tz D } σ2 H2)
    (hd : ∀ es B1 O1 G1 σ1 H1, Ex B B1 → P es es.length B1 O1 G1 → Sta K B1 O1 G1 σ1 H1 → tz D σ1 H1) : tSeq (tFor wi g tu) tz D σ H := sx_for (D := { D with nx := tz D }) s hI P mono h0 hs hd
theorem ex_slL {P : Int → Hp → Prop} (h : EvD K B O G te (.list ds)) (h2 : EvX K B O G th (fun d O' => ∃ r : Int, d = .int r ∧ P r O')) : EvX K B O G (tSl (rSlL K) te tNoPart (tPart th)) (fun d O' => ∃ r : Int, d = .list (cutX ds none (some r)) ∧ P r O') := fun B1 σ H e1 s Q q =>
  h B1 O σ H e1 (Ex.refl _) s _ fun v B2 H2 e2 w2 d2 => h2 B2 σ H2 (e1.trans e2) (s.ex e2 w2) _ fun u d B4 O4 H4 e4 ⟨r, ed, hr⟩ w4 du => by
    subst ed
    obtain ⟨a, xs, rfl, k1, k2⟩ := dp_lst d2
    have k1' := e4 _ _ k1
    have k2' := dps_ex e4 _ _ k2
    exact ⟨r, dp_int du, a, xs, rfl, .inl (.inl (w4.b _ _ k1')), fun p hp => q _ _ (upd B4 p _) O4 _ ((e2.trans e4).trans (Ex.new (w4.fb hp))) ⟨r, rfl, hr⟩ (w4.newB hp) (.lst upd_same (dps_ex (Ex.new (w4.fb hp)) _ _ (cut_dps k2')))⟩
/-- an owned list compared -/
theorem ev_eqO {l : Addr} {vs : List V} {e : PyData} {b : Bool} (hg : G[i]? = some (.val (.ref l))) (ho : O l = some (.lst vs)) (hv : DtAll K B vs ds) (hb : EvD K B O G tb e) (s1 : SeqAt.shaped (.list ds) = true) (s2 : SeqAt.shaped e = true) (h : PyData.eqv (.list ds) e = b) : EvD K B O G (tOp (rEqD K) (tVar i) tb) (.bool b) := fun B1 O1 σ H e1 o s Q q => by
  obtain ⟨sv, h1, h2⟩ := s.s.get hg
  have h3 : sv = some (.ref l) := h2
  subst h3
  refine ⟨_, h1, ?_⟩
  refine hb B1 O1 σ H e1 o s _ fun v B2 H2 e2 w2 d2 => ?_
  have hl : H2 l = some (.lst vs) := w2.o _ _ (o _ _ ho)
  refine ⟨.list ds, e, .lst (.inl (.inl hl)) (dt_dps _ _ (SeqAt.canLay_of_shaped s1) (dps_ex ((e1.trans e2).trans w2.b) _ _ hv)), dt_dp _ _ (SeqAt.canLay_of_shaped s2) (dp_ex w2.b _ _ d2), s1, s2, ?_⟩
  rw [h]
  exact q _ B2 H2 e2 w2 (.bl _)
theorem ev_neO {l : Addr} {vs : List V} {e : PyData} {b : Bool} (hg : G[i]? = some (.val (.ref l))) (ho : O l = some (.lst vs)) (hv : DtAll K B vs ds) (hb : EvD K B O G tb e) (s1 : SeqAt.shaped (.list ds) = true) (s2 : SeqAt.shaped e = true) (h : (!PyData.eqv (.list ds) e) = b) : EvD K B O G (tOp (rNeD K) (tVar i) tb) (.bool b) := fun B1 O1 σ H e1 o s Q q => by
  obtain ⟨sv, h1, h2⟩ := s.s.get hg
  have h3 : sv = some (.ref l) := h2
  subst h3
  refine ⟨_, h1, ?_⟩
  refine hb B1 O1 σ H e1 o s _ fun v B2 H2 e2 w2 d2 => ?_
  have hl : H2 l = some (.lst vs) := w2.o _ _ (o _ _ ho)
  refine ⟨.list ds, e, .lst (.inl (.inl hl)) (dt_dps _ _ (SeqAt.canLay_of_shaped s1) (dps_ex ((e1.trans e2).trans w2.b) _ _ hv)), dt_dp _ _ (SeqAt.canLay_of_shaped s2) (dp_ex w2.b _ _ d2), s1, s2, ?_⟩
  rw [h]
  exact q _ B2 H2 e2 w2 (.bl _)
end
end DL
namespace PT
open PySem DL
theorem good_int {i : Int} : good (.int i) = true := by simp [good, flatD, SeqAt.shaped, PyData.canLay0, PyData.depth]
theorem good_none : good .none = true := by simp [good, flatD, SeqAt.shaped, PyData.canLay0, PyData.depth]
theorem good_str {x : Str} (h : PyData.strOk x = true) : good (.str x) = true := by simp [good, flatD, SeqAt.shaped, PyData.canLay0, PyData.depth, h]
theorem good_parts {d : PyData} (h : good d = true) : flatD d = true ∧ d.canLay0 = true ∧ d.depth = 0 := by
  unfold good at h
  rw [Bool.and_eq_true] at h
  refine ⟨h.1, PySem.SeqAt.canLay_of_shaped h.2, ?_⟩
  cases d with
  | none => simp [PyData.depth]
  | bool => simp [PyData.depth]
  | int => simp [PyData.depth]
  | str => simp [PyData.depth]
  | list => simp [flatD] at h
  | tuple => simp [flatD] at h
  | dict => simp [flatD] at h
/-- data that can be compared, at most n deep -/
def Lay (n : Nat) (d : PyData) : Prop := d.canLay0 = true ∧ d.depth ≤ n
theorem Lay.sh {n : Nat} {d : PyData} (h : Lay n d) (hn : n ≤ 64) : SeqAt.shaped d = true := by
  unfold SeqAt.shaped
  rw [h.1, decide_eq_true (Nat.le_trans h.2 hn)]
  rfl
theorem Lay.mono {n m : Nat} {d : PyData} (h : Lay n d) (l : n ≤ m) : Lay m d := ⟨h.1, Nat.le_trans h.2 l⟩
theorem lay_all {n : Nat} : ∀ {ds : List PyData}, (∀ d, d ∈ ds → Lay n d) → PyData.canLayAll0 ds = true ∧ PyData.depthAll ds ≤ n
  | [], _ => by simp [PyData.canLayAll0, PyData.depthAll]
  | d :: ds, h => by
    obtain ⟨h1, h2⟩ := lay_all (ds := ds) fun x hx => h x (List.mem_cons_of_mem _ hx)
    obtain ⟨h3, h4⟩ := h d List.mem_cons_self
    rw [PyData.canLayAll0, h1, h3, PyData.depthAll]
    exact ⟨rfl, by omega⟩
theorem lay_tup {n : Nat} {ds : List PyData} (h : ∀ d, d ∈ ds → Lay n d) : Lay (n + 1) (.tuple ds) := by
  obtain ⟨h1, h2⟩ := lay_all h
  exact ⟨by rw [PyData.canLay0]; exact h1, by rw [PyData.depth]; omega⟩
theorem lay_lst {n : Nat} {ds : List PyData} (h : ∀ d, d ∈ ds → Lay n d) : Lay (n + 1) (.list ds) := by
  obtain ⟨h1, h2⟩ := lay_all h
  exact ⟨by rw [PyData.canLay0]; exact h1, by rw [PyData.depth]; omega⟩
theorem lay_good {n : Nat} {d : PyData} (h : good d = true) : Lay n d := by
  obtain ⟨_, h2, h3⟩ := good_parts h
  exact ⟨h2, by omega⟩
theorem lay_good' {n : Nat} {ds : List PyData} (h : ds.all good = true) {d : PyData} (hd : d ∈ ds) : Lay n d := lay_good (List.all_eq_true.mp h d hd)
theorem lay_int {n : Nat} {i : Int} : Lay n (.int i) := lay_good good_int
theorem word_ok {t : Part} (h : ok0 t) : PyData.strOk (word t) = true := by
  cases t with
  | row => exact (by decide +kernel : PyData.strOk ("row" : Str) = true)
  | choice => exact (by decide +kernel : PyData.strOk ("choice" : Str) = true)
  | leaf x fs =>
    have hx := h.1
    simp only [isLeafW, Bool.or_eq_true] at hx
    show PyData.strOk x = true
    rcases hx with (e | e) | e <;> (have e' := eq_of_beq e; subst e'; decide +kernel)
  | one x fs p =>
    have hx := h.1
    simp only [isOneW, Bool.or_eq_true] at hx
    show PyData.strOk x = true
    rcases hx with (((e | e) | e) | e) | e <;> (have e' := eq_of_beq e; subst e'; decide +kernel)
theorem lay_enc : ∀ {h : Nat} {t : Part}, ok h t → Lay (3 * h) (enc t)
  | 0, _, o => o.elim
  | h + 1, t, o => by
    have ih : ∀ p, p ∈ kids t → Lay (3 * h) (enc p) := fun p hp => lay_enc (o.2 p hp)
    have hw : ∀ n, Lay n (.str (word t)) := fun n => lay_good (good_str (word_ok o.1))
    rw [enc_eq]
    have h0 : Lay (3 * h + 2 + 1) (.tuple (.str (word t) :: fields t)) := by
      refine lay_tup fun d hd => ?_
      rw [List.mem_cons] at hd
      rcases hd with e | hd
      · subst e
        exact hw _
      · cases t with
        | leaf x fs => exact lay_good' o.1.2.2 hd
        | row ps =>
          have e : d = .tuple (ps.map enc) := by simpa [fields] using hd
          subst e
          refine (lay_tup (n := 3 * h) fun d hd => ?_).mono (by omega)
          obtain ⟨p, hp, rfl⟩ := List.mem_map.mp hd
          exact ih p hp
        | choice m os =>
          have e : d = m ∨ d = .tuple (os.map fun o => .tuple [.int o.1, enc o.2]) := by simpa [fields] using hd
          rcases e with e | e
          · subst e
            exact lay_good o.1.1
          · subst e
            refine lay_tup (n := 3 * h + 1) fun d hd => ?_
            obtain ⟨p, hp, rfl⟩ := List.mem_map.mp hd
            refine lay_tup (n := 3 * h) fun d hd => ?_
            have e : d = .int p.1 ∨ d = enc p.2 := by simpa using hd
            rcases e with e | e
            · subst e
              exact lay_int
            · subst e
              exact ih p.2 (List.mem_map.mpr ⟨p, hp, rfl⟩)
        | one x fs p =>
          have e : d ∈ fs ∨ d = enc p := by simpa [fields] using hd
          rcases e with e | e
          · exact lay_good' o.1.2.2.1 e
          · subst e
            exact (ih p (by simp [kids])).mono (by omega)
    exact h0.mono (by omega)
theorem lay_opts {h : Nat} {os : List (Int × Part)} (ho : ∀ o, o ∈ os → ok h o.2) : Lay (3 * h + 2) (.list (os.map fun o => .tuple [.int o.1, enc o.2])) := by
  refine lay_lst (n := 3 * h + 1) fun d hd => ?_
  obtain ⟨p, hp, rfl⟩ := List.mem_map.mp hd
  refine lay_tup (n := 3 * h) fun d hd => ?_
  have e : d = .int p.1 ∨ d = enc p.2 := by simpa using hd
  rcases e with e | e
  · subst e
    exact lay_int
  · subst e
    exact lay_enc (ho p hp)
theorem lay_path {p : List Int} : Lay 1 (encP p) := by
  refine lay_tup (n := 0) fun d hd => ?_
  obtain ⟨i, _, rfl⟩ := List.mem_map.mp hd
  exact lay_int
theorem lay_places {h : Nat} {t : Part} (ho : ok h t) (hh : h ≤ 7) : Lay 24 (.list ((subs h t).map encQ)) := by
  refine lay_lst (n := 23) fun d hd => ?_
  obtain ⟨q, hq, rfl⟩ := List.mem_map.mp hd
  refine lay_tup (n := 22) fun d hd => ?_
  have e : d = encP q.1 ∨ d = enc q.2 := by simpa using hd
  rcases e with e | e
  · subst e
    exact lay_path.mono (by omega)
  · subst e
    exact (lay_enc (ok_get ho (subs_get (p := q.1) (c := q.2) hq))).mono (by omega)
end PT

set_option Elab.async false
set_option linter.all false
set_option maxRecDepth 100000
set_option maxHeartbeats 2000000
/-! Operators that a class of the text defines itself: in, ==, !=, |, &, -, +, <=. -/
namespace OWN
open PySem PySem.Spec PyProof.Rows
section
variable {M : Model} {prog : Program} {w : World} {A : Around} {E : Value → Shared → Prop} {s : Shared} {K : PySem.W.Frag} {x C f L : Addr} {ox : Obj} {od : Option Obj} {h₀ : Heap} {m : Str → Option Value} {b tb : Value}
theorem ifBound_objNe {args : List Value} {Q : Option Value → Shared → Prop} (X : K.In s.heap) (I : PySem.W.InstAt s.heap x ox C od) (hs : PySem.W.findIn K (.ref C) "__ne__" = some (some (.builtin "object.__ne__")))
    (h : wpAny M A (call (.builtin "object.__ne__") (.ref x :: args)) (fun v => Q (some v)) E s) : wpAny M A (callSpecialIfBound? (.ref x) "__ne__" args) Q E s := by
  simp only [callSpecialIfBound?, bindSpecialIfBound?]
  have found := PySem.W.looks_findIn (M := M) X hs
  refine wpAny_holding (wpAny_bind (wpAny_bind (wpAny_bind (I.type.here (found.here ?_)))))
  refine wpAny_bind (wpAny_askSetting (wpAny_ite ?_))
  have fin : wpAny M A (call (.builtin "object.__ne__") ([.ref x] ++ args) >>= fun v => pure (some v)) Q E s := wpAny_bind (wpAny_mono h (fun v s' h' => wpAny_pure h') fun _ _ h' => h')
  split
  · exact wpAny_bind (wpAny_of_eq (F.cmp_object.ne.bind _) (wpAny_pure (by exact fin)))
  · exact wpAny_tryCatch (wpAny_bind (wpAny_of_eq (F.cmp_object.ne.bind _) (wpAny_pure (by exact fin))))
/-- how object.__ne__ answers by an own == that answers a bool -/
theorem entry_ne {Q : Fin → Shared → Prop} (hu : A.units < cLine) (X : K.In s.heap) (I : PySem.W.InstAt s.heap x ox C od) (hs : PySem.W.findIn K (.ref C) "__eq__" = some (some (.ref f))) (hf : PySem.W.isFn K (.ref f) = true)
    (hcall : wpAny M A (call (.ref f) [.ref x, b]) (fun v s' => ∃ k, v = .bool k ∧ Q (.done (.ret (.bool (!k)))) s') E s) : wpAny M A (Builtin.«object.__ne__» ⟨[.ref x, b], []⟩) Q E s := by
  unfold Builtin.«object.__ne__»
  repeat (first
    | with_reducible refine wpAny_cRoomFor hu ?_
    | (refine wpAny_bind (m := callSpecialIfBound? (.ref x) (Str.ofString "__eq__") [b])
        (PySem.W.ifBound_K X I hs hf (wpAny_mono hcall (fun r s' hr => by
          obtain ⟨k, rfl, hq⟩ := hr
          repeat (first | exact wpAny_truthy_bool hq | exact wpAny_pure hq | exact hq | (refine wpAny_bind (m := truthy (.bool _)) (wpAny_truthy_bool ?_)) | wp_step)) fun _ _ err => err)))
    | wp_step)
theorem call_ne {Q : Value → Shared → Prop} (hu : A.units + 1 < cLine) (X : K.In s.heap) (I : PySem.W.InstAt s.heap x ox C od) (hm : PySem.W.mroIn K C (.type "object") = some true) (hs : PySem.W.findIn K (.ref C) "__eq__" = some (some (.ref f))) (hf : PySem.W.isFn K (.ref f) = true)
    (hcall : wpAny (model prog w) A.in1 (call (.ref f) [.ref x, b]) (fun v s' => ∃ k, v = .bool k ∧ Q (.bool (!k)) s') E s) :
    wpAny (model prog w) A (call (.builtin "object.__ne__") [.ref x, b]) Q E s :=
  wpAny_call (codeAny_call_builtin F.cmp_object.ne.plain F.cmpEntry_ne (PySem.W.check_slot F.cmpKind_ne F.cmpSplit_ne (I.type.andThen (PySem.W.looks_mroIn X hm)) (F.cmpArgs_ne _ _) (entry_ne (A := A.in1) hu X I hs hf hcall)))
theorem cmp_ne {Q : Value → Shared → Prop} (hu : A.units + 1 < cLine) (X : K.In s.heap) (I : PySem.W.InstAt s.heap x ox C od) (hb : PySem.W.Looks (model prog w) s.heap (typeOf b) tb) (hn : PySem.W.notFirst K C tb = true) (hm : PySem.W.mroIn K C (.type "object") = some true)
    (hne : PySem.W.findIn K (.ref C) "__ne__" = some (some (.builtin "object.__ne__"))) (hs : PySem.W.findIn K (.ref C) "__eq__" = some (some (.ref f))) (hf : PySem.W.isFn K (.ref f) = true)
    (hcall : wpAny (model prog w) A.in1 (call (.ref f) [.ref x, b]) (fun v s' => ∃ k, v = .bool k ∧ Q (.bool (!k)) s') E s) : wpAny (model prog w) A (richCompare .NotEq (.ref x) b) Q E s := by
  have one : wpAny (model prog w) A (tryCompare (.ref x) "__ne__" b) (fun r s' => ∃ v, r = some v ∧ Q v s') E s := by
    unfold tryCompare
    refine wpAny_bind (ifBound_objNe X I hne (call_ne hu X I hm hs hf (wpAny_mono hcall (fun v s' hv => ?_) fun _ _ e => e)))
    obtain ⟨k, rfl, hq⟩ := hv
    exact ⟨k, rfl, wpAny_pure ⟨_, rfl, hq⟩⟩
  unfold richCompare
  simp only [oneThing_ref]
  refine wpAny_holding (wpAny_bind (wpAny_cRoomFor (Nat.lt_of_succ_lt hu) ?_))
  refine wpAny_bind (I.type.here (wpAny_bind (hb.here ?_)))
  split
  · rename_i q
    have e : PySem.W.subIn K tb (.ref C) = some false := by
      rcases Bool.or_eq_true_iff.mp hn with e | e
      · rw [beq_iff_eq.mp e] at q; simp at q
      · exact beq_iff_eq.mp e
    refine wpAny_bind ((PySem.W.looks_subIn X e).here ?_)
    simp only [Bool.false_eq_true, if_false]
    refine wpAny_bind (wpAny_mono one (fun r s2 got => ?_) fun _ _ err => err)
    obtain ⟨v, rfl, hq⟩ := got
    exact wpAny_pure hq
  · refine wpAny_bind (wpAny_pure ?_)
    simp only [Bool.false_eq_true, if_false]
    refine wpAny_bind (wpAny_mono one (fun r s2 got => ?_) fun _ _ err => err)
    obtain ⟨v, rfl, hq⟩ := got
    exact wpAny_pure hq
end
end OWN
namespace L2
open PySem PySem.Spec PyProof.Rows
section
variable {X : Cx} {CX : CXT} {n : Nat} {C f : Addr} {fd : FuncData} {ps : List Str} {sp : Sp} {E : XK} {H : Hp} {s : Shared} {σ : St} {pins : List (Addr × Obj)}
/-- a def runs inside an operator -/
theorem run_own {A : Around} {Q : VK} {us : List Value} {vs : List V} (F : FnOk X.prog X.w X.K X.mg X.base CX n f fd ps sp) (hb : Binds X.K fd ps []) (hx : Passes CX X E) (hr : Room n A) (hf : A.frames = X.A.frames) (I : Inv X pins σ H s) (r : Vals vs us) (h : sp vs H Q E) :
    wpAny (model X.prog X.w) A (call (.ref f) us) (EP X pins σ Q) X.xe s := by
  have here : Env0 X.prog X.w X.K X.mg X.base A X.stack s H := { I.env0 with frames := by rw [hf]; exact I.env0.frames }
  have hl := F.len _ _ _ _ h
  refine wpAny_call (codeAny_mono (F.run A X.stack s H ⟨us, []⟩ us vs _ E hr here (by
    have := hb s us I.kIn (by rw [List.length_append, ← r.length]; simpa using hl)
    simpa using this) r h) fun r s' hq => ?_)
  cases r with
  | error e => exact hx pins σ H s e s' I hq
  | ok fl =>
    cases fl with
    | ret w => exact I.after hq
    | next => exact False.elim hq
    | brk => exact False.elim hq
    | cont => exact False.elim hq
/-- an instance of the heap, as the rules of operators want it -/
theorem at_ins {P : Program} {w : World} {h : Heap} {H : Hp} {a dx C : Addr} {fs : List (Str × V)} (hok : HOk P w H h) (e : H a = some (.ins C dx fs)) : ∃ ox od, PySem.W.InstAt h a ox C od :=
  (ins_get hok e).elim fun _ m => m.1.look.elim fun od j => ⟨_, od, j.1⟩
/-- x in y, y an instance of the class at C -/
def rInOwn (C : Addr) (sp : Sp) (E : XK) : R2 := fun x y H Q => ∃ a dx fs, y = .ref a ∧ H a = some (.ins C dx fs) ∧ sp [y, x] H (fun z H' => ∃ k, z = .bl k ∧ Q (.bl k) H') E
theorem op_inOwn (F : FnOk X.prog X.w X.K X.mg X.base CX n f fd ps sp) (hb : Binds X.K fd ps []) (hx : Passes CX X E) (hr : Room n X.A) (hs : PySem.W.findIn X.K (.ref C) "__contains__" = some (some (.ref f))) (hf : PySem.W.isFn X.K (.ref f) = true) :
    OpR X (compareOp .In) (rInOwn C sp E) := by
  intro pins s σ H x y v u Q I rx ry h
  obtain ⟨a, dx, fs, rfl, ha, q⟩ := h
  cases (show u = Value.ref a from ry)
  have ⟨_, _, J⟩ := at_ins I.hok ha
  obtain ⟨m, hF⟩ := I.fr
  refine PySem.W.in_K hF I.ok.mod.kin J hs hf (wpAny_mono (run_own F hb hx hr rfl I (us := [.ref a, v]) (vs := [.ref a, x]) (.cons rfl (.cons rx .nil)) q) (fun w s' z => ?_) fun _ _ x => x)
  obtain ⟨z', H', I', rz, k, ek, qk⟩ := z
  subst ek
  cases (show w = Value.bool k from rz)
  exact wpAny_truthy_bool ⟨.bl k, H', I', rfl, qk⟩
/-- x == y (x <= y, ..), x an instance of the class at C, y of that class too or of none of the text's -/
def rCmpOwn (K : PySem.W.Frag) (C : Addr) (sp : Sp) (E : XK) : R2 := fun x y H Q => ∃ a dx fs b dy gs, x = .ref a ∧ y = .ref b ∧ H a = some (.ins C dx fs) ∧ H b = some (.ins C dy gs) ∧ sp [x, y] H Q E
theorem op_cmpOwn {op : CmpOp} (hop : ∀ a b, compareOp op a b = richCompare op a b) (hs : PySem.W.findIn X.K (.ref C) (cmpInfo op).2.1 = some (some (.ref f))) (hf : PySem.W.isFn X.K (.ref f) = true)
    (F : FnOk X.prog X.w X.K X.mg X.base CX n f fd ps sp) (hb : Binds X.K fd ps []) (hr : Room n X.A) (hx : Passes CX X E) : OpR X (compareOp op) (rCmpOwn X.K C sp E) := by
  intro pins s σ H x y v u Q I rx ry h
  obtain ⟨a, dx, fs, b, dy, gs, rfl, rfl, ha, hb', q⟩ := h
  cases (show v = Value.ref a from rx)
  cases (show u = Value.ref b from ry)
  have ⟨_, _, J⟩ := at_ins I.hok ha
  have ⟨_, _, J'⟩ := at_ins I.hok hb'
  obtain ⟨m, hF⟩ := I.fr
  rw [hop]
  refine PySem.W.cmp_K (op := op) (tb := .ref C) hr.units0 hF I.ok.mod.kin J J'.type (by simp [PySem.W.notFirst]) hs hf ?_
  refine wpAny_mono (run_own F hb hx hr rfl I (us := [.ref a, .ref b]) (vs := [.ref a, .ref b]) (.cons rfl (.cons rfl .nil)) q) (fun w s' z => ?_) fun _ _ x => x
  obtain ⟨z', H', I', rz, qz⟩ := z
  exact SlX.cmpback rz ⟨z', H', I', rz, qz⟩
/-- x != y by the own == -/
def rNeOwn (C : Addr) (sp : Sp) (E : XK) : R2 := fun x y H Q => ∃ a dx fs b dy gs, x = .ref a ∧ y = .ref b ∧ H a = some (.ins C dx fs) ∧ H b = some (.ins C dy gs) ∧ sp [x, y] H (fun z H' => ∃ k, z = .bl k ∧ Q (.bl (!k)) H') E
theorem op_neOwn (hm : PySem.W.mroIn X.K C (.type "object") = some true) (hne : PySem.W.findIn X.K (.ref C) "__ne__" = some (some (.builtin "object.__ne__"))) (hs : PySem.W.findIn X.K (.ref C) "__eq__" = some (some (.ref f))) (hf : PySem.W.isFn X.K (.ref f) = true)
    (F : FnOk X.prog X.w X.K X.mg X.base CX n f fd ps sp) (hb : Binds X.K fd ps []) (hr : Room (n + 1) X.A) (hx : Passes CX X E) : OpR X (compareOp .NotEq) (rNeOwn C sp E) := by
  intro pins s σ H x y v u Q I rx ry h
  obtain ⟨a, dx, fs, b, dy, gs, rfl, rfl, ha, hb', q⟩ := h
  cases (show v = Value.ref a from rx)
  cases (show u = Value.ref b from ry)
  have ⟨_, _, J⟩ := at_ins I.hok ha
  have ⟨_, _, J'⟩ := at_ins I.hok hb'
  show wpAny (model X.prog X.w) X.A (richCompare .NotEq (.ref a) (.ref b)) _ _ _
  refine OWN.cmp_ne (tb := .ref C) (hr.in1.units0) I.kIn J J'.type (by simp [PySem.W.notFirst]) hm hne hs hf ?_
  refine wpAny_mono (run_own (A := X.A.in1) F hb hx hr.in1 rfl I (us := [.ref a, .ref b]) (vs := [.ref a, .ref b]) (.cons rfl (.cons rfl .nil)) q) (fun w s' z => ?_) fun _ _ x => x
  obtain ⟨z', H', I', rz, k, ek, qk⟩ := z
  subst ek
  cases (show w = Value.bool k from rz)
  exact ⟨k, rfl, .bl (!k), H', I', rfl, qk⟩
/-- x | y, x & y, .., x an instance of the class at C -/
def rBinOwn (C : Addr) (sp : Sp) (E : XK) : R2 := fun x y H Q => ∃ a dx fs b dy gs, x = .ref a ∧ y = .ref b ∧ H a = some (.ins C dx fs) ∧ H b = some (.ins C dy gs) ∧ sp [x, y] H Q E
theorem op_binOwn {op : Operator} (hc : PySem.W.selfFirst X.K C = true) (hs : PySem.W.findIn X.K (.ref C) (PySem.dunder op.info.2) = some (some (.ref f))) (hf : PySem.W.isFn X.K (.ref f) = true)
    (F : FnOk X.prog X.w X.K X.mg X.base CX n f fd ps sp) (hb : Binds X.K fd ps []) (hr : Room n X.A) (hx : Passes CX X E) : OpR X (binaryOp op) (rBinOwn C sp E) := by
  intro pins s σ H x y v u Q I rx ry h
  obtain ⟨a, dx, fs, b, dy, gs, rfl, rfl, ha, hb', q⟩ := h
  cases (show v = Value.ref a from rx)
  cases (show u = Value.ref b from ry)
  have ⟨_, _, J⟩ := at_ins I.hok ha
  have ⟨_, _, J'⟩ := at_ins I.hok hb'
  obtain ⟨m, hF⟩ := I.fr
  refine PySem.W.binop_K hF I.ok.mod.kin J J'.type hc hs hf ?_
  refine wpAny_mono (run_own F hb hx hr rfl I (us := [.ref a, .ref b]) (vs := [.ref a, .ref b]) (.cons rfl (.cons rfl .nil)) q) (fun w s' z => ?_) fun _ _ x => x
  obtain ⟨z', H', I', rz, qz⟩ := z
  exact SlX.cmpback rz ⟨z', H', I', rz, qz⟩
end
end L2

set_option Elab.async false
set_option linter.all false
set_option maxRecDepth 100000
set_option maxHeartbeats 2000000
/-! isinstance on data. -/
namespace DL
open PySem PySem.Spec PyProof.Rows L2 StX
def tyN : PyData → String
  | .none => "NoneType"
  | .bool _ => "bool"
  | .int _ => "int"
  | .str _ => "str"
  | .list _ => "list"
  | .tuple _ => "tuple"
  | .dict _ => "dict"
theorem ty_of {K : PySem.W.Frag} {B H : Hp} {v : V} {d : PyData} (e : Ex B H) (h : Dt K B v d) : TyX K H v (.type (tyN d)) := by
  cases h with
  | non => exact .base .non
  | bl b => exact .base (.bl b)
  | int i => exact .base (.int i)
  | str x => exact .base (.str x)
  | lst h1 h2 => exact .base (.lst (e _ _ h1))
  | tup h1 h2 =>
    rcases h1 with (h1 | ⟨o, h1⟩) | ⟨o, its, n, h1, h3, _⟩
    · exact .base (.tup (e _ _ h1))
    · exact .fTuple (e _ _ h1)
    · exact .kTuple h1 h3
  | dct h => exact .base (.dK (e _ _ h))
def isIntD : PyData → Bool
  | .int _ => true
  | .bool _ => true
  | _ => false
def isBoolD : PyData → Bool
  | .bool _ => true
  | _ => false
def isListD : PyData → Bool
  | .list _ => true
  | _ => false
def isTupD : PyData → Bool
  | .tuple _ => true
  | _ => false
theorem kit_int : ∀ (d : PyData), kitB (tyN d) "int" = some (isIntD d)
  | .none => (by decide +kernel : kitB "NoneType" "int" = some false)
  | .bool _ => (by decide +kernel : kitB "bool" "int" = some true)
  | .int _ => (by decide +kernel : kitB "int" "int" = some true)
  | .str _ => (by decide +kernel : kitB "str" "int" = some false)
  | .list _ => (by decide +kernel : kitB "list" "int" = some false)
  | .tuple _ => (by decide +kernel : kitB "tuple" "int" = some false)
  | .dict _ => (by decide +kernel : kitB "dict" "int" = some false)
theorem kit_bool : ∀ (d : PyData), kitB (tyN d) "bool" = some (isBoolD d)
  | .none => (by decide +kernel : kitB "NoneType" "bool" = some false)
  | .bool _ => (by decide +kernel : kitB "bool" "bool" = some true)
  | .int _ => (by decide +kernel : kitB "int" "bool" = some false)
  | .str _ => (by decide +kernel : kitB "str" "bool" = some false)
  | .list _ => (by decide +kernel : kitB "list" "bool" = some false)
  | .tuple _ => (by decide +kernel : kitB "tuple" "bool" = some false)
  | .dict _ => (by decide +kernel : kitB "dict" "bool" = some false)
theorem kit_list : ∀ (d : PyData), kitB (tyN d) "list" = some (isListD d)
  | .none => (by decide +kernel : kitB "NoneType" "list" = some false)
  | .bool _ => (by decide +kernel : kitB "bool" "list" = some false)
  | .int _ => (by decide +kernel : kitB "int" "list" = some false)
  | .str _ => (by decide +kernel : kitB "str" "list" = some false)
  | .list _ => (by decide +kernel : kitB "list" "list" = some true)
  | .tuple _ => (by decide +kernel : kitB "tuple" "list" = some false)
  | .dict _ => (by decide +kernel : kitB "dict" "list" = some false)
theorem kit_tup : ∀ (d : PyData), kitB (tyN d) "tuple" = some (isTupD d)
  | .none => (by decide +kernel : kitB "NoneType" "tuple" = some false)
  | .bool _ => (by decide +kernel : kitB "bool" "tuple" = some false)
  | .int _ => (by decide +kernel : kitB "int" "tuple" = some false)
  | .str _ => (by decide +kernel : kitB "str" "tuple" = some false)
  | .list _ => (by decide +kernel : kitB "list" "tuple" = some false)
  | .tuple _ => (by decide +kernel : kitB "tuple" "tuple" = some true)
  | .dict _ => (by decide +kernel : kitB "dict" "tuple" = some false)
section
variable {K : PySem.W.Frag} {B O : Hp} {G : List SD} {te : TE} {d : PyData}
/-- isinstance(x, T), T a built-in class -/
theorem ev_isi {n : String} {b : Bool} (h : EvD K B O G te d) (k : kitB (tyN d) n = some b) : EvD K B O G (tCB (rIsi K) (tCons te (tCons (tC (.ty n)) tNil))) (.bool b) := fun B1 O1 σ H e1 o s Q q =>
  h B1 O1 σ H e1 o s _ fun v B2 H2 e2 w2 d2 => ⟨v, .ty n, _, _, b, rfl, .ty n, ty_of w2.b d2, kit_ty k, q _ B2 H2 e2 w2 (.bl b)⟩
/-- isinstance(x, (list, tuple)) -/
theorem ev_isiT {b : Bool} (h : EvD K B O G te d) (e : (isListD d || isTupD d) = b) : EvD K B O G (tCB (rIsiT K) (tCons te (tCons (tTup (tCons (tC (.ty "list")) (tCons (tC (.ty "tuple")) tNil))) tNil))) (.bool b) := fun B1 O1 σ H e1 o s Q q =>
  h B1 O1 σ H e1 o s _ fun v B2 H2 e2 w2 d2 => ⟨by decide, fun p hp => by
    refine ⟨v, p, [.ty "list", .ty "tuple"], _, [.type "list", .type "tuple"], b, rfl, upd_same, .cons (.ty _) (.cons (.ty _) .nil), ty_of (B := upd B2 p (.tup [.ty "list", .ty "tuple"])) (w2.newB hp).b (dp_ex (Ex.new (w2.fb hp)) _ _ d2), ?_, q _ (upd B2 p (.tup [.ty "list", .ty "tuple"])) _ (e2.trans (Ex.new (w2.fb hp))) (w2.newB hp) (.bl b)⟩
    refine kitAny_cons (kit_ty (kit_list d)) (fun h1 => ?_) (fun h1 => by rw [← e, h1]; rfl)
    refine kitAny_cons (kit_ty (kit_tup d)) (fun h2 => ?_) (fun h2 => by rw [← e, h1, h2]; rfl)
    rw [← e, h1, h2]
    exact kitAny_nil⟩
end
section
variable (K : PySem.W.Frag) {X : Cx}
theorem call_isiK' (h : X.K = K := by rfl) : CallR X (.builtin "isinstance") (rIsi K) := h ▸ call_isi
theorem call_isiTK (h : X.K = K := by rfl) : CallR X (.builtin "isinstance") (rIsiT K) := h ▸ call_isiT
end
/-- whole numbers that are no bool, at least lo -/
def whole : PyData → Option Int
  | .int i => some i
  | _ => none
theorem whole_int {d : PyData} : (isIntD d && !isBoolD d) = (whole d).isSome := by cases d <;> rfl
end DL

set_option Elab.async false
set_option linter.all false
set_option maxRecDepth 100000
set_option maxHeartbeats 2000000
/-! Parts of readers among all data: forms, parts, sizes, places, the first wrong one. -/
namespace PD
open PySem DL
def encO : Option Int → PyData
  | none => .none
  | some i => .int i
def under (hi : Option Int) (i : Int) : Bool := match hi with
  | none => true
  | some h => decide (i ≤ h)
def isWhole (d : PyData) : Bool := isIntD d && !isBoolD d
/-- from lo on, at most hi -/
def inFrom (d : PyData) (lo : Int) (hi : Option Int) : Bool := match d with
  | .int i => decide (lo ≤ i) && under hi i
  | _ => false
def orNone (d : PyData) (lo : Int) (hi : Option Int) : Bool := match d with
  | .none => true
  | _ => inFrom d lo hi
def intOf : PyData → Int
  | .int i => i
  | _ => 0
def oneOf (ws : List Str) : PyData → Bool
  | .str x => ws.any (x == ·)
  | _ => false
abbrev MANNERS : List Str := ["checked", "bare"]
abbrev LIMITS : List Str := ["nested", "cut", "told"]
abbrev RESTS : List Str := ["skip", "exact"]
abbrev HOLDERS : List Str := ["times", "counted", "within", "fill", "if left"]
def nextD (d : PyData) : Int := intOf d + 1
def optsOk : Int → List PyData → Bool
  | _, [] => true
  | lo, .tuple [n, _] :: r => inFrom n lo (some 99) && optsOk (nextD n) r
  | _, _ => false
def isCell : List PyData → Bool
  | [lo, hi, m] => inFrom lo 0 (some 1000000) && (orNone hi (intOf lo) (some 1000000) && oneOf MANNERS m)
  | _ => false
def isRow : List PyData → Bool
  | [.tuple ps] => decide (ps.length ≤ 12)
  | _ => false
def isChoice : List PyData → Bool
  | [m, .tuple os] => oneOf MANNERS m && (decide (1 ≤ os.length ∧ os.length ≤ 6) && optsOk 0 os)
  | _ => false
def isTimes : List PyData → Bool
  | [n, _] => inFrom n 0 (some 6)
  | _ => false
def isCounted : List PyData → Bool
  | [m, mo, ah, _] => oneOf MANNERS m && (orNone mo 0 (some 9) && orNone ah 0 (some 9))
  | _ => false
def isWithin : List PyData → Bool
  | [m, mo, l, r, _] => oneOf MANNERS m && (orNone mo 0 (some 20) && (oneOf LIMITS l && oneOf RESTS r))
  | _ => false
def isHolder : List PyData → Bool
  | [_] => true
  | _ => false
def isNeed : List PyData → Bool
  | [n] => inFrom n 1 (some 9)
  | _ => false
def isPad : List PyData → Bool
  | [n, m] => inFrom n 2 (some 6) && oneOf MANNERS m
  | _ => false
def formAt (w : Str) : Option (Nat × (List PyData → Bool)) :=
  if w = "cell" then some (4, isCell) else if w = "row" then some (2, isRow) else if w = "choice" then some (3, isChoice) else if w = "times" then some (3, isTimes) else if w = "counted" then some (5, isCounted)
  else if w = "within" then some (6, isWithin) else if w = "fill" then some (2, isHolder) else if w = "if left" then some (2, isHolder) else if w = "need" then some (2, isNeed) else if w = "pad" then some (3, isPad) else none
def hasForm : PyData → Bool
  | .tuple (.str w :: fs) => match formAt w with
    | some (n, p) => decide (fs.length + 1 = n) && p fs
    | none => false
  | _ => false
def second : PyData → PyData
  | .tuple [_, p] => p
  | _ => .none
def tupOf : PyData → List PyData
  | .tuple ps => ps
  | _ => []
def partsK (w : Str) (fs : List PyData) : List PyData :=
  if w = "row" then tupOf (fs.headD .none) else if w = "choice" then (tupOf (fs.getD 1 .none)).map second else if HOLDERS.any (w == ·) then [fs.getLastD .none] else []
def partsOf : PyData → List PyData
  | .tuple (.str w :: fs) => partsK w fs
  | _ => []
def wordOf : PyData → Str
  | .tuple (.str w :: _) => w
  | _ => ""
/-- what has the form of a part -/
inductive Form : PyData → Prop
  | cell (lo hi m : PyData) : isCell [lo, hi, m] = true → Form (.tuple [.str "cell", lo, hi, m])
  | row (ps : List PyData) : ps.length ≤ 12 → Form (.tuple [.str "row", .tuple ps])
  | choice (m : PyData) (os : List PyData) : isChoice [m, .tuple os] = true → Form (.tuple [.str "choice", m, .tuple os])
  | times (n x : PyData) : inFrom n 0 (some 6) = true → Form (.tuple [.str "times", n, x])
  | counted (m mo ah x : PyData) : isCounted [m, mo, ah, x] = true → Form (.tuple [.str "counted", m, mo, ah, x])
  | within (m mo l r x : PyData) : isWithin [m, mo, l, r, x] = true → Form (.tuple [.str "within", m, mo, l, r, x])
  | fill (x : PyData) : Form (.tuple [.str "fill", x])
  | left (x : PyData) : Form (.tuple [.str "if left", x])
  | need (n : PyData) : inFrom n 1 (some 9) = true → Form (.tuple [.str "need", n])
  | pad (n m : PyData) : isPad [n, m] = true → Form (.tuple [.str "pad", n, m])
theorem from_int {d : PyData} {lo : Int} {hi : Option Int} (h : inFrom d lo hi = true) : ∃ z, d = .int z ∧ lo ≤ z ∧ under hi z = true := by
  cases d with
  | int z =>
    unfold inFrom at h
    rw [Bool.and_eq_true, decide_eq_true_eq] at h
    exact ⟨z, rfl, h.1, h.2⟩
  | none => cases h
  | bool => cases h
  | str => cases h
  | list => cases h
  | tuple => cases h
  | dict => cases h
theorem inFrom_not {d : PyData} {lo : Int} {hi : Option Int} (h : isWhole d = false) : inFrom d lo hi = false := by
  cases d with
  | int i => cases h
  | none => rfl
  | bool => rfl
  | str => rfl
  | list => rfl
  | tuple => rfl
  | dict => rfl
theorem whole_cases {d : PyData} (h : isWhole d = true) : ∃ i, d = .int i := by
  cases d with
  | int i => exact ⟨i, rfl⟩
  | none => cases h
  | bool => cases h
  | str => cases h
  | list => cases h
  | tuple => cases h
  | dict => cases h
theorem row_inv {fs : List PyData} (h : isRow fs = true) : ∃ ps, fs = [.tuple ps] ∧ ps.length ≤ 12 := by
  unfold isRow at h
  split at h
  · exact ⟨_, rfl, of_decide_eq_true h⟩
  · cases h
theorem choice_inv {fs : List PyData} (h : isChoice fs = true) : ∃ m os, fs = [m, .tuple os] := by
  unfold isChoice at h
  split at h
  · exact ⟨_, _, rfl⟩
  · cases h
theorem form_of {d : PyData} (h : hasForm d = true) : Form d := by
  unfold hasForm at h
  split at h
  · rename_i w fs
    unfold formAt at h
    by_cases e : w = "cell"
    · subst e
      simp at h
      obtain ⟨hl, hp⟩ := h
      match fs, hl with
      | [a, b, c], _ => exact .cell a b c hp
    rw [if_neg e] at h
    by_cases e : w = "row"
    · subst e
      simp at h
      obtain ⟨ps, rfl, hl⟩ := row_inv h.2
      exact .row ps hl
    rw [if_neg e] at h
    by_cases e : w = "choice"
    · subst e
      simp at h
      obtain ⟨m, os, rfl⟩ := choice_inv h.2
      exact .choice m os h.2
    rw [if_neg e] at h
    by_cases e : w = "times"
    · subst e
      simp at h
      obtain ⟨hl, hp⟩ := h
      match fs, hl with
      | [a, b], _ => exact .times a b hp
    rw [if_neg e] at h
    by_cases e : w = "counted"
    · subst e
      simp at h
      obtain ⟨hl, hp⟩ := h
      match fs, hl with
      | [a, b, c, d], _ => exact .counted a b c d hp
    rw [if_neg e] at h
    by_cases e : w = "within"
    · subst e
      simp at h
      obtain ⟨hl, hp⟩ := h
      match fs, hl with
      | [a, b, c, d, f], _ => exact .within a b c d f hp
    rw [if_neg e] at h
    by_cases e : w = "fill"
    · subst e
      simp at h
      obtain ⟨hl, hp⟩ := h
      match fs, hl with
      | [a], _ => exact .fill a
    rw [if_neg e] at h
    by_cases e : w = "if left"
    · subst e
      simp at h
      obtain ⟨hl, hp⟩ := h
      match fs, hl with
      | [a], _ => exact .left a
    rw [if_neg e] at h
    by_cases e : w = "need"
    · subst e
      simp at h
      obtain ⟨hl, hp⟩ := h
      match fs, hl with
      | [a], _ => exact .need a hp
    rw [if_neg e] at h
    by_cases e : w = "pad"
    · subst e
      simp at h
      obtain ⟨hl, hp⟩ := h
      match fs, hl with
      | [a, b], _ => exact .pad a b hp
    rw [if_neg e] at h
    cases h
  · cases h
theorem Form.head {d : PyData} (h : Form d) : ∃ w fs, d = .tuple (.str w :: fs) := by
  cases h <;> exact ⟨_, _, rfl⟩
theorem parts_row {ps : List PyData} : partsOf (.tuple [.str "row", .tuple ps]) = ps := by
  show partsK _ _ = _
  unfold partsK
  rw [if_pos rfl]
  rfl
theorem parts_choice {m : PyData} {os : List PyData} : partsOf (.tuple [.str "choice", m, .tuple os]) = os.map second := by
  show partsK _ _ = _
  unfold partsK
  rw [if_neg (by decide), if_pos rfl]
  rfl
theorem parts_one {w : Str} {fs : List PyData} (h : HOLDERS.any (w == ·) = true) : partsOf (.tuple (.str w :: fs)) = [fs.getLastD .none] := by
  show partsK _ _ = _
  unfold partsK
  rw [if_neg, if_neg, if_pos h]
  · intro e
    rw [e] at h
    exact absurd h (by decide)
  · intro e
    rw [e] at h
    exact absurd h (by decide)
theorem parts_none {w : Str} {fs : List PyData} (h : HOLDERS.any (w == ·) = false) (h1 : w ≠ "row") (h2 : w ≠ "choice") : partsOf (.tuple (.str w :: fs)) = [] := by
  show partsK _ _ = _
  unfold partsK
  rw [if_neg h1, if_neg h2, if_neg (by rw [h]; exact Bool.false_ne_true)]
theorem opts_at : ∀ {os : List PyData} {lo : Int}, optsOk lo os = true → ∀ o, o ∈ os → ∃ n p, o = .tuple [.int n, p]
  | [], _, _, o, ho => by simp at ho
  | x :: os, lo, h, o, ho => by
    unfold optsOk at h
    split at h
    · rename_i heq
      cases heq
    · rename_i heq
      cases heq
      rw [Bool.and_eq_true] at h
      rcases List.mem_cons.mp ho with rfl | ho
      · obtain ⟨z, rfl, _⟩ := from_int h.1
        exact ⟨z, _, rfl⟩
      · exact opts_at h.2 o ho
    · cases h
theorem choice_opts {m : PyData} {os : List PyData} (h : isChoice [m, .tuple os] = true) : oneOf MANNERS m = true ∧ 1 ≤ os.length ∧ os.length ≤ 6 ∧ optsOk 0 os = true := by
  have h' : (oneOf MANNERS m && (decide (1 ≤ os.length ∧ os.length ≤ 6) && optsOk 0 os)) = true := h
  rw [Bool.and_eq_true, Bool.and_eq_true, decide_eq_true_eq] at h'
  exact ⟨h'.1, h'.2.1.1, h'.2.1.2, h'.2.2⟩
theorem Form.kids {d : PyData} (h : Form d) : (partsOf d).length ≤ 12 := by
  cases h with
  | cell => rw [parts_none (by decide) (by decide) (by decide)]; simp
  | row ps h => rw [parts_row]; exact h
  | choice m os h =>
    rw [parts_choice, List.length_map]
    have := (choice_opts h).2.2.1
    omega
  | times => rw [parts_one (by decide)]; simp
  | counted => rw [parts_one (by decide)]; simp
  | within => rw [parts_one (by decide)]; simp
  | fill => rw [parts_one (by decide)]; simp
  | left => rw [parts_one (by decide)]; simp
  | need => rw [parts_none (by decide) (by decide) (by decide)]; simp
  | pad => rw [parts_none (by decide) (by decide) (by decide)]; simp
/-! words -/
theorem Form.row_of {w : Str} {fs : List PyData} (h : Form (.tuple (.str w :: fs))) (e : (w == "row") = true) : ∃ ps, fs = [.tuple ps] ∧ ps.length ≤ 12 := by
  cases h with
  | row ps h => exact ⟨ps, rfl, h⟩
  | _ => exact absurd e (by decide)
theorem Form.choice_of {w : Str} {fs : List PyData} (h : Form (.tuple (.str w :: fs))) (e : (w == "choice") = true) : ∃ m os, fs = [m, .tuple os] ∧ isChoice [m, .tuple os] = true := by
  cases h with
  | choice m os h => exact ⟨m, os, rfl, h⟩
  | _ => exact absurd e (by decide)
theorem Form.one_of {w : Str} {fs : List PyData} (h : Form (.tuple (.str w :: fs))) (e : HOLDERS.any (w == ·) = true) : ∃ gs x, fs = gs ++ [x] ∧ partsOf (.tuple (.str w :: fs)) = [x] ∧ gs.length ≤ 4 := by
  have hp := parts_one (fs := fs) e
  cases h with
  | times n x => exact ⟨[n], x, rfl, hp, by simp⟩
  | counted a b c x => exact ⟨[a, b, c], x, rfl, hp, by simp⟩
  | within a b c d x => exact ⟨[a, b, c, d], x, rfl, hp, by simp⟩
  | fill x => exact ⟨[], x, rfl, hp, by simp⟩
  | left x => exact ⟨[], x, rfl, hp, by simp⟩
  | _ => exact absurd e (by decide)
/-! what is in a part, to a depth -/
def okB : Nat → PyData → Bool
  | 0, _ => false
  | h + 1, d => hasForm d && (partsOf d).all (okB h)
theorem ok_succ {h : Nat} {d : PyData} (o : okB (h + 1) d = true) : hasForm d = true ∧ ∀ x, x ∈ partsOf d → okB h x = true := by
  have o' : (hasForm d && (partsOf d).all (okB h)) = true := o
  rw [Bool.and_eq_true, List.all_eq_true] at o'
  exact o'
def npart : Nat → PyData → Nat
  | 0, _ => 1
  | h + 1, d => 1 + ((partsOf d).map (npart h)).sum
theorem npart_pos {h : Nat} {d : PyData} : 1 ≤ npart h d := by
  cases h with
  | zero => exact Nat.le_refl _
  | succ h => exact Nat.le_add_right _ _
theorem le_sum {f : PyData → Nat} {l : List PyData} {x : PyData} (h : x ∈ l) : f x ≤ (l.map f).sum := by
  induction l with
  | nil => cases h
  | cons y l ih =>
    rw [List.map_cons, List.sum_cons]
    rcases List.mem_cons.mp h with rfl | h
    · omega
    · have := ih h
      omega
theorem npart_kid {h : Nat} {d x : PyData} (hx : x ∈ partsOf d) : npart h x < npart (h + 1) d := by
  have := le_sum (f := npart h) hx
  show npart h x < 1 + _
  omega
def numOf : PyData → Int
  | .tuple (_ :: n :: _) => intOf n
  | _ => 0
def counted : Nat → PyData → Int
  | 0, _ => 1
  | h + 1, d => if wordOf d = "times" then 1 + numOf d * ((partsOf d).map (counted h)).sum else 1 + ((partsOf d).map (counted h)).sum
def encN : Option Int → PyData
  | none => .none
  | some n => .int n
def sizeK (d : PyData) (ss : List (Option Int)) : Option Int :=
  if wordOf d = "cell" then some 1
  else if wordOf d = "need" then some 0
  else if wordOf d = "row" ∨ wordOf d = "choice" ∨ wordOf d = "times" then
    (if none ∈ ss then none
    else if wordOf d = "row" then some ((ss.map fun s => s.getD 0).sum)
    else if wordOf d = "times" then some (numOf d * (ss.headD (some 0)).getD 0)
    else if ∀ s ∈ ss, s = ss.headD (some 0) then some (1 + (ss.headD (some 0)).getD 0) else none)
  else none
def sizeD : Nat → PyData → Option Int
  | 0, _ => none
  | h + 1, d => sizeK d ((partsOf d).map (sizeD h))
def encP (p : List Int) : PyData := .tuple (p.map .int)
def encQ (q : List Int × PyData) : PyData := .tuple [encP q.1, q.2]
def subsAt (S : PyData → List (List Int × PyData)) (ks : List PyData) (i : Nat) : List (List Int × PyData) := match ks[i]? with
  | some c => (S c).map fun q => ((i : Int) :: q.1, q.2)
  | none => []
def subsTo (S : PyData → List (List Int × PyData)) (d : PyData) (n : Nat) : List (List Int × PyData) := ([], d) :: (List.range n).flatMap (subsAt S (partsOf d))
def subsD : Nat → PyData → List (List Int × PyData)
  | 0, d => [([], d)]
  | h + 1, d => subsTo (subsD h) d (partsOf d).length
theorem subsTo_succ {S : PyData → List (List Int × PyData)} {d : PyData} {n : Nat} {c : PyData} (h : (partsOf d)[n]? = some c) : subsTo S d (n + 1) = subsTo S d n ++ (S c).map fun q => ((n : Int) :: q.1, q.2) := by
  unfold subsTo
  rw [List.range_succ, List.flatMap_append, ← List.cons_append]
  simp [subsAt, h]
theorem subsTo_len {S : PyData → List (List Int × PyData)} {d : PyData} : ∀ n, n ≤ (partsOf d).length → (subsTo S d n).length = 1 + (((partsOf d).take n).map fun c => (S c).length).sum
  | 0, _ => by simp [subsTo]
  | n + 1, hn => by
    have hc : (partsOf d)[n]? = some (partsOf d)[n] := List.getElem?_eq_getElem (by omega)
    have ht : ((partsOf d).take (n + 1)).map (fun c => (S c).length) = ((partsOf d).take n).map (fun c => (S c).length) ++ [(S (partsOf d)[n]).length] := by
      rw [List.take_succ, hc, List.map_append]
      rfl
    rw [subsTo_succ hc, List.length_append, subsTo_len n (by omega), List.length_map, ht, List.sum_append, List.sum_cons, List.sum_nil]
    omega
theorem subs_len : ∀ {h : Nat} {d : PyData}, (subsD h d).length = npart h d
  | 0, _ => rfl
  | h + 1, d => by
    show (subsTo (subsD h) d (partsOf d).length).length = 1 + ((partsOf d).map (npart h)).sum
    rw [subsTo_len _ (Nat.le_refl _), List.take_length]
    congr 2
    exact List.map_congr_left fun c _ => subs_len
theorem subsTo_le {S : PyData → List (List Int × PyData)} {d : PyData} {n : Nat} (hn : n ≤ (partsOf d).length) : (subsTo S d n).length ≤ (subsTo S d (partsOf d).length).length := by
  rw [subsTo_len n hn, subsTo_len _ (Nat.le_refl _), List.take_length]
  have key : ∀ (l : List Nat) (m : Nat), (l.take m).sum ≤ l.sum := by
    intro l
    induction l with
    | nil => intro m; simp
    | cons x l ih =>
      intro m
      cases m with
      | zero => simp
      | succ m =>
        have := ih m
        simp
        omega
  have := key ((partsOf d).map fun c => (S c).length) n
  rw [← List.map_take] at this
  omega
def isNoneD : PyData → Bool
  | .none => true
  | _ => false
def field (d : PyData) (i : Nat) : PyData := match d with
  | .tuple xs => xs.getD i .none
  | _ => .none
def isWord (x : Str) : PyData → Bool
  | .str y => y == x
  | _ => false
def barred (d : PyData) : Bool := wordOf d == "within" || wordOf d == "need" || (wordOf d == "counted" && !isNoneD (field d 3))
/-- the two conditions on what is in a part -/
def suits (h : Nat) (d : PyData) : Bool :=
  if wordOf d = "counted" ∧ isNoneD (field d 3) = false then (sizeD h (field d 4)).isSome
  else if wordOf d = "within" ∧ isWord "told" (field d 3) = true then !((subsD h (field d 5)).any fun q => barred q.2)
  else true
/-- the path of the first wrong part -/
def firstOf (W : Nat → PyData → Option (List Int)) : Nat → List PyData → Option (List Int)
  | _, [] => none
  | i, x :: xs => match W i x with
    | some p => some p
    | none => firstOf W (i + 1) xs
def fwrong : Nat → List Int → PyData → Option (List Int)
  | 0, path, _ => some path
  | h + 1, path, d => if hasForm d = false then some path else match firstOf (fun i x => fwrong h (path ++ [(i : Int)]) x) 0 (partsOf d) with
    | some p => some p
    | none => if suits h d then none else some path
theorem firstOf_none {W : Nat → PyData → Option (List Int)} : ∀ {i : Nat} {xs : List PyData}, firstOf W i xs = none → ∀ j x, xs[j]? = some x → W (i + j) x = none
  | _, [], _, j, x, e => by simp at e
  | i, y :: ys, h, j, x, e => by
    unfold firstOf at h
    cases hy : W i y with
    | some p => rw [hy] at h; cases h
    | none =>
      rw [hy] at h
      cases j with
      | zero =>
        simp at e
        subst e
        exact hy
      | succ j =>
        have := firstOf_none h j x (by simpa using e)
        rw [show i + (j + 1) = i + 1 + j by omega]
        exact this
theorem ok_of_fwrong' {h : Nat} {d : PyData} (hf : hasForm d = true) (hk : ∀ x, x ∈ partsOf d → okB h x = true) : okB (h + 1) d = true := by
  show (hasForm d && (partsOf d).all (okB h)) = true
  rw [hf, Bool.true_and, List.all_eq_true]
  exact hk
theorem ok_of_fwrong : ∀ {h : Nat} {path : List Int} {d : PyData}, fwrong h path d = none → okB h d = true
  | 0, _, _, e => by cases e
  | h + 1, path, d, e => by
    unfold fwrong at e
    cases hf : hasForm d with
    | false => rw [if_pos hf] at e; cases e
    | true =>
      rw [if_neg (by rw [hf]; exact fun z => Bool.noConfusion z)] at e
      cases hk : firstOf (fun i x => fwrong h (path ++ [(i : Int)]) x) 0 (partsOf d) with
      | some p => rw [hk] at e; cases e
      | none =>
        show (hasForm d && (partsOf d).all (okB h)) = true
        rw [hf, Bool.true_and, List.all_eq_true]
        intro x hx
        obtain ⟨j, hj⟩ := List.mem_iff_getElem?.mp hx
        exact ok_of_fwrong (firstOf_none hk j x hj)
end PD

set_option Elab.async false
set_option linter.all false
set_option maxRecDepth 100000
set_option maxHeartbeats 2000000
/-! Defs of data that may raise an own error with one field. -/
namespace DL
open PySem PySem.Spec PyProof.Rows L2 StX
/-- what __init__ of such an error does: self.f = y -/
def spInitE (C : Addr) (f : Str) : Sp := fun vs H Q _ => ∃ a y, vs = [.ref a, y] ∧ H a = some (exo a C none) ∧ ∀ dx, H dx = none → dx ≠ a → Q .non (upd (upd H dx (exd dx [(f, y)])) a (exo a C (some dx)))
theorem init_end {H1 : Hp} {a dx C : Addr} {f : Str} {y : V} (ha : H1 a = none) (hd : dx ≠ a) : upd (L2.del (upd (upd (upd H1 a (exo a C none)) dx (exd dx [(f, y)])) a (exo a C (some dx))) a) dx (.xd [(f, y)]) = upd H1 dx (.xd [(f, y)]) := by
  funext b
  by_cases h1 : b = dx
  · subst h1
    rw [upd_same, upd_same]
  · rw [upd_ne h1, upd_ne h1]
    by_cases h2 : b = a
    · subst h2
      rw [L2.del_same, ha]
    · rw [L2.del_ne h2, upd_ne h2, upd_ne h1, upd_ne h2]
section
variable {P : Program} {w : World} {K : PySem.W.Frag} {mg : Str → Option Value} {base : Heap}
theorem ok_initE {qual a f : Str} {st : Stmt} {fI C : Addr} {fd : FuncData} {p1 p2 p3 p4 : Pos} (F : Fun K "__init__" qual st fI fd) (S : FnScope ["self", a] ["self", a] (defScope st)) (hb : defBody st = [.Assign [.Attribute (.Name "self" p1) f p2] (.Name a p3) p4]) (T : OexC K C) (hno : PySem.W.findIn K (.ref C) f = some none)
    (v0 : Vis (defScope st) "self") (v1 : Vis (defScope st) a) (hsw : ∀ env, swapsWith (.Name a p3) (some (.Attribute (.Name "self" p1) f p2)) p4.line env = pure false) (ha1 : (a == ("__debug__" : Str)) = false) (ha2 : (a == ("__classdict__" : Str)) = false) :
    FnOk P w K mg base CX0 1 fI fd ["self", a] (spInitE C f) := by
  refine F.ok S (fun vs H Q E h => ?_) (fun cdv A outer s H vs Q E hr h => ?_)
  · obtain ⟨x, y, rfl, _⟩ := h
    rfl
  · obtain ⟨x, y, rfl, hx, q⟩ := h
    refine ⟨_, by rw [hb]; exact pss_one (ps_ost (pe_var (i := 0) rfl v0) (pe_var (i := 1) rfl v1 (hd := ha1) (hcd := ha2)) (hsw _)), ?_⟩
    exact ⟨y, rfl, .ref x, rfl, x, C, rfl, T, hno, .inl ⟨hx, fun dx h1 h2 => q dx h1 h2⟩⟩
end
/-- what the text says of an own error class -/
structure ErrC (P : Program) (w : World) (K : PySem.W.Frag) (mg : Str → Option Value) (base : Heap) (x : Str) (C : Addr) (f : Str) : Prop where
  g : mg x = some (.ref C)
  T : OexC K C
  no : PySem.W.findIn K (.ref C) f = some none
  X : XfC K C
  ini : ∃ fI fd ps, PySem.W.findIn K (.ref C) "__init__" = some (some (.ref fI)) ∧ PySem.W.typeIn K (.ref fI) = some (.type "function") ∧ FnOk P w K mg base CX0 1 fI fd ps (spInitE C f) ∧ Binds K fd ps []
/-- raise C(e) -/
abbrev tRaise (C : Addr) (f : Str) (W : WX) (te : TE) : TS := fun _ σ H => tMkO C (spInitE C f) [] (tCons te tNil) σ H fun cls d H' => W cls d σ H'
theorem ps_raiseE {X : Cx} {W : WX} {x f : Str} {C : Addr} {e : Expr} {te : TE} {p pos pos2 : Pos} {k : Nat} (hc : X.calm = true) (T : ErrC X.prog X.w X.K X.mg X.base x C f) (hr : Room k X.A) (hk : 2 ≤ k) (tk : Takes X W) (ha : PE X e te) (hg : Gl X x) (hd : (x == ("__debug__" : Str)) = false := by decide)
    (he : starEach [e] X.env = (false, eval e X.env) :: starEach [] X.env := by rfl) (hpl : (backTo pos (starEach [] X.env)).any (·.1) = false := by rfl) :
    PS X (.Raise (some (.Call (.Name x p) [e] [] pos)) none pos2) (tRaise C f W te) := by
  obtain ⟨fI, fd, ps, h1, h2, h3, h4⟩ := T.ini
  exact ps_raise hc tk (pmk_oex T.T h1 h2 h3 (hr.mono hk) h4 .nil pass0 hg T.g (pa_cons ha pa_nil he) hd he hpl)
section
variable {K : PySem.W.Frag} {B O : Hp} {G : List SD} {σ : L2.St} {H : Hp} {te : TE} {D : Ends}
theorem s_raise {C : Addr} {f : Str} {x : Str} {Wx : WX} (s : Sta K B O G σ H) (h : EvD K B O G te (.str x)) (k : ∀ p B' H', Ex B B' → W B' O H' → B' p = some (.xd [(f, .str x)]) → Wx (.ref C) (some p) σ H') : tRaise C f Wx te D σ H :=
  h B O σ H (Ex.refl _) (Ex.refl _) s _ fun v B' H' e w dv => ⟨by simp, fun a ha => ⟨a, v, rfl, upd_same, fun dx hdx hne => by
    have hdx' : H' dx = none := by rw [upd_ne hne] at hdx; exact hdx
    refine ⟨rfl, dx, [(f, v)], upd_same, by rw [upd_ne hne, upd_same], hdx', ?_⟩
    rw [init_end ha hne]
    have ev := dp_str dv
    subst ev
    exact k dx (upd B' dx (.xd [(f, .str x)])) _ (e.trans (Ex.new (w.fb hdx'))) (w.newB hdx') upd_same⟩⟩
end
/-- how a def may end: data, or an error of the class at C with its field -/
inductive Out where
  | ret (d : PyData)
  | exc (C : Addr) (f : Str) (x : Str)
def OutOk (K : PySem.W.Frag) (B O : Hp) (Q : VK) (E : XK) : Out → Prop
  | .ret d => ∀ v B' H', Ex B B' → W B' O H' → Dt K B' v d → Q v H'
  | .exc C f x => ∀ p B' H', Ex B B' → W B' O H' → B' p = some (.xd [(f, .str x)]) → E (.ref C) (some p) H'
theorem OutOk.imp {K : PySem.W.Frag} {B B1 O : Hp} {Q : VK} {E : XK} {o : Out} (h : OutOk K B O Q E o) (e : Ex B B1) : OutOk K B1 O Q E o := by
  cases o with
  | ret d => exact fun v B' H' e' => h v B' H' (e.trans e')
  | exc C f x => exact fun p B' H' e' => h p B' H' (e.trans e')
/-- the promise of a def of data that may raise -/
def SpE (K : PySem.W.Frag) (R : List PyData → Out → Prop) : Sp := fun vs H Q E => ∃ B O ds o, W B O H ∧ DtAll K B vs ds ∧ R ds o ∧ OutOk K B O Q E o
section
variable {K : PySem.W.Frag} {B O : Hp} {G : List SD} {σ : L2.St} {H : Hp} {D : Ends} {R : List PyData → Out → Prop} {ds : List PyData} {t : TA} {E : XK} {tz : TS}
/-- a call as a statement, of what may raise -/
theorem q_callE {o : Out} (s : Sta K B O G σ H) (h : EvA K B O G t ds) (hr : R ds o) (k1 : ∀ d, o = .ret d → ∀ B' H', Ex B B' → Sta K B' O G σ H' → tz D σ H') (k2 : ∀ C f x, o = .exc C f x → ∀ p B' H', Ex B B' → W B' O H' → B' p = some (.xd [(f, .str x)]) → E (.ref C) (some p) H') :
    tSeq (tDrop (tCall (SpE K R) [] E t)) tz D σ H :=
  h B O σ H (Ex.refl _) (Ex.refl _) s _ fun vs B' H' e w dvs => by
    refine ⟨B', O, ds, o, w, by rw [List.append_nil]; exact dvs, hr, ?_⟩
    cases o with
    | ret d => exact fun v B2 H2 e2 w2 d2 => k1 d rfl B2 H2 (e.trans e2) ⟨w2, s.s.ex (e.trans e2)⟩
    | exc C f x => exact fun p B2 H2 e2 w2 d2 => k2 C f x rfl p B2 H2 (e.trans e2) w2 d2
end
section
variable {P : Program} {w : World} {K : PySem.W.Frag} {mg : Str → Option Value} {base : Heap}
theorem ok_fnE {x qual : Str} {st : Stmt} {f : Addr} {fd : FuncData} {N ps : List Str} {k : Nat} {R : List PyData → Out → Prop} (F : Fun K x qual st f fd) (S : FnScope N ps (defScope st)) (hl : ∀ ds d, R ds d → ds.length = ps.length)
    (hb : ∀ (cdv : Value) (A : Around) (outer : List Env) (s : Shared) (H0 : Hp) (E : XK), Room k (A.deeper (envOfC qual (defScope st) s.heap.objs.size f cdv)) → ∀ ds o, R ds o →
      ∃ t, PSs (cxOf (L2.CX P w) P w K mg base N qual (defScope st) f cdv A outer s H0 E) (defBody st) t ∧
        ∀ B O σ H (Q : VK), Sta K B O (gOf ds (N.length - ps.length)) σ H → OutOk K B O Q E o → t { nx := fun _ H' => Q .non H', rt := Q } σ H) :
    FnOk P w K mg base (L2.CX P w) (k + 1) f fd ps (SpE K R) := by
  refine F.okX S (fun vs H Q E h => ?_) (fun cdv A outer s H vs Q E hr h => ?_)
  · obtain ⟨B, O, ds, d, _, h2, h3, _⟩ := h
    rw [dps_len h2]
    exact hl ds d h3
  · obtain ⟨B, O, ds, d, h1, h2, h3, k⟩ := h
    obtain ⟨t, ht, hq⟩ := hb cdv A outer s H E hr ds d h3
    refine ⟨t, ht, hq B O _ H Q ⟨h1, ?_⟩ k⟩
    have e := slots_start h2 (N.length - ps.length)
    have hl' : vs.length = ps.length := by rw [dps_len h2]; exact hl ds d h3
    unfold L2.start
    rw [hl']
    exact e
/-- a def that stands at its name, its promise, raising -/
structure CalE (P : Program) (w : World) (K : PySem.W.Frag) (mg : Str → Option Value) (base : Heap) (k : Nat) (x : Str) (ps : List Str) (sp : Sp) : Prop where
  ex : ∃ f fd, FnOk P w K mg base (L2.CX P w) k f fd ps sp ∧ mg x = some (.ref f) ∧ PySem.W.keepIn K (.ref f) = true ∧ Binds K fd ps []
theorem At.calE {x : Str} {st : Stmt} {ps : List Str} {f : Addr} {fd : FuncData} {k : Nat} {sp : Sp} (a : At K mg x st ps f fd) (h : FnOk P w K mg base (L2.CX P w) k f fd ps sp) : CalE P w K mg base k x ps sp := ⟨f, fd, h, a.mg, a.fn.kp, a.bi⟩
end
/-- a call of what may raise, where what it raises goes on -/
theorem pe_calE {X : Cx} {x : Str} {ps : List Str} {sp : Sp} {k j : Nat} {p pos : Pos} {e : Expr} {es : List Expr} {t : TA} {E : XK} (C : CalE X.prog X.w X.K X.mg X.base k x ps sp) (hr : Room j X.A) (hk : k ≤ j) (hg : Gl X x) (tk : Takes X (fun cls d _ H => E cls d H)) (ha : PA X (e :: es) t) (hd : (x == ("__debug__" : Str)) = false := by decide)
    (he : starEach (e :: es) X.env = (false, eval e X.env) :: starEach es X.env := by rfl) (hpl : (backTo pos (starEach es X.env)).any (·.1) = false := by rfl) :
    PE X (.Call (.Name x p) (e :: es) [] pos) (tCall sp [] E t) := by
  obtain ⟨f, fd, h1, h2, h3, h4⟩ := C.ex
  exact pe_call (h1.mono hk) hr hg h2 h3 h4 .nil (passes_call tk fun _ _ _ _ h => h) ha hd he hpl
/-- a walk over what is one or the other -/
theorem pi_or {X : Cx} {tg e : Expr} {w1 w2 : TI} (h1 : PI X tg e w1) (h2 : PI X tg e w2) : PI X tg e (fun σ H R => w1 σ H R ∨ w2 σ H R) := ⟨fun pins s σ H R I h => h.elim (h1.run pins s σ H R I) (h2.run pins s σ H R I)⟩
theorem ei_orL {K : PySem.W.Frag} {B O : Hp} {G : List SD} {w1 w2 : TI} {es : List PyData} (h : EvI K B O G w1 es) : EvI K B O G (fun σ H R => w1 σ H R ∨ w2 σ H R) es := fun B1 O1 σ H e o s R r => .inl (h B1 O1 σ H e o s R r)
theorem ei_orR {K : PySem.W.Frag} {B O : Hp} {G : List SD} {w1 w2 : TI} {es : List PyData} (h : EvI K B O G w2 es) : EvI K B O G (fun σ H R => w1 σ H R ∨ w2 σ H R) es := fun B1 O1 σ H e o s R r => .inr (h B1 O1 σ H e o s R r)
end DL

set_option Elab.async false
set_option linter.all false
set_option maxRecDepth 100000
set_option maxHeartbeats 2000000
/-! Calls of defs out of a dict of the module; unpacking into names; errors whose field is data; pop; truth of a list. -/
namespace DL
open PySem PySem.Spec PyProof.Rows L2 StX
section
variable {X : Cx} {K : PySem.W.Frag} {w : World} {x : Str} {pos p : Pos} {i : Nat}
theorem pe_gi {n : Int} (hg : Gl X x) (h : ∃ t, X.mg x = some (.int n t)) (hd : (x == ("__debug__" : Str)) = false := by decide) : PE X (.Name x pos) (tC (.int n)) := by
  obtain ⟨t, ht⟩ := h
  exact pe_glob (v := .int n) hg ht ⟨t, rfl⟩ hd
/-- a def that stands at f, told when it is called -/
def tCallH (P : Program) (w : World) (K : PySem.W.Frag) (mg : Str → Option Value) (base : Heap) (k i : Nat) (t : TA) : TE := fun σ H Q => ∃ f sp, σ[i]? = some (some (.ref f)) ∧ Held P w K mg base k f sp ∧ t σ H fun vs H1 => sp vs H1 Q (fun _ _ _ => False)
theorem pe_callH {k : Nat} {e : Expr} {es : List Expr} {t : TA} (hr : Room k X.A) (hN : X.N[i]? = some x) (hv : Vis X.env.scope x) (ha : PA X (e :: es) t)
    (hdb : (x == ("__debug__" : Str)) = false := by decide) (hcd : (x == ("__classdict__" : Str)) = false := by decide)
    (he : starEach (e :: es) X.env = (false, eval e X.env) :: starEach es X.env := by rfl) (hpl : (backTo pos (starEach es X.env)).any (·.1) = false := by rfl) : PE X (.Call (.Name x p) (e :: es) [] pos) (tCallH X.prog X.w X.K X.mg X.base k i t) := by
  refine ⟨fun pins s σ H Q I h => ?_⟩
  obtain ⟨f, sp, hs, hS, ht⟩ := h
  obtain ⟨fd, ps, F, hk, hb⟩ := hS.ex
  refine (pe_callL (i := i) (f := f) (sp := sp) (dvs := []) (E := fun _ _ _ => False) F hr hN hv hk hb .nil (fun _ _ _ _ _ _ _ z => z.elim) ha hdb hcd he hpl).run pins s σ H Q I ⟨hs, ?_⟩
  have e0 : (fun (vs : List V) (H1 : Hp) => sp (vs ++ []) H1 Q (fun _ _ _ => False)) = fun vs H1 => sp vs H1 Q (fun _ _ _ => False) := by
    funext vs H1
    rw [List.append_nil]
  show t σ H (fun vs H1 => sp (vs ++ []) H1 Q (fun _ _ _ => False))
  rw [e0]
  exact ht
theorem ix_kdictK (K : PySem.W.Frag) (w : World) (h : X.K = K := by rfl) (h2 : X.w = w := by rfl) : IxR X (rIxD K w) := by
  subst h h2
  exact ix_kdict
def rNotKD (K : PySem.W.Frag) (d : Addr) : R2 := fun x y H Q => ∃ (z : Str) (r : Option Value), x = .str z ∧ y = .ref d ∧ PySem.W.nsIn K d z = some r ∧ Q (.bl (!r.isSome)) H
theorem op_notKD (K : PySem.W.Frag) (w : World) {d : Addr} (D : ∃ es n, KDict K w d es n) (h : X.K = K := by rfl) (h2 : X.w = w := by rfl) : OpR X (compareOp .NotIn) (rNotKD K d) := by
  subst h h2
  obtain ⟨es, n, D⟩ := D
  exact op_notIn_kd D
theorem kd_of {a : Addr} {y : Str} {v : V} (h : KDct K w a y v) : ∃ u, PySem.W.nsIn K a y = some (some u) := by
  obtain ⟨_, _, u, _, _, e, _⟩ := h
  exact ⟨u, e⟩
end
section
variable {K : PySem.W.Frag} {w : World} {B O : Hp} {G : List SD} {σ : L2.St} {H : Hp} {ta tb te : TE} {tz : TS} {D : Ends} {d : PyData} {i : Nat}
/-- word not in FORMS -/
theorem ev_notKD {a : Addr} {y : Str} {v : V} (h1 : EvD K B O G ta (.str y)) (h2 : EvV K B O G tb (.ref a)) (h : KDct K w a y v) : EvD K B O G (tOp (rNotKD K a) ta tb) (.bool false) := fun B1 O1 σ H e o s Q q =>
  h1 B1 O1 σ H e o s _ fun u B2 H2 e2 w2 d2 => h2 B2 O1 σ H2 (e.trans e2) o (s.ex e2 w2) _ fun B3 H3 e3 w3 => by
    obtain ⟨u, hu⟩ := kd_of h
    exact ⟨y, some u, dp_str d2, rfl, hu, q _ B3 H3 (e2.trans e3) w3 (.bl _)⟩
theorem ev_notKDn {a : Addr} {y : Str} (h1 : EvD K B O G ta (.str y)) (h2 : EvV K B O G tb (.ref a)) (h : PySem.W.nsIn K a y = some none) : EvD K B O G (tOp (rNotKD K a) ta tb) (.bool true) := fun B1 O1 σ H e o s Q q =>
  h1 B1 O1 σ H e o s _ fun u B2 H2 e2 w2 d2 => h2 B2 O1 σ H2 (e.trans e2) o (s.ex e2 w2) _ fun B3 H3 e3 w3 => ⟨y, none, dp_str d2, rfl, h, q _ B3 H3 (e2.trans e3) w3 (.bl _)⟩
theorem evV_c {v : V} : EvV K B O G (tC v) v := fun B1 _ _ H _ _ s Q q => q B1 H (Ex.refl _) s.w
/-- LENGTHS[word] -/
theorem ev_ixKD {a : Addr} {y : Str} {v : V} (h1 : EvV K B O G ta (.ref a)) (h2 : EvD K B O G tb (.str y)) (h : KDct K w a y v) (hd : ∀ B', Dt K B' v d) : EvD K B O G (tOp (rIxD K w) ta tb) d := fun B1 O1 σ H e o s Q q =>
  h1 B1 O1 σ H e o s _ fun B2 H2 e2 w2 => h2 B2 O1 σ H2 (e.trans e2) o (s.ex e2 w2) _ fun u B3 H3 e3 w3 d3 => ⟨a, y, v, rfl, dp_str d3, h, q v B3 H3 (e2.trans e3) w3 (hd _)⟩
theorem evV_ixKD {a : Addr} {y : Str} {v : V} (h1 : EvV K B O G ta (.ref a)) (h2 : EvD K B O G tb (.str y)) (h : KDct K w a y v) : EvV K B O G (tOp (rIxD K w) ta tb) v := fun B1 O1 σ H e o s Q q =>
  h1 B1 O1 σ H e o s _ fun B2 H2 e2 w2 => h2 B2 O1 σ H2 (e.trans e2) o (s.ex e2 w2) _ fun u B3 H3 e3 w3 d3 => ⟨a, y, v, rfl, dp_str d3, h, q B3 H3 (e2.trans e3) w3⟩
/-- x = e, e just this value -/
theorem q_asgV {v : V} (s : Sta K B O G σ H) (h : EvV K B O G te v) (k : ∀ B' H', Ex B B' → Sta K B' O (G.set i (.val v)) (σ.set i (some v)) H' → tz D (σ.set i (some v)) H') : tSeq (tAsg te (gName i)) tz D σ H :=
  h B O σ H (Ex.refl _) (Ex.refl _) s _ fun B' H' e w => k B' H' e ((s.ex e w).setV i)
/-- form(x), form a def out of such a dict: data in, data out -/
theorem ev_callH {P : Program} {mg : Str → Option Value} {base : Heap} {k : Nat} {t : TA} {ds : List PyData} {f : Addr} {R : List PyData → PyData → Prop} (hg : G[i]? = some (.val (.ref f))) (hf : Held P w K mg base k f (SpR K R)) (h : EvA K B O G t ds) (hr : R ds d) : EvD K B O G (tCallH P w K mg base k i t) d := fun B1 O1 σ H e o s Q q => by
  obtain ⟨sv, h1, h2⟩ := s.s.get hg
  have h3 : sv = some (.ref f) := h2
  subst h3
  exact ⟨f, _, h1, hf, h B1 O1 σ H e o s _ fun vs B2 H2 e2 w2 d2 => ⟨B2, O1, ds, d, w2, d2, hr, fun v B3 H3 e3 w3 d3 => q v B3 H3 (e2.trans e3) w3 d3⟩⟩
/-! unpacking -/
def gNames : List Nat → TGs
  | [] => gNil
  | j :: js => gCons (gName j) (gNames js)
def setAll : List SD → List Nat → List PyData → List SD
  | G, j :: js, d :: ds => setAll (G.set j (.dat d)) js ds
  | G, _, _ => G
theorem names_ok {Q : L2.St → Hp → Prop} : ∀ {js : List Nat} {vs : List V} {ds : List PyData} {G : List SD} {σ : L2.St}, DtAll K B vs ds → js.length = ds.length → Sta K B O G σ H → (∀ σ', Sta K B O (setAll G js ds) σ' H → Q σ' H) → gNames js vs σ H Q
  | [], vs, [], G, σ, h, _, s, q => by
    cases h
    exact ⟨rfl, q σ s⟩
  | j :: js, vs, d :: ds, G, σ, h, hl, s, q => by
    cases h with
    | cons h1 h2 => exact ⟨_, _, rfl, names_ok h2 (by simpa using hl) (s.set j h1) q⟩
  | [], _, _ :: _, _, _, _, hl, _, _ => by simp at hl
  | _ :: _, _, [], _, _, _, hl, _, _ => by simp at hl
theorem q_unpack {js : List Nat} {ds : List PyData} (s : Sta K B O G σ H) (h : EvD K B O G te (.tuple ds)) (hl : js.length = ds.length) (k : ∀ σ' B' H', Ex B B' → Sta K B' O (setAll G js ds) σ' H' → tz D σ' H') : tSeq (tAsg te (gTup K js.length (gNames js))) tz D σ H :=
  h B O σ H (Ex.refl _) (Ex.refl _) s _ fun v B' H' e w dv => by
    obtain ⟨p, xs, rfl, h1, h2⟩ := dp_tup dv
    exact ⟨p, xs, rfl, st_ex w.b h1, (dps_len h2).trans hl.symm, names_ok h2 hl (s.ex e w) fun σ' s' => k σ' B' H' e s'⟩
/-! pop of an owned list, its truth -/
theorem ev_popP {l : Addr} {vs : List V} {y : V} {Q : VK} (s : Sta K B O G σ H) (hg : G[i]? = some (.val (.ref l))) (ho : O l = some (.lst (vs ++ [y]))) (k : W B (upd O l (.lst vs)) (upd H l (.lst vs)) → Q y (upd H l (.lst vs))) : tBM0 K "list" rPop (tVar i) σ H Q := by
  obtain ⟨sv, h1, h2⟩ := s.s.get hg
  have h3 : sv = some (.ref l) := h2
  subst h3
  refine ⟨_, h1, .inl ⟨rfl, _, SqL.of (s.w.o _ _ ho)⟩, l, vs ++ [y], y, rfl, rfl, s.w.o _ _ ho, by simp, ?_⟩
  rw [List.dropLast_concat]
  exact k (s.w.mut ho)
theorem et_listO {l : Addr} {vs : List V} {b : Bool} (hg : G[i]? = some (.val (.ref l))) (ho : O l = some (.lst vs)) (hb : (!vs.isEmpty) = b) : EvT K B O G (fun σ H Q => tVar i σ H fun x H' => ∃ k, TruV K x H' k ∧ Q k H') b := fun B1 O1 σ H e o s Q q => by
  obtain ⟨sv, h1, h2⟩ := s.s.get hg
  have h3 : sv = some (.ref l) := h2
  subst h3
  exact ⟨_, h1, b, .inl ⟨vs, SqL.of (s.w.o _ _ (o _ _ ho)), hb.symm⟩, q B1 H (Ex.refl _) s.w⟩
/-! an error whose field is data -/
theorem s_raiseD {C : Addr} {f : Str} {Wx : WX} (s : Sta K B O G σ H) (h : EvD K B O G te d) (k : ∀ p v B' H', Ex B B' → W B' O H' → B' p = some (.xd [(f, v)]) → Dt K B' v d → Wx (.ref C) (some p) σ H') : tRaise C f Wx te D σ H :=
  h B O σ H (Ex.refl _) (Ex.refl _) s _ fun v B' H' e w dv => ⟨by simp, fun a ha => ⟨a, v, rfl, upd_same, fun dx hdx hne => by
    have hdx' : H' dx = none := by rw [upd_ne hne] at hdx; exact hdx
    refine ⟨rfl, dx, [(f, v)], upd_same, by rw [upd_ne hne, upd_same], hdx', ?_⟩
    rw [init_end ha hne]
    have ex : Ex B' (upd B' dx (.xd [(f, v)])) := Ex.new (w.fb hdx')
    exact k dx v (upd B' dx (.xd [(f, v)])) _ (e.trans ex) (w.newB hdx') upd_same (dp_ex ex _ _ dv)⟩⟩
end
/-- how a def may end: data, or an error of the class at C whose field is data -/
inductive OutD where
  | ret (d : PyData)
  | exc (C : Addr) (f : Str) (d : PyData)
def OutDOk (K : PySem.W.Frag) (B O : Hp) (Q : VK) (E : XK) : OutD → Prop
  | .ret d => ∀ v B' H', Ex B B' → W B' O H' → Dt K B' v d → Q v H'
  | .exc C f d => ∀ p v B' H', Ex B B' → W B' O H' → B' p = some (.xd [(f, v)]) → Dt K B' v d → E (.ref C) (some p) H'
theorem OutDOk.imp {K : PySem.W.Frag} {B B1 O : Hp} {Q : VK} {E : XK} {o : OutD} (h : OutDOk K B O Q E o) (e : Ex B B1) : OutDOk K B1 O Q E o := by
  cases o with
  | ret d => exact fun v B' H' e' => h v B' H' (e.trans e')
  | exc C f x => exact fun p v B' H' e' => h p v B' H' (e.trans e')
def SpD (K : PySem.W.Frag) (R : List PyData → OutD → Prop) : Sp := fun vs H Q E => ∃ B O ds o, W B O H ∧ DtAll K B vs ds ∧ R ds o ∧ OutDOk K B O Q E o
section
variable {K : PySem.W.Frag} {B O : Hp} {G : List SD} {σ : L2.St} {H : Hp} {D : Ends} {R : List PyData → OutD → Prop} {ds : List PyData} {t : TA} {E : XK} {tz : TS}
theorem q_callD {o : OutD} (s : Sta K B O G σ H) (h : EvA K B O G t ds) (hr : R ds o) (k1 : ∀ d, o = .ret d → ∀ B' H', Ex B B' → Sta K B' O G σ H' → tz D σ H') (k2 : ∀ C f d, o = .exc C f d → ∀ p v B' H', Ex B B' → W B' O H' → B' p = some (.xd [(f, v)]) → Dt K B' v d → E (.ref C) (some p) H') :
    tSeq (tDrop (tCall (SpD K R) [] E t)) tz D σ H :=
  h B O σ H (Ex.refl _) (Ex.refl _) s _ fun vs B' H' e w dvs => by
    refine ⟨B', O, ds, o, w, by rw [List.append_nil]; exact dvs, hr, ?_⟩
    cases o with
    | ret d => exact fun v B2 H2 e2 w2 d2 => k1 d rfl B2 H2 (e.trans e2) ⟨w2, s.s.ex (e.trans e2)⟩
    | exc C f x => exact fun p v B2 H2 e2 w2 h2 d2 => k2 C f x rfl p v B2 H2 (e.trans e2) w2 h2 d2
end
section
variable {P : Program} {w : World} {K : PySem.W.Frag} {mg : Str → Option Value} {base : Heap}
theorem ok_fnOutD {x qual : Str} {st : Stmt} {f : Addr} {fd : FuncData} {N ps : List Str} {k : Nat} {R : List PyData → OutD → Prop} (F : Fun K x qual st f fd) (S : FnScope N ps (defScope st)) (hl : ∀ ds d, R ds d → ds.length = ps.length)
    (hb : ∀ (cdv : Value) (A : Around) (outer : List Env) (s : Shared) (H0 : Hp) (E : XK), Room k (A.deeper (envOfC qual (defScope st) s.heap.objs.size f cdv)) → ∀ ds o, R ds o →
      ∃ t, PSs (cxOf (L2.CX P w) P w K mg base N qual (defScope st) f cdv A outer s H0 E) (defBody st) t ∧
        ∀ B O σ H (Q : VK), Sta K B O (gOf ds (N.length - ps.length)) σ H → OutDOk K B O Q E o → t { nx := fun _ H' => Q .non H', rt := Q } σ H) :
    FnOk P w K mg base (L2.CX P w) (k + 1) f fd ps (SpD K R) := by
  refine F.okX S (fun vs H Q E h => ?_) (fun cdv A outer s H vs Q E hr h => ?_)
  · obtain ⟨B, O, ds, d, _, h2, h3, _⟩ := h
    rw [dps_len h2]
    exact hl ds d h3
  · obtain ⟨B, O, ds, d, h1, h2, h3, k⟩ := h
    obtain ⟨t, ht, hq⟩ := hb cdv A outer s H E hr ds d h3
    refine ⟨t, ht, hq B O _ H Q ⟨h1, ?_⟩ k⟩
    have e := slots_start h2 (N.length - ps.length)
    have hl' : vs.length = ps.length := by rw [dps_len h2]; exact hl ds d h3
    unfold L2.start
    rw [hl']
    exact e
end
end DL

set_option Elab.async false
set_option linter.all false
set_option maxRecDepth 100000
set_option maxHeartbeats 2000000
/-! Defs of data with defaults. -/
namespace DL
open PySem PySem.Spec PyProof.Rows L2 StX
/-- a def with defaults that stands at its name -/
structure AtD (K : PySem.W.Frag) (mg : Str → Option Value) (x : Str) (st : Stmt) (ps : List Str) (dvs : List V) (f : Addr) (fd : FuncData) : Prop where
  fn : FunD K x x (defArgs st) (defBody st) (defScope st) dvs [] f fd
  mg : mg x = some (.ref f)
  b0 : Binds K fd ps []
  b1 : ∃ ds, Vals dvs ds ∧ Binds K fd ps ds
section
variable {P : Program} {w : World} {K : PySem.W.Frag} {mg : Str → Option Value} {base : Heap}
/-- a def that stands at its name, its last parameters with defaults, and its promise -/
structure CalD (P : Program) (w : World) (K : PySem.W.Frag) (mg : Str → Option Value) (base : Heap) (k : Nat) (x : Str) (ps : List Str) (dvs : List V) (sp : Sp) : Prop where
  ex : ∃ f fd ds, FnOk P w K mg base CX0 k f fd ps sp ∧ mg x = some (.ref f) ∧ PySem.W.keepIn K (.ref f) = true ∧ Binds K fd ps [] ∧ Vals dvs ds ∧ Binds K fd ps ds
theorem AtD.cal {x : Str} {st : Stmt} {ps : List Str} {dvs : List V} {f : Addr} {fd : FuncData} {k : Nat} {sp : Sp} (a : AtD K mg x st ps dvs f fd) (h : FnOk P w K mg base CX0 k f fd ps sp) : CalD P w K mg base k x ps dvs sp := by
  obtain ⟨ds, h1, h2⟩ := a.b1
  exact ⟨f, fd, ds, h, a.mg, a.fn.kp, a.b0, h1, h2⟩
theorem CalD.cal {x : Str} {ps : List Str} {dvs : List V} {k : Nat} {sp : Sp} (c : CalD P w K mg base k x ps dvs sp) : Cal P w K mg base k x ps sp := by
  obtain ⟨f, fd, ds, h, m, kp, b0, _, _⟩ := c.ex
  exact ⟨f, fd, h, m, kp, b0⟩
theorem ok_fnD {x : Str} {st : Stmt} {f : Addr} {fd : FuncData} {N ps : List Str} {dvs : List V} {k : Nat} {R : List PyData → PyData → Prop} (F : FunD K x x (defArgs st) (defBody st) (defScope st) dvs [] f fd) (S : FnScope N ps (defScope st)) (hl : ∀ ds d, R ds d → ds.length = ps.length)
    (hb : ∀ (cdv : Value) (A : Around) (outer : List Env) (s : Shared) (H0 : Hp) (E : XK), Room k (A.deeper (envOfC x (defScope st) s.heap.objs.size f cdv)) → ∀ ds d, R ds d →
      ∃ t, PSs (cxOf CX0 P w K mg base N x (defScope st) f cdv A outer s H0 E).nox (defBody st) t ∧
        ∀ B O σ H (Q : VK), Sta K B O (gOf ds (N.length - ps.length)) σ H → (∀ v B' H', Ex B B' → W B' O H' → Dt K B' v d → Q v H') → t { nx := fun _ H' => Q .non H', rt := Q } σ H) :
    FnOk P w K mg base CX0 (k + 1) f fd ps (SpR K R) := by
  refine F.ok S (fun vs H Q E h => ?_) (fun cdv A outer s H vs Q E hr h => ?_)
  · obtain ⟨B, O, ds, d, _, h2, h3, _⟩ := h
    rw [dps_len h2]
    exact hl ds d h3
  · obtain ⟨B, O, ds, d, h1, h2, h3, k⟩ := h
    obtain ⟨t, ht, hq⟩ := hb cdv A outer s H E hr ds d h3
    refine ⟨t, ht.nox, hq B O _ H Q ⟨h1, ?_⟩ k⟩
    have e := slots_start h2 (N.length - ps.length)
    have hl' : vs.length = ps.length := by rw [dps_len h2]; exact hl ds d h3
    unfold L2.start
    rw [hl']
    exact e
end
theorem pe_calD {X : Cx} {x : Str} {ps : List Str} {dvs : List V} {sp : Sp} {k j : Nat} {p pos : Pos} {e : Expr} {es : List Expr} {t : TA} (C : CalD X.prog X.w X.K X.mg X.base k x ps dvs sp) (hr : Room j X.A) (hk : k ≤ j) (hg : Gl X x) (ha : PA X (e :: es) t) (hd : (x == ("__debug__" : Str)) = false := by decide)
    (he : starEach (e :: es) X.env = (false, eval e X.env) :: starEach es X.env := by rfl) (hpl : (backTo pos (starEach es X.env)).any (·.1) = false := by rfl) :
    PE X (.Call (.Name x p) (e :: es) [] pos) (tCall sp dvs E0 t) := by
  obtain ⟨f, fd, ds, h1, h2, h3, _, h4, h5⟩ := C.ex
  exact pe_call (h1.mono hk) hr hg h2 h3 h5 h4 pass0 ha hd he hpl
theorem ev_callD {K : PySem.W.Frag} {B O : Hp} {G : List SD} {R : List PyData → PyData → Prop} {ds es : List PyData} {dvs : List V} {d : PyData} {t : TA} {E : XK} (h : EvA K B O G t ds) (hv : ∀ B', DtAll K B' dvs es) (hr : R (ds ++ es) d) : EvD K B O G (tCall (SpR K R) dvs E t) d := fun B1 O1 σ H e o s Q q =>
  h B1 O1 σ H e o s _ fun vs B2 H2 e2 w2 d2 => ⟨B2, O1, ds ++ es, d, w2, dps_app d2 (hv B2), hr, fun v B3 H3 e3 w3 d3 => q v B3 H3 (e2.trans e3) w3 d3⟩
section
variable {K : PySem.W.Frag} {B O : Hp} {G : List SD}
theorem ev_words {a : Addr} {ws : List Str} (t : ∀ H : Hp, SqT K H a (ws.map V.str)) : EvD K B O G (tC (.ref a)) (.tuple (ws.map .str)) := ev_c fun H => .tup (t H) (by
  induction ws with
  | nil => exact .nil
  | cons x ws ih =>
    have key : ∀ l : List Str, DtAll K H (l.map V.str) (l.map PyData.str) := fun l => by
      induction l with
      | nil => exact .nil
      | cons y l ih => exact .cons (.str y) ih
    exact key _)
theorem in_strs {x : Str} {ys : List Str} : inV (.str x) (ys.map V.str) = ys.any (x == ·) := by
  induction ys with
  | nil => rfl
  | cons y ys ih =>
    show (eqV (.str y) (.str x) || inV (.str x) (ys.map V.str)) = _
    rw [ih]
    show (decide (y = x) || _) = ((x == y) || _)
    congr 1
    by_cases h : y = x
    · subst h
      simp
    · rw [decide_eq_false h]
      symm
      exact beq_eq_false_iff_ne.mpr fun e => h e.symm
theorem rd_inW {x : Str} {ws : List Str} : RD K (rIn K false) (.str x) (.tuple (ws.map .str)) (.bool (ws.any (x == ·))) := rd_inT rfl (by
  rw [List.all_map, List.all_eq_true]
  exact fun _ _ => rfl) (by
  have e : (ws.map PyData.str).map fv = ws.map V.str := by
    rw [List.map_map]
    rfl
  rw [if_neg Bool.false_ne_true, e]
  exact in_strs)
def isStrD : PyData → Bool
  | .str _ => true
  | _ => false
theorem kit_str : ∀ (d : PyData), kitB (tyN d) "str" = some (isStrD d)
  | .none => (by decide +kernel : kitB "NoneType" "str" = some false)
  | .bool _ => (by decide +kernel : kitB "bool" "str" = some false)
  | .int _ => (by decide +kernel : kitB "int" "str" = some false)
  | .str _ => (by decide +kernel : kitB "str" "str" = some true)
  | .list _ => (by decide +kernel : kitB "list" "str" = some false)
  | .tuple _ => (by decide +kernel : kitB "tuple" "str" = some false)
  | .dict _ => (by decide +kernel : kitB "dict" "str" = some false)
end
section
variable {K : PySem.W.Frag} {B O : Hp} {G : List SD} {ta tb tc : TE} {x y z : PyData} {r r' : R2}
theorem ev_chain {a b : Bool} (ha : EvD K B O G ta x) (hb : EvD K B O G tb y) (hc : a = true → EvD K B O G tc z) (h1 : RD K r x y (.bool a)) (h2 : a = true → RD K r' y z (.bool b)) : EvD K B O G (tChain r r' ta tb tc) (.bool (a && b)) := fun B1 O1 σ H e o s Q q =>
  ha B1 O1 σ H e o s _ fun v B2 H2 e2 w2 d2 => hb B2 O1 σ H2 (e.trans e2) o (s.ex e2 w2) _ fun u B3 H3 e3 w3 d3 =>
    h1 B3 O1 H3 v u w3 (dp_ex e3 _ _ d2) d3 _ fun zv B4 H4 e4 w4 d4 => ⟨a, dp_bool d4, by
      cases a with
      | false =>
        rw [if_neg Bool.false_ne_true]
        exact q _ B4 H4 ((e2.trans e3).trans e4) w4 (.bl _)
      | true =>
        rw [if_pos rfl]
        exact hc rfl B4 O1 σ H4 (((e.trans e2).trans e3).trans e4) o (s.ex ((e2.trans e3).trans e4) w4) _ fun zz B5 H5 e5 w5 d5 =>
          h2 rfl B5 O1 H5 u zz w5 (dp_ex (e4.trans e5) _ _ d3) d5 Q fun rr B6 H6 e6 w6 d6 => q rr B6 H6 ((((e2.trans e3).trans e4).trans e5).trans e6) w6 d6⟩
end
end DL

set_option Elab.async false
set_option linter.all false
set_option maxRecDepth 100000
set_option maxHeartbeats 4000000
namespace Toy
open PySem PySem.Spec PyProof.Rows L2 StX DL

def topS (i : Nat) : Stmt := PySem.Challenge.pw_withinlimits_k02_parts_and_where_they_ar.main.body.getD i (.Pass ⟨0, 0, 0, 0⟩)
abbrev s_is_integer : Stmt := topS 11
abbrev N_sc_is_integer : List Str := ["value"]
theorem sc_is_integer : FnScope N_sc_is_integer ["value"] (defScope s_is_integer) := ⟨rfl, rfl, rfl, by decide +kernel, rfl, by decide +kernel, by decide +kernel⟩
abbrev s_is_from : Stmt := topS 12
abbrev N_sc_is_from : List Str := ["value", "low", "high"]
theorem sc_is_from : FnScope N_sc_is_from ["value", "low", "high"] (defScope s_is_from) := ⟨rfl, rfl, rfl, by decide +kernel, rfl, by decide +kernel, by decide +kernel⟩
abbrev s_is_from_or_none : Stmt := topS 13
abbrev N_sc_is_from_or_none : List Str := ["value", "low", "high"]
theorem sc_is_from_or_none : FnScope N_sc_is_from_or_none ["value", "low", "high"] (defScope s_is_from_or_none) := ⟨rfl, rfl, rfl, by decide +kernel, rfl, by decide +kernel, by decide +kernel⟩
abbrev s_is_one_of : Stmt := topS 14
abbrev N_sc_is_one_of : List Str := ["value", "words"]
theorem sc_is_one_of : FnScope N_sc_is_one_of ["value", "words"] (defScope s_is_one_of) := ⟨rfl, rfl, rfl, by decide +kernel, rfl, by decide +kernel, by decide +kernel⟩
abbrev s_is_cell : Stmt := topS 32
abbrev N_sc_is_cell : List Str := ["part", "word", "low", "high", "manner"]
theorem sc_is_cell : FnScope N_sc_is_cell ["part"] (defScope s_is_cell) := ⟨rfl, rfl, rfl, by decide +kernel, rfl, by decide +kernel, by decide +kernel⟩
abbrev s_is_row : Stmt := topS 33
abbrev N_sc_is_row : List Str := ["part", "word", "parts"]
theorem sc_is_row : FnScope N_sc_is_row ["part"] (defScope s_is_row) := ⟨rfl, rfl, rfl, by decide +kernel, rfl, by decide +kernel, by decide +kernel⟩
abbrev s_is_choice : Stmt := topS 34
abbrev N_sc_is_choice : List Str := ["part", "word", "manner", "options", "low", "option"]
theorem sc_is_choice : FnScope N_sc_is_choice ["part"] (defScope s_is_choice) := ⟨rfl, rfl, rfl, by decide +kernel, rfl, by decide +kernel, by decide +kernel⟩
abbrev s_is_times : Stmt := topS 35
abbrev N_sc_is_times : List Str := ["part"]
theorem sc_is_times : FnScope N_sc_is_times ["part"] (defScope s_is_times) := ⟨rfl, rfl, rfl, by decide +kernel, rfl, by decide +kernel, by decide +kernel⟩
abbrev s_is_counted : Stmt := topS 36
abbrev N_sc_is_counted : List Str := ["part", "word", "manner", "most", "ahead", "counted"]
theorem sc_is_counted : FnScope N_sc_is_counted ["part"] (defScope s_is_counted) := ⟨rfl, rfl, rfl, by decide +kernel, rfl, by decide +kernel, by decide +kernel⟩
abbrev s_is_within : Stmt := topS 37
abbrev N_sc_is_within : List Str := ["part", "word", "manner", "most", "limit", "rest", "inner"]
theorem sc_is_within : FnScope N_sc_is_within ["part"] (defScope s_is_within) := ⟨rfl, rfl, rfl, by decide +kernel, rfl, by decide +kernel, by decide +kernel⟩
abbrev s_is_holder : Stmt := topS 38
abbrev N_sc_is_holder : List Str := ["part"]
theorem sc_is_holder : FnScope N_sc_is_holder ["part"] (defScope s_is_holder) := ⟨rfl, rfl, rfl, by decide +kernel, rfl, by decide +kernel, by decide +kernel⟩
abbrev s_is_need : Stmt := topS 39
abbrev N_sc_is_need : List Str := ["part"]
theorem sc_is_need : FnScope N_sc_is_need ["part"] (defScope s_is_need) := ⟨rfl, rfl, rfl, by decide +kernel, rfl, by decide +kernel, by decide +kernel⟩
abbrev s_is_pad : Stmt := topS 40
abbrev N_sc_is_pad : List Str := ["part", "word", "many", "manner"]
theorem sc_is_pad : FnScope N_sc_is_pad ["part"] (defScope s_is_pad) := ⟨rfl, rfl, rfl, by decide +kernel, rfl, by decide +kernel, by decide +kernel⟩
abbrev s_has_form : Stmt := topS 43
abbrev N_sc_has_form : List Str := ["thing", "word", "form"]
theorem sc_has_form : FnScope N_sc_has_form ["thing"] (defScope s_has_form) := ⟨rfl, rfl, rfl, by decide +kernel, rfl, by decide +kernel, by decide +kernel⟩
abbrev s_is_barred_from_told : Stmt := topS 44
abbrev N_sc_is_barred_from_told : List Str := ["part"]
theorem sc_is_barred_from_told : FnScope N_sc_is_barred_from_told ["part"] (defScope s_is_barred_from_told) := ⟨rfl, rfl, rfl, by decide +kernel, rfl, by decide +kernel, by decide +kernel⟩
abbrev s_suits_its_part : Stmt := topS 45
abbrev N_sc_suits_its_part : List Str := ["part", "path", "inner"]
theorem sc_suits_its_part : FnScope N_sc_suits_its_part ["part"] (defScope s_suits_its_part) := ⟨rfl, rfl, rfl, by decide +kernel, rfl, by decide +kernel, by decide +kernel⟩
abbrev s_counted_parts : Stmt := topS 46
abbrev N_sc_counted_parts : List Str := ["part", "inner", "one"]
theorem sc_counted_parts : FnScope N_sc_counted_parts ["part"] (defScope s_counted_parts) := ⟨rfl, rfl, rfl, by decide +kernel, rfl, by decide +kernel, by decide +kernel⟩
abbrev s_is_part : Stmt := topS 47
abbrev N_sc_is_part : List Str := ["thing", "waiting", "many", "part", "deep", "inner", "path"]
theorem sc_is_part : FnScope N_sc_is_part ["thing"] (defScope s_is_part) := ⟨rfl, rfl, rfl, by decide +kernel, rfl, by decide +kernel, by decide +kernel⟩
abbrev s_size_of : Stmt := topS 48
abbrev N_sc_size_of : List Str := ["part", "word", "sizes", "inner", "size"]
theorem sc_size_of : FnScope N_sc_size_of ["part"] (defScope s_size_of) := ⟨rfl, rfl, rfl, by decide +kernel, rfl, by decide +kernel, by decide +kernel⟩
abbrev s_parts_of : Stmt := topS 49
abbrev N_sc_parts_of : List Str := ["part", "option"]
theorem sc_parts_of : FnScope N_sc_parts_of ["part"] (defScope s_parts_of) := ⟨rfl, rfl, rfl, by decide +kernel, rfl, by decide +kernel, by decide +kernel⟩
abbrev s_subparts : Stmt := topS 50
abbrev N_sc_subparts : List Str := ["part", "pairs", "index", "inner", "path", "one"]
theorem sc_subparts : FnScope N_sc_subparts ["part"] (defScope s_subparts) := ⟨rfl, rfl, rfl, by decide +kernel, rfl, by decide +kernel, by decide +kernel⟩
abbrev s_first_wrong : Stmt := topS 54
abbrev N_sc_first_wrong : List Str := ["part", "path", "index", "inner", "wrong"]
theorem sc_first_wrong : FnScope N_sc_first_wrong ["part", "path"] (defScope s_first_wrong) := ⟨rfl, rfl, rfl, by decide +kernel, rfl, by decide +kernel, by decide +kernel⟩
abbrev s_check_part : Stmt := topS 55
abbrev N_sc_check_part : List Str := ["part", "wrong"]
theorem sc_check_part : FnScope N_sc_check_part ["part"] (defScope s_check_part) := ⟨rfl, rfl, rfl, by decide +kernel, rfl, by decide +kernel, by decide +kernel⟩
abbrev s_law_pool : Stmt := topS 76
abbrev N_sc_law_pool : List Str := ["script", "k", "cell", "size", "seed"]
theorem sc_law_pool : FnScope N_sc_law_pool ["script", "k"] (defScope s_law_pool) := ⟨rfl, rfl, rfl, by decide +kernel, rfl, by decide +kernel, by decide +kernel⟩
abbrev s_law_draw : Stmt := topS 77
abbrev N_sc_law_draw : List Str := ["pool", "count", "found"]
theorem sc_law_draw : FnScope N_sc_law_draw ["pool", "count"] (defScope s_law_draw) := ⟨rfl, rfl, rfl, by decide +kernel, rfl, by decide +kernel, by decide +kernel⟩
abbrev s_law_children : Stmt := topS 78
abbrev N_sc_law_children : List Str := ["part", "option"]
theorem sc_law_children : FnScope N_sc_law_children ["part"] (defScope s_law_children) := ⟨rfl, rfl, rfl, by decide +kernel, rfl, by decide +kernel, by decide +kernel⟩
abbrev s_law_size : Stmt := topS 79
abbrev N_sc_law_size : List Str := ["part", "sizes", "inner", "size"]
theorem sc_law_size : FnScope N_sc_law_size ["part"] (defScope s_law_size) := ⟨rfl, rfl, rfl, by decide +kernel, rfl, by decide +kernel, by decide +kernel⟩
abbrev s_law_leaf : Stmt := topS 80
abbrev N_sc_law_leaf : List Str := ["pool", "how", "told", "kind", "low"]
theorem sc_law_leaf : FnScope N_sc_law_leaf ["pool", "how", "told"] (defScope s_law_leaf) := ⟨rfl, rfl, rfl, by decide +kernel, rfl, by decide +kernel, by decide +kernel⟩
abbrev s_law_options : Stmt := topS 81
abbrev N_sc_law_options : List Str := ["pool", "room", "depth", "limits", "told", "options", "number"]
theorem sc_law_options : FnScope N_sc_law_options ["pool", "room", "depth", "limits", "told"] (defScope s_law_options) := ⟨rfl, rfl, rfl, by decide +kernel, rfl, by decide +kernel, by decide +kernel⟩
abbrev s_law_counted : Stmt := topS 82
abbrev N_sc_law_counted : List Str := ["pool", "how", "room", "depth", "limits", "told", "most", "ahead", "inner"]
theorem sc_law_counted : FnScope N_sc_law_counted ["pool", "how", "room", "depth", "limits", "told"] (defScope s_law_counted) := ⟨rfl, rfl, rfl, by decide +kernel, rfl, by decide +kernel, by decide +kernel⟩
abbrev s_law_within : Stmt := topS 83
abbrev N_sc_law_within : List Str := ["pool", "how", "room", "depth", "limits", "most", "limit", "rest"]
theorem sc_law_within : FnScope N_sc_law_within ["pool", "how", "room", "depth", "limits"] (defScope s_law_within) := ⟨rfl, rfl, rfl, by decide +kernel, rfl, by decide +kernel, by decide +kernel⟩
abbrev s_law_part : Stmt := topS 84
abbrev N_sc_law_part : List Str := ["pool", "room", "depth", "limits", "told", "how", "kind", "parts", "turn"]
theorem sc_law_part : FnScope N_sc_law_part ["pool", "room", "depth", "limits", "told"] (defScope s_law_part) := ⟨rfl, rfl, rfl, by decide +kernel, rfl, by decide +kernel, by decide +kernel⟩
abbrev s_law_whole : Stmt := topS 85
abbrev N_sc_law_whole : List Str := ["thing", "low", "high"]
theorem sc_law_whole : FnScope N_sc_law_whole ["thing", "low", "high"] (defScope s_law_whole) := ⟨rfl, rfl, rfl, by decide +kernel, rfl, by decide +kernel, by decide +kernel⟩
abbrev s_law_bound : Stmt := topS 86
abbrev N_sc_law_bound : List Str := ["thing", "high"]
theorem sc_law_bound : FnScope N_sc_law_bound ["thing", "high"] (defScope s_law_bound) := ⟨rfl, rfl, rfl, by decide +kernel, rfl, by decide +kernel, by decide +kernel⟩
abbrev s_law_options_good : Stmt := topS 87
abbrev N_sc_law_options_good : List Str := ["thing", "last", "option"]
theorem sc_law_options_good : FnScope N_sc_law_options_good ["thing"] (defScope s_law_options_good) := ⟨rfl, rfl, rfl, by decide +kernel, rfl, by decide +kernel, by decide +kernel⟩
abbrev s_law_form : Stmt := topS 88
abbrev N_sc_law_form : List Str := ["part", "sizes", "hows", "ends", "words"]
theorem sc_law_form : FnScope N_sc_law_form ["part"] (defScope s_law_form) := ⟨rfl, rfl, rfl, by decide +kernel, rfl, by decide +kernel, by decide +kernel⟩
abbrev s_law_asks : Stmt := topS 89
abbrev N_sc_law_asks : List Str := ["part", "inner"]
theorem sc_law_asks : FnScope N_sc_law_asks ["part"] (defScope s_law_asks) := ⟨rfl, rfl, rfl, by decide +kernel, rfl, by decide +kernel, by decide +kernel⟩
abbrev s_law_wrong : Stmt := topS 90
abbrev N_sc_law_wrong : List Str := ["part", "path", "inner", "at", "found"]
theorem sc_law_wrong : FnScope N_sc_law_wrong ["part", "path"] (defScope s_law_wrong) := ⟨rfl, rfl, rfl, by decide +kernel, rfl, by decide +kernel, by decide +kernel⟩
abbrev s_law_many : Stmt := topS 91
abbrev N_sc_law_many : List Str := ["part", "is_unrolled", "found", "inner"]
theorem sc_law_many : FnScope N_sc_law_many ["part", "is_unrolled"] (defScope s_law_many) := ⟨rfl, rfl, rfl, by decide +kernel, rfl, by decide +kernel, by decide +kernel⟩
abbrev s_law_where : Stmt := topS 92
abbrev N_sc_law_where : List Str := ["part", "found"]
theorem sc_law_where : FnScope N_sc_law_where ["part"] (defScope s_law_where) := ⟨rfl, rfl, rfl, by decide +kernel, rfl, by decide +kernel, by decide +kernel⟩
abbrev s_law_changed : Stmt := topS 93
abbrev N_sc_law_changed : List Str := ["part", "path", "other", "inner", "option", "below"]
theorem sc_law_changed : FnScope N_sc_law_changed ["part", "path", "other"] (defScope s_law_changed) := ⟨rfl, rfl, rfl, by decide +kernel, rfl, by decide +kernel, by decide +kernel⟩
abbrev s_law_paths : Stmt := topS 94
abbrev N_sc_law_paths : List Str := ["part", "found", "inner", "at", "path", "below"]
theorem sc_law_paths : FnScope N_sc_law_paths ["part"] (defScope s_law_paths) := ⟨rfl, rfl, rfl, by decide +kernel, rfl, by decide +kernel, by decide +kernel⟩
abbrev s_law_odd : Stmt := topS 95
abbrev N_sc_law_odd : List Str := ["pool", "part", "kind", "turn", "limit", "at", "some"]
theorem sc_law_odd : FnScope N_sc_law_odd ["pool", "part"] (defScope s_law_odd) := ⟨rfl, rfl, rfl, by decide +kernel, rfl, by decide +kernel, by decide +kernel⟩
abbrev s_law_told : Stmt := topS 96
abbrev N_sc_law_told : List Str := ["part", "reader", "e"]
theorem sc_law_told : FnScope N_sc_law_told ["part"] (defScope s_law_told) := ⟨rfl, rfl, rfl, by decide +kernel, rfl, by decide +kernel, by decide +kernel⟩
abbrev s_law : Stmt := topS 97
abbrev N_sc_law : List Str := ["script", "k", "pool", "part", "turn", "where", "due", "places", "path", "below", "thing"]
theorem sc_law : FnScope N_sc_law ["script"] (defScope s_law) := ⟨rfl, rfl, rfl, by decide +kernel, rfl, by decide +kernel, by decide +kernel⟩

/-- where the module's tuples and dicts stand -/
structure Ads where
  man : Addr
  lim : Addr
  rests : Addr
  hold : Addr
  forms : Addr
  lens : Addr
/-- the built-ins that the text calls, and its constants -/
structure Txt (K : PySem.W.Frag) (mg : Str → Option Value) (A : Ads) : Prop where
  b_len : mg "len" = none
  b_list : mg "list" = none
  b_tuple : mg "tuple" = none
  b_int : mg "int" = none
  b_str : mg "str" = none
  b_bool : mg "bool" = none
  b_abs : mg "abs" = none
  b_sum : mg "sum" = none
  b_all : mg "all" = none
  b_any : mg "any" = none
  b_max : mg "max" = none
  b_min : mg "min" = none
  b_range : mg "range" = none
  b_enumerate : mg "enumerate" = none
  b_isinstance : mg "isinstance" = none
  b_zip : mg "zip" = none
  g_MANNERS : mg "MANNERS" = some (.ref A.man)
  g_LIMITS : mg "LIMITS" = some (.ref A.lim)
  g_RESTS : mg "RESTS" = some (.ref A.rests)
  g_HOLDERS : mg "HOLDERS" = some (.ref A.hold)
  g_FORMS : mg "FORMS" = some (.ref A.forms)
  g_LENGTHS : mg "LENGTHS" = some (.ref A.lens)
  t_MANNERS : ∀ H : Hp, SqT K H A.man (PD.MANNERS.map V.str)
  t_LIMITS : ∀ H : Hp, SqT K H A.lim (PD.LIMITS.map V.str)
  t_RESTS : ∀ H : Hp, SqT K H A.rests (PD.RESTS.map V.str)
  t_HOLDERS : ∀ H : Hp, SqT K H A.hold (PD.HOLDERS.map V.str)
  n_MOST_CELL_BOUND : ∃ t, mg "MOST_CELL_BOUND" = some (.int 1000000 t)
  n_MOST_DEEP : ∃ t, mg "MOST_DEEP" = some (.int 8 t)
  n_MOST_PARTS : ∃ t, mg "MOST_PARTS" = some (.int 60 t)
  n_MOST_COUNTED : ∃ t, mg "MOST_COUNTED" = some (.int 1000 t)
end Toy

set_option Elab.async false
set_option linter.all false
set_option maxRecDepth 100000
set_option maxHeartbeats 4000000
namespace Toy
open PySem PySem.Spec PyProof.Rows L2 StX DL
section
variable {P : Program} {w : World} {K : PySem.W.Frag} {mg : Str → Option Value} {base : Heap} {AD : Ads}


def R_isint (ds : List PyData) (d : PyData) : Prop := ∃ x, ds = [x] ∧ d = .bool (PD.isWhole x)
theorem ok_is_integer {f : Addr} {fd : FuncData} (T : Txt K mg AD) (a : At K mg "is_integer" s_is_integer ["value"] f fd) : FnOk P w K mg base CX0 2 f fd ["value"] (SpR K R_isint) := by
  refine ok_fn a.fn sc_is_integer (by rintro ds d ⟨x, rfl, _⟩; rfl) fun cdv A outer s H0 E hr ds d ⟨x, e1, e2⟩ => ?_
  subst e1 e2
  refine ⟨_, (pss_one (ps_ret (pe_and (pe_callB (call_isiK' K) (by rfl) T.b_isinstance (by decide +kernel) (pa_cons (pv 0) (pa_cons (pe_bltn (v := .ty "int") (by rfl) T.b_int (by decide +kernel) rfl) pa_nil))) (pe_one (pe_not (pe_callB (call_isiK' K) (by rfl) T.b_isinstance (by decide +kernel) (pa_cons (pv 0) (pa_cons (pe_bltn (v := .ty "bool") (by rfl) T.b_bool (by decide +kernel) rfl) pa_nil)))))))), fun B O σ H Q st q => ?_⟩
  refine s_ret st (ev_andV (ev_isi (ev_var rfl) (kit_int x)) fun _ => ev_notV (ev_isi (ev_var rfl) (kit_bool x))) fun v B' H' e w d => ?_
  exact q v B' H' e w d
def R_from (ds : List PyData) (d : PyData) : Prop := ∃ x lo hi, ds = [x, .int lo, PD.encO hi] ∧ d = .bool (PD.inFrom x lo hi)
theorem ok_is_from {f : Addr} {fd : FuncData} (T : Txt K mg AD) (C_is_integer : Cal P w K mg base 2 "is_integer" ["value"] (SpR K R_isint)) (a : AtD K mg "is_from" s_is_from ["value", "low", "high"] [.non] f fd) : FnOk P w K mg base CX0 4 f fd ["value", "low", "high"] (SpR K R_from) := by
  refine ok_fnD a.fn sc_is_from (by rintro ds d ⟨x, lo, hi, rfl, _⟩; rfl) fun cdv A outer s H0 E hr ds d ⟨x, lo, hi, e1, e2⟩ => ?_
  subst e1 e2
  refine ⟨_, (pss_one (ps_ret (pe_and (pe_cal C_is_integer hr (by omega) (by rfl) (pa_cons (pv 0) pa_nil)) (pe_and (pe_cmpR op_ge (pv 0) (pv 1) (nomark _)) (pe_one (pe_or (pe_cmpR op_isN (pv 2) pe_non (nomark _)) (pe_one (pe_cmpR op_le (pv 0) (pv 2) (nomark _))))))))), fun B O σ H Q st q => ?_⟩
  cases hw : PD.isWhole x with
  | false =>
    rw [PD.inFrom_not hw] at q
    refine s_ret st (ev_andV (b := true) (ev_is (ev_call (ea_cons (ev_var rfl) ea_nil) ⟨x, rfl, rfl⟩) (congrArg PyData.bool hw)) (fun z => Bool.noConfusion z)) fun v B' H' e w d => ?_
    exact q v B' H' e w d
  | true =>
    obtain ⟨i, rfl⟩ := PD.whole_cases hw
    refine s_ret st (ev_andV (ev_is (ev_call (ea_cons (ev_var rfl) ea_nil) ⟨_, rfl, rfl⟩) (congrArg PyData.bool hw)) fun _ => ev_andV (ev_op (ev_var rfl) (ev_var rfl) rd_B0) fun h2 => ev_orV (a := hi.isNone) (ev_isNone (ev_var rfl) ev_non (by cases hi <;> rfl)) (b := PD.under hi i) fun h3 => ?_) fun v B' H' e w d => ?_
    · cases hi with
      | none => cases h3
      | some h => exact ev_op (ev_var rfl) (ev_var rfl) rd_B0
    · refine q v B' H' e w ?_
      have e3 : PD.inFrom (.int i) lo hi = (true && (decide (lo ≤ i) && (hi.isNone || PD.under hi i))) := by
        cases hi <;> simp [PD.inFrom, PD.under]
      rw [e3]
      exact d
abbrev CalFrom (P : Program) (w : World) (K : PySem.W.Frag) (mg : Str → Option Value) (base : Heap) : Prop := CalD P w K mg base 4 "is_from" ["value", "low", "high"] [.non] (SpR K R_from)
def R_orn (ds : List PyData) (d : PyData) : Prop := ∃ x lo hi, ds = [x, .int lo, PD.encO hi] ∧ d = .bool (PD.orNone x lo hi)
theorem ok_is_from_or_none {f : Addr} {fd : FuncData} (T : Txt K mg AD) (C_is_from : CalFrom P w K mg base) (a : AtD K mg "is_from_or_none" s_is_from_or_none ["value", "low", "high"] [.non] f fd) : FnOk P w K mg base CX0 6 f fd ["value", "low", "high"] (SpR K R_orn) := by
  refine ok_fnD a.fn sc_is_from_or_none (by rintro ds d ⟨x, lo, hi, rfl, _⟩; rfl) fun cdv A outer s H0 E hr ds d ⟨x, lo, hi, e1, e2⟩ => ?_
  subst e1 e2
  refine ⟨_, (pss_one (ps_ret (pe_or (pe_cmpR op_isN (pv 0) pe_non (nomark _)) (pe_one (pe_cal C_is_from.cal hr (by omega) (by rfl) (pa_cons (pv 0) (pa_cons (pv 1) (pa_cons (pv 2) pa_nil)))))))), fun B O σ H Q st q => ?_⟩
  have e : PD.orNone x lo hi = (PD.isNoneD x || PD.inFrom x lo hi) := by cases x <;> rfl
  rw [e] at q
  refine s_ret st (ev_orV (a := PD.isNoneD x) (ev_isNone (ev_var rfl) ev_non (by cases x <;> rfl)) fun _ => ev_call (ea_cons (ev_var rfl) (ea_cons (ev_var rfl) (ea_cons (ev_var rfl) ea_nil))) ⟨x, lo, hi, rfl, rfl⟩) fun v B' H' e w d => ?_
  exact q v B' H' e w d
abbrev CalOrn (P : Program) (w : World) (K : PySem.W.Frag) (mg : Str → Option Value) (base : Heap) : Prop := CalD P w K mg base 6 "is_from_or_none" ["value", "low", "high"] [.non] (SpR K R_orn)
def R_one (ds : List PyData) (d : PyData) : Prop := ∃ x ws, ds = [x, .tuple (ws.map .str)] ∧ d = .bool (PD.oneOf ws x)
theorem ok_is_one_of {f : Addr} {fd : FuncData} (T : Txt K mg AD) (a : At K mg "is_one_of" s_is_one_of ["value", "words"] f fd) : FnOk P w K mg base CX0 2 f fd ["value", "words"] (SpR K R_one) := by
  refine ok_fn a.fn sc_is_one_of (by rintro ds d ⟨x, ws, rfl, _⟩; rfl) fun cdv A outer s H0 E hr ds d ⟨x, ws, e1, e2⟩ => ?_
  subst e1 e2
  refine ⟨_, (pss_one (ps_ret (pe_and (pe_callB (call_isiK' K) (by rfl) T.b_isinstance (by decide +kernel) (pa_cons (pv 0) (pa_cons (pe_bltn (v := .ty "str") (by rfl) T.b_str (by decide +kernel) rfl) pa_nil))) (pe_one (pe_cmpR (op_inK K) (pv 0) (pv 1) (by rfl)))))), fun B O σ H Q st q => ?_⟩
  cases hw : isStrD x with
  | false =>
    have e : PD.oneOf ws x = false := by cases x <;> first | rfl | cases hw
    rw [e] at q
    refine s_ret st (ev_andV (a := false) (b := true) (ev_isi (ev_var rfl) (by rw [← hw]; exact kit_str x)) (fun z => Bool.noConfusion z)) fun v B' H' e w d => ?_
    exact q v B' H' e w d
  | true =>
    obtain ⟨y, rfl⟩ : ∃ y, x = .str y := by cases x <;> first | exact ⟨_, rfl⟩ | cases hw
    refine s_ret st (ev_andV (a := true) (ev_isi (ev_var rfl) (kit_str _)) fun _ => ev_op (ev_var rfl) (ev_var rfl) rd_inW) fun v B' H' e w d => ?_
    exact q v B' H' e w d
end
end Toy

set_option Elab.async false
set_option linter.all false
set_option maxRecDepth 100000
set_option maxHeartbeats 4000000
namespace Toy
open PySem PySem.Spec PyProof.Rows L2 StX DL


def R_fp (p : List PyData → Bool) (n : Nat) (ds : List PyData) (d : PyData) : Prop := ∃ (w : Str) (fs : List PyData), fs.length + 1 = n ∧ ds = [.tuple (.str w :: fs)] ∧ d = .bool (p fs)
abbrev CalInt (P : Program) (w : World) (K : PySem.W.Frag) (mg : Str → Option Value) (base : Heap) : Prop := Cal P w K mg base 2 "is_integer" ["value"] (SpR K R_isint)
abbrev CalOne (P : Program) (w : World) (K : PySem.W.Frag) (mg : Str → Option Value) (base : Heap) : Prop := Cal P w K mg base 2 "is_one_of" ["value", "words"] (SpR K R_one)
theorem R_fp_len {p : List PyData → Bool} {n : Nat} : ∀ ds d, R_fp p n ds d → ds.length = 1 := by
  rintro ds d ⟨w, fs, _, rfl, _⟩
  rfl
section
variable {K : PySem.W.Frag} {B O : Hp} {G : List SD} {ta tb tc : TE} {x : PyData} {lo hi : Int} {E : XK}
theorem ev_from (h1 : EvD K B O G ta x) (h2 : EvD K B O G tb (.int lo)) (h3 : EvD K B O G tc (.int hi)) : EvD K B O G (tCall (SpR K R_from) [] E (tCons ta (tCons tb (tCons tc tNil)))) (.bool (PD.inFrom x lo (some hi))) := ev_call (ea_cons h1 (ea_cons h2 (ea_cons h3 ea_nil))) ⟨x, lo, some hi, rfl, rfl⟩
theorem ev_orn (h1 : EvD K B O G ta x) (h2 : EvD K B O G tb (.int lo)) (h3 : EvD K B O G tc (.int hi)) : EvD K B O G (tCall (SpR K R_orn) [] E (tCons ta (tCons tb (tCons tc tNil)))) (.bool (PD.orNone x lo (some hi))) := ev_call (ea_cons h1 (ea_cons h2 (ea_cons h3 ea_nil))) ⟨x, lo, some hi, rfl, rfl⟩
theorem ev_isTup {b : Bool} (h1 : EvD K B O G ta x) (e : isTupD x = b) : EvD K B O G (tCB (rIsi K) (tCons ta (tCons (tC (.ty "tuple")) tNil))) (.bool b) := ev_isi h1 (by rw [← e]; exact kit_tup x)
theorem ev_one {ws : List Str} (h1 : EvD K B O G ta x) (h2 : EvD K B O G tb (.tuple (ws.map .str))) : EvD K B O G (tCall (SpR K R_one) [] E (tCons ta (tCons tb tNil))) (.bool (PD.oneOf ws x)) := ev_call (ea_cons h1 (ea_cons h2 ea_nil)) ⟨x, ws, rfl, rfl⟩
end
section
variable {P : Program} {w : World} {K : PySem.W.Frag} {mg : Str → Option Value} {base : Heap} {AD : Ads}

theorem ok_is_cell {f : Addr} {fd : FuncData} (T : Txt K mg AD) (C_is_from : CalFrom P w K mg base) (C_is_from_or_none : CalOrn P w K mg base) (C_is_one_of : CalOne P w K mg base) (a : At K mg "is_cell" s_is_cell ["part"] f fd) : FnOk P w K mg base CX0 8 f fd ["part"] (SpR K (R_fp PD.isCell 4)) := by
  refine ok_fn a.fn sc_is_cell R_fp_len fun cdv A outer s H0 E hr ds d ⟨wd, fs, hl, e1, e2⟩ => ?_
  subst e1 e2
  refine ⟨_, (pss_cons (ps_asg (pv 0) (pg_tupK K (n := 4) (by rfl) (pgs_cons (pg_name (i := 1) sc_is_cell.nd rfl (Or.inl rfl)) (pgs_cons (pg_name (i := 2) sc_is_cell.nd rfl (Or.inl rfl)) (pgs_cons (pg_name (i := 3) sc_is_cell.nd rfl (Or.inl rfl)) (pgs_cons (pg_name (i := 4) sc_is_cell.nd rfl (Or.inl rfl)) pgs_nil))))))
    (pss_one (ps_ret (pe_and (pe_cal C_is_from.cal hr (by omega) (by rfl) (pa_cons (pv 2) (pa_cons pe_int (pa_cons (pe_gi (n := 1000000) (by rfl) T.n_MOST_CELL_BOUND) pa_nil)))) (pe_and (pe_cal C_is_from_or_none.cal hr (by omega) (by rfl) (pa_cons (pv 3) (pa_cons (pv 2) (pa_cons (pe_gi (n := 1000000) (by rfl) T.n_MOST_CELL_BOUND) pa_nil)))) (pe_one (pe_cal C_is_one_of hr (by omega) (by rfl) (pa_cons (pv 4) (pa_cons (pe_glob (v := .ref AD.man) (by rfl) T.g_MANNERS rfl) pa_nil))))))))), fun B O σ H Q st q => ?_⟩
  match fs, hl with
  | [lo, hi, m], _ =>
  refine q_unpack (js := [1, 2, 3, 4]) (ds := [.str wd, lo, hi, m]) st (ev_var rfl) rfl fun σ1 B1 H1 x1 st => ?_
  refine s_ret st (ev_andV (ev_from (ev_var rfl) ev_int ev_int) fun hb => ?_) fun v B2 H2 x2 w2 d2 => q v B2 H2 (x1.trans x2) w2 d2
  obtain ⟨z, rfl, _, _⟩ := PD.from_int hb
  exact ev_andV (ev_orn (ev_var rfl) (ev_var rfl) ev_int) fun _ => ev_one (ev_var rfl) (ev_words T.t_MANNERS)
theorem ok_is_row {f : Addr} {fd : FuncData} (T : Txt K mg AD) (a : At K mg "is_row" s_is_row ["part"] f fd) : FnOk P w K mg base CX0 8 f fd ["part"] (SpR K (R_fp PD.isRow 2)) := by
  refine ok_fn a.fn sc_is_row R_fp_len fun cdv A outer s H0 E hr ds d ⟨wd, fs, hl, e1, e2⟩ => ?_
  subst e1 e2
  refine ⟨_, (pss_cons (ps_asg (pv 0) (pg_tupK K (n := 2) (by rfl) (pgs_cons (pg_name (i := 1) sc_is_row.nd rfl (Or.inl rfl)) (pgs_cons (pg_name (i := 2) sc_is_row.nd rfl (Or.inl rfl)) pgs_nil))))
    (pss_one (ps_ret (pe_and (pe_callB (call_isiK' K) (by rfl) T.b_isinstance (by decide +kernel) (pa_cons (pv 2) (pa_cons (pe_bltn (v := .ty "tuple") (by rfl) T.b_tuple (by decide +kernel) rfl) pa_nil))) (pe_one (pe_cmpR op_le (pe_callB (call_lenK K) (by rfl) T.b_len PySem.boot_len (pa_cons (pv 2) pa_nil)) pe_int (nomark _))))))), fun B O σ H Q st q => ?_⟩
  match fs, hl with
  | [x], _ =>
  refine q_unpack (js := [1, 2]) (ds := [.str wd, x]) st (ev_var rfl) rfl fun σ1 B1 H1 x1 st => ?_
  cases ht : isTupD x with
  | false =>
    have e : PD.isRow [x] = false := by cases x <;> first | rfl | cases ht
    rw [e] at q
    refine s_ret st (ev_andV (a := false) (b := true) (ev_isTup (ev_var rfl) ht) (fun z => Bool.noConfusion z)) fun v B2 H2 x2 w2 d2 => q v B2 H2 (x1.trans x2) w2 d2
  | true =>
    obtain ⟨ps, rfl⟩ : ∃ ps, x = .tuple ps := by cases x <;> first | exact ⟨_, rfl⟩ | cases ht
    refine s_ret st (ev_andV (a := true) (ev_isi (ev_var rfl) (kit_tup _)) fun _ => ev_op (ev_cb (ea_cons (ev_var rfl) ea_nil) rc_lenT) ev_int rd_B0) fun v B2 H2 x2 w2 d2 => ?_
    have e : PD.isRow [.tuple ps] = (true && decide ((ps.length : Int) ≤ 12)) := by
      rw [Bool.true_and]
      exact decide_eq_decide.mpr (by omega)
    rw [e] at q
    exact q v B2 H2 (x1.trans x2) w2 d2
theorem ok_is_times {f : Addr} {fd : FuncData} (T : Txt K mg AD) (C_is_from : CalFrom P w K mg base) (a : At K mg "is_times" s_is_times ["part"] f fd) : FnOk P w K mg base CX0 8 f fd ["part"] (SpR K (R_fp PD.isTimes 3)) := by
  refine ok_fn a.fn sc_is_times R_fp_len fun cdv A outer s H0 E hr ds d ⟨wd, fs, hl, e1, e2⟩ => ?_
  subst e1 e2
  refine ⟨_, (pss_one (ps_ret (pe_cal C_is_from.cal hr (by omega) (by rfl) (pa_cons (pe_ix (ix_tupK K) (pv 0) pe_int (fun _ _ => rfl)) (pa_cons pe_int (pa_cons pe_int pa_nil)))))), fun B O σ H Q st q => ?_⟩
  match fs, hl with
  | [n, x], _ =>
  exact s_ret st (ev_from (ev_op (ev_var rfl) ev_int (rd_ixT at1)) ev_int ev_int) fun v B2 H2 x2 w2 d2 => q v B2 H2 x2 w2 d2
theorem ok_is_need {f : Addr} {fd : FuncData} (T : Txt K mg AD) (C_is_from : CalFrom P w K mg base) (a : At K mg "is_need" s_is_need ["part"] f fd) : FnOk P w K mg base CX0 8 f fd ["part"] (SpR K (R_fp PD.isNeed 2)) := by
  refine ok_fn a.fn sc_is_need R_fp_len fun cdv A outer s H0 E hr ds d ⟨wd, fs, hl, e1, e2⟩ => ?_
  subst e1 e2
  refine ⟨_, (pss_one (ps_ret (pe_cal C_is_from.cal hr (by omega) (by rfl) (pa_cons (pe_ix (ix_tupK K) (pv 0) pe_int (fun _ _ => rfl)) (pa_cons pe_int (pa_cons pe_int pa_nil)))))), fun B O σ H Q st q => ?_⟩
  match fs, hl with
  | [n], _ =>
  exact s_ret st (ev_from (ev_op (ev_var rfl) ev_int (rd_ixT at1)) ev_int ev_int) fun v B2 H2 x2 w2 d2 => q v B2 H2 x2 w2 d2
theorem ok_is_holder {f : Addr} {fd : FuncData} (T : Txt K mg AD) (a : At K mg "is_holder" s_is_holder ["part"] f fd) : FnOk P w K mg base CX0 8 f fd ["part"] (SpR K (R_fp PD.isHolder 2)) := by
  refine ok_fn a.fn sc_is_holder R_fp_len fun cdv A outer s H0 E hr ds d ⟨wd, fs, hl, e1, e2⟩ => ?_
  subst e1 e2
  refine ⟨_, (pss_one (ps_ret pe_bl)), fun B O σ H Q st q => ?_⟩
  match fs, hl with
  | [x], _ =>
  exact s_ret st ev_bl fun v B2 H2 x2 w2 d2 => q v B2 H2 x2 w2 d2
theorem ok_is_pad {f : Addr} {fd : FuncData} (T : Txt K mg AD) (C_is_from : CalFrom P w K mg base) (C_is_one_of : CalOne P w K mg base) (a : At K mg "is_pad" s_is_pad ["part"] f fd) : FnOk P w K mg base CX0 8 f fd ["part"] (SpR K (R_fp PD.isPad 3)) := by
  refine ok_fn a.fn sc_is_pad R_fp_len fun cdv A outer s H0 E hr ds d ⟨wd, fs, hl, e1, e2⟩ => ?_
  subst e1 e2
  refine ⟨_, (pss_cons (ps_asg (pv 0) (pg_tupK K (n := 3) (by rfl) (pgs_cons (pg_name (i := 1) sc_is_pad.nd rfl (Or.inl rfl)) (pgs_cons (pg_name (i := 2) sc_is_pad.nd rfl (Or.inl rfl)) (pgs_cons (pg_name (i := 3) sc_is_pad.nd rfl (Or.inl rfl)) pgs_nil)))))
    (pss_one (ps_ret (pe_and (pe_cal C_is_from.cal hr (by omega) (by rfl) (pa_cons (pv 2) (pa_cons pe_int (pa_cons pe_int pa_nil)))) (pe_one (pe_cal C_is_one_of hr (by omega) (by rfl) (pa_cons (pv 3) (pa_cons (pe_glob (v := .ref AD.man) (by rfl) T.g_MANNERS rfl) pa_nil)))))))), fun B O σ H Q st q => ?_⟩
  match fs, hl with
  | [n, m], _ =>
  refine q_unpack (js := [1, 2, 3]) (ds := [.str wd, n, m]) st (ev_var rfl) rfl fun σ1 B1 H1 x1 st => ?_
  exact s_ret st (ev_andV (ev_from (ev_var rfl) ev_int ev_int) fun _ => ev_one (ev_var rfl) (ev_words T.t_MANNERS)) fun v B2 H2 x2 w2 d2 => q v B2 H2 (x1.trans x2) w2 d2
theorem ok_is_counted {f : Addr} {fd : FuncData} (T : Txt K mg AD) (C_is_from_or_none : CalOrn P w K mg base) (C_is_one_of : CalOne P w K mg base) (a : At K mg "is_counted" s_is_counted ["part"] f fd) : FnOk P w K mg base CX0 8 f fd ["part"] (SpR K (R_fp PD.isCounted 5)) := by
  refine ok_fn a.fn sc_is_counted R_fp_len fun cdv A outer s H0 E hr ds d ⟨wd, fs, hl, e1, e2⟩ => ?_
  subst e1 e2
  refine ⟨_, (pss_cons (ps_asg (pv 0) (pg_tupK K (n := 5) (by rfl) (pgs_cons (pg_name (i := 1) sc_is_counted.nd rfl (Or.inl rfl)) (pgs_cons (pg_name (i := 2) sc_is_counted.nd rfl (Or.inl rfl)) (pgs_cons (pg_name (i := 3) sc_is_counted.nd rfl (Or.inl rfl)) (pgs_cons (pg_name (i := 4) sc_is_counted.nd rfl (Or.inl rfl)) (pgs_cons (pg_name (i := 5) sc_is_counted.nd rfl (Or.inl rfl)) pgs_nil)))))))
    (pss_one (ps_ret (pe_and (pe_cal C_is_one_of hr (by omega) (by rfl) (pa_cons (pv 2) (pa_cons (pe_glob (v := .ref AD.man) (by rfl) T.g_MANNERS rfl) pa_nil))) (pe_and (pe_cal C_is_from_or_none.cal hr (by omega) (by rfl) (pa_cons (pv 3) (pa_cons pe_int (pa_cons pe_int pa_nil)))) (pe_one (pe_cal C_is_from_or_none.cal hr (by omega) (by rfl) (pa_cons (pv 4) (pa_cons pe_int (pa_cons pe_int pa_nil)))))))))), fun B O σ H Q st q => ?_⟩
  match fs, hl with
  | [m, mo, ah, x], _ =>
  refine q_unpack (js := [1, 2, 3, 4, 5]) (ds := [.str wd, m, mo, ah, x]) st (ev_var rfl) rfl fun σ1 B1 H1 x1 st => ?_
  exact s_ret st (ev_andV (ev_one (ev_var rfl) (ev_words T.t_MANNERS)) fun _ => ev_andV (ev_orn (ev_var rfl) ev_int ev_int) fun _ => ev_orn (ev_var rfl) ev_int ev_int) fun v B2 H2 x2 w2 d2 => q v B2 H2 (x1.trans x2) w2 d2
theorem ok_is_within {f : Addr} {fd : FuncData} (T : Txt K mg AD) (C_is_from_or_none : CalOrn P w K mg base) (C_is_one_of : CalOne P w K mg base) (a : At K mg "is_within" s_is_within ["part"] f fd) : FnOk P w K mg base CX0 8 f fd ["part"] (SpR K (R_fp PD.isWithin 6)) := by
  refine ok_fn a.fn sc_is_within R_fp_len fun cdv A outer s H0 E hr ds d ⟨wd, fs, hl, e1, e2⟩ => ?_
  subst e1 e2
  refine ⟨_, (pss_cons (ps_asg (pv 0) (pg_tupK K (n := 6) (by rfl) (pgs_cons (pg_name (i := 1) sc_is_within.nd rfl (Or.inl rfl)) (pgs_cons (pg_name (i := 2) sc_is_within.nd rfl (Or.inl rfl)) (pgs_cons (pg_name (i := 3) sc_is_within.nd rfl (Or.inl rfl)) (pgs_cons (pg_name (i := 4) sc_is_within.nd rfl (Or.inl rfl)) (pgs_cons (pg_name (i := 5) sc_is_within.nd rfl (Or.inl rfl)) (pgs_cons (pg_name (i := 6) sc_is_within.nd rfl (Or.inl rfl)) pgs_nil))))))))
    (pss_one (ps_ret (pe_and (pe_cal C_is_one_of hr (by omega) (by rfl) (pa_cons (pv 2) (pa_cons (pe_glob (v := .ref AD.man) (by rfl) T.g_MANNERS rfl) pa_nil))) (pe_and (pe_cal C_is_from_or_none.cal hr (by omega) (by rfl) (pa_cons (pv 3) (pa_cons pe_int (pa_cons pe_int pa_nil)))) (pe_and (pe_cal C_is_one_of hr (by omega) (by rfl) (pa_cons (pv 4) (pa_cons (pe_glob (v := .ref AD.lim) (by rfl) T.g_LIMITS rfl) pa_nil))) (pe_one (pe_cal C_is_one_of hr (by omega) (by rfl) (pa_cons (pv 5) (pa_cons (pe_glob (v := .ref AD.rests) (by rfl) T.g_RESTS rfl) pa_nil)))))))))), fun B O σ H Q st q => ?_⟩
  match fs, hl with
  | [m, mo, l, r, x], _ =>
  refine q_unpack (js := [1, 2, 3, 4, 5, 6]) (ds := [.str wd, m, mo, l, r, x]) st (ev_var rfl) rfl fun σ1 B1 H1 x1 st => ?_
  exact s_ret st (ev_andV (ev_one (ev_var rfl) (ev_words T.t_MANNERS)) fun _ => ev_andV (ev_orn (ev_var rfl) ev_int ev_int) fun _ => ev_andV (ev_one (ev_var rfl) (ev_words T.t_LIMITS)) fun _ => ev_one (ev_var rfl) (ev_words T.t_RESTS)) fun v B2 H2 x2 w2 d2 => q v B2 H2 (x1.trans x2) w2 d2
theorem ok_is_choice {f : Addr} {fd : FuncData} (T : Txt K mg AD) (C_is_from : CalFrom P w K mg base) (C_is_one_of : CalOne P w K mg base) (a : At K mg "is_choice" s_is_choice ["part"] f fd) : FnOk P w K mg base CX0 8 f fd ["part"] (SpR K (R_fp PD.isChoice 3)) := by
  refine ok_fn a.fn sc_is_choice R_fp_len fun cdv A outer s H0 E hr ds d ⟨wd, fs, hl, e1, e2⟩ => ?_
  subst e1 e2
  refine ⟨_, (pss_cons (ps_asg (pv 0) (pg_tupK K (n := 3) (by rfl) (pgs_cons (pg_name (i := 1) sc_is_choice.nd rfl (Or.inl rfl)) (pgs_cons (pg_name (i := 2) sc_is_choice.nd rfl (Or.inl rfl)) (pgs_cons (pg_name (i := 3) sc_is_choice.nd rfl (Or.inl rfl)) pgs_nil)))))
    (pss_cons (ps_if (PW.pt (pw_or (pt_not (pt_val (pe_cal C_is_one_of hr (by omega) (by rfl) (pa_cons (pv 2) (pa_cons (pe_glob (v := .ref AD.man) (by rfl) T.g_MANNERS rfl) pa_nil))))) (pw_or (pt_not (pt_val (pe_callB (call_isiK' K) (by rfl) T.b_isinstance (by decide +kernel) (pa_cons (pv 3) (pa_cons (pe_bltn (v := .ty "tuple") (by rfl) T.b_tuple (by decide +kernel) rfl) pa_nil))))) (pw_or1 (pt_not (pt_chain op_le op_le pe_int (pe_callB (call_lenK K) (by rfl) T.b_len PySem.boot_len (pa_cons (pv 3) pa_nil)) pe_int)))))) (pss_one (ps_ret pe_bl)) pss_nil)
    (pss_cons (ps_set (i := 4) sc_is_choice.nd rfl (Or.inl rfl) pe_int)
    (pss_cons (ps_for PassesOwn.never rfl (pi_tupK K (pv 3)) (pg_name (i := 5) sc_is_choice.nd rfl (Or.inl rfl)) (pss_cons (ps_if (PW.pt (pw_or (pt_not (pt_val (pe_callB (call_isiK' K) (by rfl) T.b_isinstance (by decide +kernel) (pa_cons (pv 5) (pa_cons (pe_bltn (v := .ty "tuple") (by rfl) T.b_tuple (by decide +kernel) rfl) pa_nil))))) (pw_or (pt_cmpR op_ne (pe_callB (call_lenK K) (by rfl) T.b_len PySem.boot_len (pa_cons (pv 5) pa_nil)) pe_int (nomark _)) (pw_or1 (pt_not (pt_val (pe_cal C_is_from.cal hr (by omega) (by rfl) (pa_cons (pe_ix (ix_tupK K) (pv 5) pe_int (fun _ _ => rfl)) (pa_cons (pv 4) (pa_cons pe_int pa_nil)))))))))) (pss_one (ps_ret pe_bl)) pss_nil)
    (pss_one (ps_set (i := 4) sc_is_choice.nd rfl (Or.inl rfl) (pe_op op_add (pe_ix (ix_tupK K) (pv 5) pe_int (fun _ _ => rfl)) pe_int)))))
    (pss_one (ps_ret pe_bl)))))), fun B O σ H Q st q => ?_⟩
  match fs, hl with
  | [m, x], _ =>
  refine q_unpack (js := [1, 2, 3]) (ds := [.str wd, m, x]) st (ev_var rfl) rfl fun σ1 B1 H1 x1 st => ?_
  have no : ∀ {B2 H2 σ2 G2}, PD.isChoice [m, x] = false → Ex B B2 → Sta K B2 O G2 σ2 H2 → tRet (tC (.bl false)) { nx := fun _ H' => Q .non H', rt := Q } σ2 H2 := fun {B2 H2 σ2 G2} e x2 st => by
    rw [e] at q
    exact s_ret st ev_bl fun v B3 H3 x3 w3 d3 => q v B3 H3 (x2.trans x3) w3 d3
  cases hm : PD.oneOf PD.MANNERS m with
  | false =>
    refine q_whenT st (et_is (et_or (b := true) (et_not (et_test (ev_one (ev_var rfl) (ev_words T.t_MANNERS)))) fun z => absurd z (by rw [hm]; exact fun z => Bool.noConfusion z)) (by rw [hm]; rfl)) fun B2 H2 x2 st => ?_
    exact no (by cases x <;> first | rfl | (show (PD.oneOf PD.MANNERS m && _) = false; rw [hm]; rfl)) (x1.trans x2) st
  | true =>
  cases ht : isTupD x with
  | false =>
    refine q_whenT st (et_is (et_or (et_not (et_test (ev_one (ev_var rfl) (ev_words T.t_MANNERS)))) fun _ => et_or (a := true) (b := true) (et_is (et_not (et_test (ev_isTup (ev_var rfl) ht))) rfl) fun z => Bool.noConfusion z) (by rw [hm]; rfl)) fun B2 H2 x2 st => ?_
    exact no (by cases x <;> first | rfl | cases ht) (x1.trans x2) st
  | true =>
  obtain ⟨os, rfl⟩ : ∃ ps, x = .tuple ps := by cases x <;> first | exact ⟨_, rfl⟩ | cases ht
  have hch : PD.isChoice [m, .tuple os] = (decide (1 ≤ os.length ∧ os.length ≤ 6) && PD.optsOk 0 os) := by
    show (PD.oneOf PD.MANNERS m && _) = _
    rw [hm, Bool.true_and]
  refine q_when st (b := !(decide ((1 : Int) ≤ (os.length : Int)) && decide ((os.length : Int) ≤ 6))) (et_is (et_or (a := false) (et_is (et_not (et_test (ev_one (ev_var rfl) (ev_words T.t_MANNERS)))) (by rw [hm]; rfl)) fun _ => et_or (a := false) (et_is (et_not (et_test (ev_isi (ev_var rfl) (kit_tup _)))) rfl) fun _ =>
    et_not (et_test (ev_chain ev_int (ev_cb (ea_cons (ev_var rfl) ea_nil) rc_lenT) (fun _ => ev_int) rd_B0 (fun _ => rd_B0)))) rfl) (fun h2 B2 H2 x2 st => ?_) (fun h2 B2 H2 x2 st => ?_)
  · refine no ?_ (x1.trans x2) st
    rw [hch, decide_eq_false, Bool.false_and]
    rintro ⟨a1, a2⟩
    rw [decide_eq_true (show (1 : Int) ≤ (os.length : Int) by omega), decide_eq_true (show (os.length : Int) ≤ 6 by omega)] at h2
    cases h2
  · have hn : 1 ≤ os.length ∧ os.length ≤ 6 := by
      have h3 : (decide ((1 : Int) ≤ (os.length : Int)) && decide ((os.length : Int) ≤ 6)) = true := by
        cases h4 : (decide ((1 : Int) ≤ (os.length : Int)) && decide ((os.length : Int) ≤ 6)) with
        | true => rfl
        | false => rw [h4] at h2; cases h2
      rw [Bool.and_eq_true, decide_eq_true_eq, decide_eq_true_eq] at h3
      omega
    rw [decide_eq_true hn, Bool.true_and] at hch
    refine q_asg st ev_int fun v3 B3 H3 x3 d3 st => ?_
    refine q_for st (es := os) (ei_tup (ev_var rfl)) (fun i B' O' G' => O' = O ∧ ∃ (lo : Int) (g5 : SD), PD.optsOk 0 os = PD.optsOk lo (os.drop i) ∧ G' = [.dat (.tuple [.str wd, m, .tuple os]), .dat (.str wd), .dat m, .dat (.tuple os), .dat (.int lo), g5]) (fun i B1 B2 O1 G1 e x => x) ⟨rfl, 0, _, rfl, rfl⟩ ?_ ?_
    · rintro i e B4 O4 G4 σ4 H4 v hie x4 ⟨rfl, lo, g5, ho, rfl⟩ st dv N hN
      refine eg_name B4 _ σ4 H4 v st dv _ fun σ5 st _ => ?_
      have hd : os.drop i = e :: os.drop (i + 1) := by
        rw [List.drop_eq_getElem_cons (List.getElem?_eq_some_iff.mp hie).1, (List.getElem?_eq_some_iff.mp hie).2]
      rw [hd] at ho
      have nn : ∀ {B2 H2 σ2 G2}, PD.optsOk lo (e :: os.drop (i + 1)) = false → Ex B B2 → Sta K B2 O4 G2 σ2 H2 → tRet (tC (.bl false)) { nx := N, rt := Q } σ2 H2 := fun {B2 H2 σ2 G2} ef x2 st => by
        rw [hch, ho, ef] at q
        exact s_ret st ev_bl fun v B3 H3 x3 w3 d3 => q v B3 H3 (x2.trans x3) w3 d3
      have xx := (((x1.trans x2).trans x3).trans x4)
      cases he : isTupD e with
      | false =>
        refine q_whenT st (et_or (a := true) (b := true) (et_is (et_not (et_test (ev_isTup (ev_var rfl) he))) rfl) fun z => Bool.noConfusion z) fun B5 H5 x5 st => ?_
        exact nn (by cases e <;> first | rfl | cases he) (xx.trans x5) st
      | true =>
      obtain ⟨ds, rfl⟩ : ∃ ps, e = .tuple ps := by cases e <;> first | exact ⟨_, rfl⟩ | cases he
      by_cases h2 : ds.length = 2
      · obtain ⟨n, p, rfl⟩ : ∃ n p, ds = [n, p] := by
          match ds, h2 with
          | [n, p], _ => exact ⟨n, p, rfl⟩
        refine q_when st (b := !PD.inFrom n lo (some 99)) (et_is (et_or (a := false) (et_is (et_not (et_test (ev_isi (ev_var rfl) (kit_tup _)))) rfl) fun _ => et_or (a := false) (et_test (ev_op (ev_cb (ea_cons (ev_var rfl) ea_nil) rc_lenT) ev_int rd_neInt)) fun _ => et_not (et_test (ev_from (ev_op (ev_var rfl) ev_int (rd_ixT at0)) (ev_var rfl) ev_int))) rfl) (fun h5 B5 H5 x5 st => ?_) (fun h5 B5 H5 x5 st => ?_)
        · refine nn ?_ (xx.trans x5) st
          show (PD.inFrom n lo (some 99) && _) = false
          rw [show PD.inFrom n lo (some 99) = false by simpa using h5]
          rfl
        · have h6 : PD.inFrom n lo (some 99) = true := by simpa using h5
          obtain ⟨z, rfl, _, _⟩ := PD.from_int h6
          refine s_asg st (ev_op (ev_op (ev_var rfl) ev_int (rd_ixT at0)) ev_int rd_I0) fun v6 B6 H6 x6 d6 st => ?_
          refine hN B6 _ _ _ _ (x5.trans x6) ⟨rfl, z + 1, _, ?_, rfl⟩ st
          rw [ho]
          show (PD.inFrom (.int z) lo (some 99) && _) = _
          rw [h6]
          rfl
      · refine q_whenT st (et_is (et_or (a := false) (b := true) (et_is (et_not (et_test (ev_isi (ev_var rfl) (kit_tup _)))) rfl) fun _ => et_is (et_or (a := true) (b := true) (et_is (et_test (ev_op (ev_cb (ea_cons (ev_var rfl) ea_nil) rc_lenT) ev_int rd_neInt)) (by
          have : ¬ (ds.length : Int) = 2 := by omega
          simp [this])) fun z => Bool.noConfusion z) rfl) rfl) fun B5 H5 x5 st => ?_
        refine nn ?_ (xx.trans x5) st
        match ds, h2 with
        | [], _ => rfl
        | [_], _ => rfl
        | _ :: _ :: _ :: _, _ => rfl
        | [_, _], h => exact absurd rfl h
    · rintro B4 O4 G4 σ4 H4 x4 ⟨rfl, lo, g5, ho, rfl⟩ st
      rw [List.drop_length] at ho
      rw [hch, ho] at q
      exact s_ret st ev_bl fun v B5 H5 x5 w5 d5 => q v B5 H5 ((((x1.trans x2).trans x3).trans x4).trans x5) w5 d5
end
end Toy

set_option Elab.async false
set_option linter.all false
set_option maxRecDepth 100000
set_option maxHeartbeats 4000000
namespace Toy
open PySem PySem.Spec PyProof.Rows L2 StX DL


/-- the dicts of the module that tell forms and lengths by words -/
structure Forms (P : Program) (w : World) (K : PySem.W.Frag) (mg : Str → Option Value) (base : Heap) (AD : Ads) : Prop where
  D : ∃ es n, KDict K w AD.forms es n
  yes : ∀ wd n p, PD.formAt wd = some (n, p) → (∃ f, KDct K w AD.forms wd (.ref f) ∧ Held P w K mg base 8 f (SpR K (R_fp p n))) ∧ KDct K w AD.lens wd (.int (n : Int))
  no : ∀ wd, PD.formAt wd = none → PySem.W.nsIn K AD.forms wd = some none
def R_form (ds : List PyData) (d : PyData) : Prop := ∃ x, ds = [x] ∧ d = .bool (PD.hasForm x)
def R_parts (ds es : List PyData) : Prop := ∃ d, PD.hasForm d = true ∧ ds = [d] ∧ es = PD.partsOf d
theorem form_none {wd : Str} {fs : List PyData} (h : PD.formAt wd = none) : PD.hasForm (.tuple (.str wd :: fs)) = false := by
  show (match PD.formAt wd with | some (n, p) => decide (fs.length + 1 = n) && p fs | none => false) = false
  rw [h]
theorem form_some {wd : Str} {fs : List PyData} {n : Nat} {p : List PyData → Bool} (h : PD.formAt wd = some (n, p)) : PD.hasForm (.tuple (.str wd :: fs)) = (decide (fs.length + 1 = n) && p fs) := by
  show (match PD.formAt wd with | some (n, p) => decide (fs.length + 1 = n) && p fs | none => false) = _
  rw [h]
theorem times_of {wd : Str} {fs : List PyData} (h : PD.Form (.tuple (.str wd :: fs))) (e : wd = "times") : ∃ n x, fs = [.int n, x] ∧ 0 ≤ n ∧ n ≤ 6 := by
  subst e
  cases h with
  | times n x h =>
    obtain ⟨z, rfl, h1, h2⟩ := PD.from_int h
    exact ⟨z, x, rfl, h1, of_decide_eq_true h2⟩
theorem counted_of {wd : Str} {fs : List PyData} (h : PD.Form (.tuple (.str wd :: fs))) (e : wd = "counted") : ∃ m mo ah x, fs = [m, mo, ah, x] := by
  subst e
  cases h with
  | counted m mo ah x h => exact ⟨m, mo, ah, x, rfl⟩
theorem within_of {wd : Str} {fs : List PyData} (h : PD.Form (.tuple (.str wd :: fs))) (e : wd = "within") : ∃ m mo l r x, fs = [m, mo, l, r, x] ∧ ∃ y, l = .str y := by
  subst e
  cases h with
  | within m mo l r x h =>
    refine ⟨m, mo, l, r, x, rfl, ?_⟩
    have h' : (PD.oneOf PD.MANNERS m && (PD.orNone mo 0 (some 20) && (PD.oneOf PD.LIMITS l && PD.oneOf PD.RESTS r))) = true := h
    rw [Bool.and_eq_true, Bool.and_eq_true, Bool.and_eq_true] at h'
    have hl := h'.2.2.1
    cases l with
    | str y => exact ⟨y, rfl⟩
    | _ => cases hl
theorem at_last' {xs : List PyData} {x : PyData} {y : PyData} : atI (y :: (xs ++ [x])) (-1) = some x := at_last (xs := y :: xs)
section
variable {P : Program} {w : World} {K : PySem.W.Frag} {mg : Str → Option Value} {base : Heap} {AD : Ads}

theorem ok_has_form {f : Addr} {fd : FuncData} (T : Txt K mg AD) (Fo : Forms P w K mg base AD) (a : At K mg "has_form" s_has_form ["thing"] f fd) : FnOk P w K mg base CX0 10 f fd ["thing"] (SpR K R_form) := by
  refine ok_fn a.fn sc_has_form (by rintro ds d ⟨x, rfl, _⟩; rfl) fun cdv A outer s H0 E hr ds d ⟨x, e1, e2⟩ => ?_
  subst e1 e2
  refine ⟨_, (pss_cons (ps_if (PW.pt (pw_or (pt_not (pt_val (pe_callB (call_isiK' K) (by rfl) T.b_isinstance (by decide +kernel) (pa_cons (pv 0) (pa_cons (pe_bltn (v := .ty "tuple") (by rfl) T.b_tuple (by decide +kernel) rfl) pa_nil))))) (pw_or (pt_cmpR op_eq (pe_callB (call_lenK K) (by rfl) T.b_len PySem.boot_len (pa_cons (pv 0) pa_nil)) pe_int (nomark _)) (pw_or1 (pt_not (pt_val (pe_callB (call_isiK' K) (by rfl) T.b_isinstance (by decide +kernel) (pa_cons (pe_ix (ix_tupK K) (pv 0) pe_int (fun _ _ => rfl)) (pa_cons (pe_bltn (v := .ty "str") (by rfl) T.b_str (by decide +kernel) rfl) pa_nil))))))))) (pss_one (ps_ret pe_bl)) pss_nil)
    (pss_cons (ps_set (i := 1) sc_has_form.nd rfl (Or.inl rfl) (pe_ix (ix_tupK K) (pv 0) pe_int (fun _ _ => rfl)))
    (pss_cons (ps_if (PW.pt (pw_or (pt_cmpR (op_notKD K w Fo.D) (pv 1) (pe_glob (v := .ref AD.forms) (by rfl) T.g_FORMS rfl) (by rfl)) (pw_or1 (pt_cmpR op_ne (pe_callB (call_lenK K) (by rfl) T.b_len PySem.boot_len (pa_cons (pv 0) pa_nil)) (pe_ix (ix_kdictK K w) (pe_glob (v := .ref AD.lens) (by rfl) T.g_LENGTHS rfl) (pv 1) (fun _ _ => rfl)) (nomark _))))) (pss_one (ps_ret pe_bl)) pss_nil)
    (pss_cons (ps_set (i := 2) sc_has_form.nd rfl (Or.inl rfl) (pe_ix (ix_kdictK K w) (pe_glob (v := .ref AD.forms) (by rfl) T.g_FORMS rfl) (pv 1) (fun _ _ => rfl)))
    (pss_one (ps_ret (pe_callH (i := 2) (k := 8) (Room.mono hr (by omega)) rfl (Or.inl rfl) (pa_cons (pv 0) pa_nil)))))))), fun B O σ H Q st q => ?_⟩
  have no : ∀ {B2 H2 σ2 G2}, PD.hasForm x = false → Ex B B2 → Sta K B2 O G2 σ2 H2 → tRet (tC (.bl false)) { nx := fun _ H' => Q .non H', rt := Q } σ2 H2 := fun {B2 H2 σ2 G2} e x2 st => by
    rw [e] at q
    exact s_ret st ev_bl fun v B3 H3 x3 w3 d3 => q v B3 H3 (x2.trans x3) w3 d3
  cases ht : isTupD x with
  | false =>
    refine q_whenT st (et_or (a := true) (b := true) (et_is (et_not (et_test (ev_isTup (ev_var rfl) ht))) rfl) fun z => Bool.noConfusion z) fun B1 H1 x1 st => ?_
    exact no (by cases x <;> first | rfl | cases ht) x1 st
  | true =>
  obtain ⟨ds, rfl⟩ : ∃ ps, x = .tuple ps := by cases x <;> first | exact ⟨_, rfl⟩ | cases ht
  match ds with
  | [] =>
    refine q_whenT st (et_or (a := false) (b := true) (et_is (et_not (et_test (ev_isTup (ev_var rfl) rfl))) rfl) fun _ => et_or (a := true) (b := true) (et_test (ev_op (ev_cb (ea_cons (ev_var rfl) ea_nil) rc_lenT) ev_int rd_eqInt)) fun z => Bool.noConfusion z) fun B1 H1 x1 st => ?_
    exact no rfl x1 st
  | hd :: fs =>
  have hlen : ((((hd :: fs).length : Nat) : Int) == 0) = false := by
    rw [List.length_cons]
    exact beq_eq_false_iff_ne.mpr (by omega)
  cases hs : isStrD hd with
  | false =>
    refine q_whenT st (et_or (a := false) (b := true) (et_is (et_not (et_test (ev_isTup (ev_var rfl) rfl))) rfl) fun _ => et_or (a := false) (b := true) (et_is (et_test (ev_op (ev_cb (ea_cons (ev_var rfl) ea_nil) rc_lenT) ev_int rd_eqInt)) hlen) fun _ => et_is (et_not (et_test (ev_isi (ev_op (ev_var rfl) ev_int (rd_ixT at0)) (by have := kit_str hd; rw [hs] at this; exact this)))) rfl) fun B1 H1 x1 st => ?_
    exact no (by cases hd <;> first | rfl | cases hs) x1 st
  | true =>
  obtain ⟨wd, rfl⟩ : ∃ y, hd = .str y := by cases hd <;> first | exact ⟨_, rfl⟩ | cases hs
  refine q_whenF st (et_is (et_or (a := false) (b := false) (et_is (et_not (et_test (ev_isTup (ev_var rfl) rfl))) rfl) fun _ => et_or (a := false) (b := false) (et_is (et_test (ev_op (ev_cb (ea_cons (ev_var rfl) ea_nil) rc_lenT) ev_int rd_eqInt)) hlen) fun _ => et_is (et_not (et_test (ev_isi (ev_op (ev_var rfl) ev_int (rd_ixT at0)) (kit_str _)))) rfl) rfl) fun B1 H1 x1 st => ?_
  refine q_asg st (ev_op (ev_var rfl) ev_int (rd_ixT at0)) fun v2 B2 H2 x2 d2 st => ?_
  cases hf : PD.formAt wd with
  | none =>
    refine q_whenT st (et_or (a := true) (b := true) (et_test (ev_notKDn (ev_var rfl) evV_c (Fo.no wd hf))) fun z => Bool.noConfusion z) fun B3 H3 x3 st => ?_
    exact no (form_none hf) ((x1.trans x2).trans x3) st
  | some np =>
  obtain ⟨n, p⟩ := np
  obtain ⟨⟨f1, k1, h1⟩, k2⟩ := Fo.yes wd n p hf
  have hh := form_some (fs := fs) hf
  refine q_when st (b := !((((PyData.str wd :: fs).length : Nat) : Int) == (n : Int))) (et_is (et_or (a := false) (et_test (ev_notKD (ev_var rfl) evV_c k1)) fun _ => et_test (ev_op (ev_cb (ea_cons (ev_var rfl) ea_nil) rc_lenT) (ev_ixKD evV_c (ev_var rfl) k2 fun _ => .int _) rd_neInt)) (Bool.false_or _)) (fun h3 B3 H3 x3 st => ?_) (fun h3 B3 H3 x3 st => ?_)
  · refine no ?_ ((x1.trans x2).trans x3) st
    rw [hh, decide_eq_false, Bool.false_and]
    intro e
    rw [show (((PyData.str wd :: fs).length : Nat) : Int) = (n : Int) by rw [List.length_cons]; omega, beq_self_eq_true] at h3
    cases h3
  · have hl : fs.length + 1 = n := by
      have h4 : ((((PyData.str wd :: fs).length : Nat) : Int) == (n : Int)) = true := by
        cases h5 : ((((PyData.str wd :: fs).length : Nat) : Int) == (n : Int)) with
        | true => rfl
        | false => rw [h5] at h3; cases h3
      have h6 := eq_of_beq h4
      rw [List.length_cons] at h6
      omega
    rw [hh, decide_eq_true hl, Bool.true_and] at q
    refine q_asgV st (evV_ixKD evV_c (ev_var rfl) k1) fun B4 H4 x4 st => ?_
    exact s_ret st (ev_callH rfl h1 (ea_cons (ev_var rfl) ea_nil) ⟨wd, fs, hl, rfl, rfl⟩) fun v5 B5 H5 x5 w5 d5 => q v5 B5 H5 ((((x1.trans x2).trans x3).trans x4).trans x5) w5 d5
theorem ok_parts_of {f : Addr} {fd : FuncData} (T : Txt K mg AD) (a : At K mg "parts_of" s_parts_of ["part"] f fd) : FnOk P w K mg base CX0 2 f fd ["part"] (SpL K R_parts) := by
  refine ok_fnL a.fn sc_parts_of (by rintro ds d ⟨t, _, rfl, _⟩; rfl) fun cdv A outer s H0 E hr ds d ⟨t, ht, e1, e2⟩ => ?_
  subst e1 e2
  refine ⟨_, (pss_cons (ps_if (pt_cmpR op_eq (pe_ix (ix_tupK K) (pv 0) pe_int (fun _ _ => rfl)) pe_str (nomark _)) (pss_one (ps_ret (pe_callTy (call_listK K) (by rfl) T.b_list (by decide +kernel) (pa_cons (pe_ix (ix_tupK K) (pv 0) pe_int (fun _ _ => rfl)) pa_nil)))) pss_nil)
    (pss_cons (ps_if (pt_cmpR op_eq (pe_ix (ix_tupK K) (pv 0) pe_int (fun _ _ => rfl)) pe_str (nomark _)) (pss_one (ps_ret (pe_lc (own := [("option", 1)]) (by rfl) sc_parts_of.nd (pi_tupK K (pe_ix (ix_tupK K) (pv 0) pe_int (fun _ _ => rfl))) (blkOk_by (own := [("option", 1)]) (N := N_sc_parts_of) (sc := defScope s_parts_of) (by decide +kernel)) (fun _ _ _ _ _ => (pg_name (i := 1) sc_parts_of.nd rfl (Or.inl rfl))) (fun _ _ _ _ _ => pts_nil) (fun _ _ _ _ _ => (pe_ix (ix_tupK K) (pv 1) pe_int (fun _ _ => rfl)))))) pss_nil)
    (pss_cons (ps_if (pt_cmpR (op_inK K) (pe_ix (ix_tupK K) (pv 0) pe_int (fun _ _ => rfl)) (pe_glob (v := .ref AD.hold) (by rfl) T.g_HOLDERS rfl) (by rfl)) (pss_one (ps_ret (pe_lst (pa_cons (pe_ix (ix_tupK K) (pv 0) (pe_un un_neg pe_int) (fun _ _ => rfl)) pa_nil)))) pss_nil)
    (pss_one (ps_ret (pe_lst pa_nil)))))), fun B O σ H Q st q => ?_⟩
  have ho := PD.form_of ht
  obtain ⟨wd, fs, rfl⟩ := ho.head
  refine q_when st (et_test (ev_op (ev_op (ev_var rfl) ev_int (rd_ixT at0)) ev_str rd_eqStr)) (fun h1 B1 H1 x1 st => ?_) (fun h1 B1 H1 x1 st => ?_)
  · have ew := eq_of_beq h1
    obtain ⟨ps, rfl, hl⟩ := ho.row_of h1
    subst ew
    refine s_retL st (el_listT (ev_op (ev_var rfl) ev_int (rd_ixT at1))) fun p ws B2 H2 x2 n2 w2 d2 => ?_
    rw [PD.parts_row] at q
    exact q p ws B2 H2 (x1.trans x2) n2 w2 d2
  refine q_when st (et_test (ev_op (ev_op (ev_var rfl) ev_int (rd_ixT at0)) ev_str rd_eqStr)) (fun h2 B2 H2 x2 st => ?_) (fun h2 B2 H2 x2 st => ?_)
  · have ew := eq_of_beq h2
    obtain ⟨m, os, rfl, hc⟩ := ho.choice_of h2
    subst ew
    have ops := PD.choice_opts hc
    rw [PD.parts_choice] at q
    refine s_retL st (el_map os id PD.second (fun o => [.dat (.tuple [.str "choice", m, .tuple os]), .dat o]) (by rw [List.map_id]; exact ei_tup (ev_op (ev_var rfl) ev_int (rd_ixT at2))) (by have := ops.2.2.1; omega)
      (fun o _ => eg_nameW (by decide)) (fun o h3 => ?_)) fun p ws B3 H3 x3 n3 w3 d3 => q p ws B3 H3 ((x1.trans x2).trans x3) n3 w3 d3
    obtain ⟨n, p, rfl⟩ := PD.opts_at ops.2.2.2 o h3
    exact ev_op (ev_var rfl) ev_int (rd_ixT at1)
  refine q_when st (et_test (ev_op (ev_op (ev_var rfl) ev_int (rd_ixT at0)) (ev_words T.t_HOLDERS) rd_inW)) (fun h3 B3 H3 x3 st => ?_) (fun h3 B3 H3 x3 st => ?_)
  · obtain ⟨gs, x, rfl, hp, hl⟩ := ho.one_of h3
    rw [hp] at q
    refine s_retL st (el_lst (ea_cons (ev_op (ev_var rfl) (ev_un ev_int) (rd_ixT at_last')) ea_nil) (by simp)) fun pp ws B4 H4 x4 n4 w4 d4 => q pp ws B4 H4 (((x1.trans x2).trans x3).trans x4) n4 w4 d4
  · have h1' : wd ≠ "row" := fun e => by subst e; exact absurd h1 (by decide)
    have h2' : wd ≠ "choice" := fun e => by subst e; exact absurd h2 (by decide)
    rw [PD.parts_none h3 h1' h2'] at q
    refine s_retL st (el_lst ea_nil (by simp)) fun pp ws B4 H4 x4 n4 w4 d4 => q pp ws B4 H4 (((x1.trans x2).trans x3).trans x4) n4 w4 d4
end
end Toy

set_option Elab.async false
set_option linter.all false
set_option maxRecDepth 100000
set_option maxHeartbeats 4000000
namespace Toy
open PySem PySem.Spec PyProof.Rows L2 StX DL


def R_size (h : Nat) (ds : List PyData) (d : PyData) : Prop := ∃ t, PD.okB h t = true ∧ ds = [t] ∧ d = PD.encN (PD.sizeD h t)
def R_subs (h : Nat) (ds es : List PyData) : Prop := ∃ t, PD.okB h t = true ∧ PD.npart h t ≤ 50000 ∧ ds = [t] ∧ es = (PD.subsD h t).map PD.encQ
def R_cnt (h : Nat) (ds : List PyData) (d : PyData) : Prop := ∃ t, PD.okB h t = true ∧ ds = [t] ∧ d = .int (PD.counted h t)
def R_barred (ds : List PyData) (d : PyData) : Prop := ∃ t, PD.hasForm t = true ∧ ds = [t] ∧ d = .bool (PD.barred t)
def R_suits (h : Nat) (ds : List PyData) (d : PyData) : Prop := ∃ t, PD.okB (h + 1) t = true ∧ PD.npart (h + 1) t ≤ 50000 ∧ ds = [t] ∧ d = .bool (PD.suits h t)
theorem in_none {ss : List (Option Int)} : inV .non ((ss.map PD.encN).map fv) = decide (none ∈ ss) := by
  induction ss with
  | nil => rfl
  | cons s ss ih =>
    show (eqV (fv (PD.encN s)) .non || inV .non ((ss.map PD.encN).map fv)) = _
    rw [ih]
    cases s with
    | none => simp [PD.encN, fv, eqV]
    | some n => simp [PD.encN, fv, eqV]
theorem flat_encN {ss : List (Option Int)} : (ss.map PD.encN).all flatD = true := by
  rw [List.all_map, List.all_eq_true]
  intro s _
  cases s <;> rfl
theorem ints_of {ss : List (Option Int)} (h : ¬ none ∈ ss) : ss.map PD.encN = (ss.map fun s => s.getD 0).map PyData.int := by
  rw [List.map_map]
  refine List.map_congr_left fun s hs => ?_
  cases s with
  | none => exact absurd hs h
  | some n => rfl
theorem head_some {ss : List (Option Int)} (h : ¬ none ∈ ss) (hl : 0 < ss.length) : ∃ n r, ss = some n :: r := by
  cases ss with
  | nil => simp at hl
  | cons s r =>
    cases s with
    | none => simp at h
    | some n => exact ⟨n, r, rfl⟩
theorem subs_path : ∀ {h : Nat} {t : PyData} {p : List Int} {c : PyData}, (p, c) ∈ PD.subsD h t → p.length ≤ h
  | 0, t, p, c, m => by
    have m' : (p, c) ∈ [(([] : List Int), t)] := m
    simp at m'
    simp [m'.1]
  | h + 1, t, p, c, m => by
    have m' : (p, c) ∈ PD.subsTo (PD.subsD h) t (PD.partsOf t).length := m
    unfold PD.subsTo at m'
    rw [List.mem_cons, List.mem_flatMap] at m'
    rcases m' with m' | ⟨i, _, m'⟩
    · cases m'
      simp
    · unfold PD.subsAt at m'
      cases hk : (PD.partsOf t)[i]? with
      | none => rw [hk] at m'; cases m'
      | some k =>
        rw [hk] at m'
        obtain ⟨q, hq, e⟩ := List.mem_map.mp m'
        cases e
        have := subs_path hq
        simp
        omega
theorem subs_ok : ∀ {h : Nat} {t : PyData} {p : List Int} {c : PyData}, PD.okB h t = true → (p, c) ∈ PD.subsD h t → PD.hasForm c = true
  | 0, t, p, c, o, m => by cases o
  | h + 1, t, p, c, o, m => by
    have m' : (p, c) ∈ PD.subsTo (PD.subsD h) t (PD.partsOf t).length := m
    unfold PD.subsTo at m'
    rw [List.mem_cons, List.mem_flatMap] at m'
    rcases m' with m' | ⟨i, _, m'⟩
    · cases m'
      exact (PD.ok_succ o).1
    · unfold PD.subsAt at m'
      cases hk : (PD.partsOf t)[i]? with
      | none => rw [hk] at m'; cases m'
      | some k =>
        rw [hk] at m'
        obtain ⟨q, hq, e⟩ := List.mem_map.mp m'
        cases e
        exact subs_ok ((PD.ok_succ o).2 k (List.mem_of_getElem? hk)) hq
theorem choice_kids {wd : Str} {fs : List PyData} (h : PD.Form (.tuple (.str wd :: fs))) (e : wd = "choice") : 0 < (PD.partsOf (.tuple (.str wd :: fs))).length := by
  obtain ⟨m, os, rfl, hc⟩ := h.choice_of (by rw [e]; decide)
  subst e
  rw [PD.parts_choice, List.length_map]
  have := (PD.choice_opts hc).2.1
  omega
theorem times_kids {n x : PyData} : PD.partsOf (.tuple [.str "times", n, x]) = [x] := PD.parts_one (fs := [n, x]) (by decide)
section
variable {P : Program} {w : World} {K : PySem.W.Frag} {mg : Str → Option Value} {base : Heap} {AD : Ads}

theorem ok_size_of {f fp : Addr} {fd fdp : FuncData} (T : Txt K mg AD) (a : At K mg "size_of" s_size_of ["part"] f fd) (ap : At K mg "parts_of" s_parts_of ["part"] fp fdp) : ∀ h, FnOk P w K mg base CX0 (h + 3) f fd ["part"] (SpR K (R_size h))
  | 0 => SpR_false fun ds d ⟨t, o, _⟩ => Bool.noConfusion o
  | h + 1 => by
    have C_parts_of := ap.cal (ok_parts_of (P := P) (w := w) (base := base) T ap)
    have C_size_of := a.cal (ok_size_of T a ap h)
    refine ok_fn a.fn sc_size_of (by rintro ds d ⟨t, _, rfl, _⟩; rfl) fun cdv A outer s H0 E hr ds d ⟨t, ho, e1, e2⟩ => ?_
    subst e1
    refine ⟨_, (pss_cons (ps_set (i := 1) sc_size_of.nd rfl (Or.inl rfl) (pe_ix (ix_tupK K) (pv 0) pe_int (fun _ _ => rfl)))
    (pss_cons (ps_if (pt_cmpR op_eq (pv 1) pe_str (nomark _)) (pss_one (ps_ret pe_int)) pss_nil)
    (pss_cons (ps_if (pt_cmpR op_eq (pv 1) pe_str (nomark _)) (pss_one (ps_ret pe_int)) pss_nil)
    (pss_cons (ps_if (pt_cmpR (op_notInK K) (pv 1) (pe_tup (pa_cons pe_str (pa_cons pe_str (pa_cons pe_str pa_nil)))) (by rfl)) (pss_one (ps_ret pe_non)) pss_nil)
    (pss_cons (ps_set (i := 2) sc_size_of.nd rfl (Or.inr rfl) (pe_lc (own := [("inner", 3)]) (by rfl) sc_size_of.nd (pi_listK K (pe_cal C_parts_of hr (by omega) (by rfl) (pa_cons (pv 0) pa_nil))) (blkOk_by (own := [("inner", 3)]) (N := N_sc_size_of) (sc := defScope s_size_of) (by decide +kernel)) (fun _ _ _ _ _ => (pg_name (i := 3) sc_size_of.nd rfl (Or.inl rfl))) (fun _ _ _ _ _ => pts_nil) (fun _ _ _ _ _ => (pe_cal C_size_of hr (by omega) (by rfl) (pa_cons (pv 3) pa_nil)))))
    (pss_cons (ps_if (pt_cmpR (op_inK K) pe_non (pv 2) (by rfl)) (pss_one (ps_ret pe_non)) pss_nil)
    (pss_cons (ps_if (pt_cmpR op_eq (pv 1) pe_str (nomark _)) (pss_one (ps_ret (pe_callB (cr_sumK K rfl) (by rfl) T.b_sum (by decide +kernel) (pa_cons (pv 2) pa_nil)))) pss_nil)
    (pss_cons (ps_if (pt_cmpR op_eq (pv 1) pe_str (nomark _)) (pss_one (ps_ret (pe_op op_mul (pe_ix (ix_tupK K) (pv 0) pe_int (fun _ _ => rfl)) (pe_ix (ix_listK K) (pv 2) pe_int (fun _ _ => rfl))))) pss_nil)
    (pss_one (ps_ret (pe_ifExp (pt_val (pe_callB (cr_allK K rfl) (by rfl) T.b_all (by decide +kernel) (pa_cons (pe_lc (own := [("size", 4)]) (by rfl) sc_size_of.nd (pi_listK K (pv 2)) (blkOk_by (own := [("size", 4)]) (N := N_sc_size_of) (sc := defScope s_size_of) (by decide +kernel)) (fun _ _ _ _ _ => (pg_name (i := 4) sc_size_of.nd rfl (Or.inl rfl))) (fun _ _ _ _ _ => pts_nil) (fun _ _ _ _ _ => (pe_cmpR op_eq (pv 4) (pe_ix (ix_listK K) (pv 2) pe_int (fun _ _ => rfl)) (nomark _)))) pa_nil))) (pe_op op_add pe_int (pe_ix (ix_listK K) (pv 2) pe_int (fun _ _ => rfl))) pe_non))))))))))), fun B O σ H Q st q => ?_⟩
    obtain ⟨hf, hkids⟩ := PD.ok_succ ho
    have fm := PD.form_of hf
    obtain ⟨wd, fs, rfl⟩ := fm.head
    have es : PD.sizeD (h + 1) (.tuple (.str wd :: fs)) = PD.sizeK (.tuple (.str wd :: fs)) ((PD.partsOf (.tuple (.str wd :: fs))).map (PD.sizeD h)) := rfl
    have hw : PD.wordOf (.tuple (.str wd :: fs)) = wd := rfl
    refine q_asg st (ev_op (ev_var rfl) ev_int (rd_ixT at0)) fun v0 B0 H0 x0 d0 st => ?_
    refine q_when st (et_test (ev_op (ev_var rfl) ev_str rd_eqStr)) (fun h1 B1 H1 x1 st => ?_) (fun h1 B1 H1 x1 st => ?_)
    · refine s_ret st ev_int fun v B2 H2 x2 w2 d2 => ?_
      rw [e2, es, PD.sizeK, hw, if_pos (eq_of_beq h1)] at q
      exact q v B2 H2 ((x0.trans x1).trans x2) w2 d2
    refine q_when st (et_test (ev_op (ev_var rfl) ev_str rd_eqStr)) (fun h2 B2 H2 x2 st => ?_) (fun h2 B2 H2 x2 st => ?_)
    · refine s_ret st ev_int fun v B3 H3 x3 w3 d3 => ?_
      rw [e2, es, PD.sizeK, hw, if_neg (by simpa using h1), if_pos (eq_of_beq h2)] at q
      exact q v B3 H3 (((x0.trans x1).trans x2).trans x3) w3 d3
    rw [es, PD.sizeK, hw, if_neg (by simpa using h1), if_neg (by simpa using h2)] at e2
    refine q_when st (et_test (ev_op (ev_var rfl) (ev_tup (ea_cons ev_str (ea_cons ev_str (ea_cons ev_str ea_nil))) (by decide)) (rd_inT rfl rfl rfl))) (fun h3 B3 H3 x3 st => ?_) (fun h3 B3 H3 x3 st => ?_)
    · have h3' : ¬ (wd = "row" ∨ wd = "choice" ∨ wd = "times") := by
        have z : (!inV (.str wd) (([("row" : Str), "choice", "times"]).map V.str)) = true := h3
        rw [in_strs] at z
        simpa using z
      rw [if_neg h3'] at e2
      subst e2
      refine s_ret st ev_non fun v B4 H4 x4 w4 d4 => ?_
      exact q v B4 H4 ((((x0.trans x1).trans x2).trans x3).trans x4) w4 d4
    have h3' : wd = "row" ∨ wd = "choice" ∨ wd = "times" := by
      have z : (!inV (.str wd) (([("row" : Str), "choice", "times"]).map V.str)) = false := h3
      rw [in_strs] at z
      simp at z
      exact Decidable.or_iff_not_imp_left.mpr fun u1 => Decidable.or_iff_not_imp_left.mpr fun u2 => z u1 u2
    rw [if_pos h3'] at e2
    have hk := fm.kids
    refine q_asg st (d := .list (((PD.partsOf (.tuple (.str wd :: fs))).map (PD.sizeD h)).map PD.encN)) ?_ fun v4 B4 H4 x4 d4 st => ?_
    · rw [List.map_map]
      exact ev_map (PD.partsOf (.tuple (.str wd :: fs))) id (PD.encN ∘ PD.sizeD h) (fun c => [.dat (.tuple (.str wd :: fs)), .dat (.str wd), .un, .dat c, .un]) (ei_list (by rw [List.map_id]; exact (el_call (ea_cons (ev_var rfl) ea_nil) ⟨_, hf, rfl, rfl⟩).d)) (by omega) (fun c _ => eg_nameW (by decide))
        (fun c hc => ev_call (ea_cons (ev_var rfl) ea_nil) ⟨c, hkids c hc, rfl, rfl⟩)
    generalize hss : (PD.partsOf (.tuple (.str wd :: fs))).map (PD.sizeD h) = ss at e2 st d4
    refine q_when st (et_test (ev_op ev_non (ev_var rfl) (rd_inL rfl flat_encN in_none))) (fun h4 B5 H5 x5 st => ?_) (fun h4 B5 H5 x5 st => ?_)
    · rw [if_pos (of_decide_eq_true h4)] at e2
      subst e2
      refine s_ret st ev_non fun v B6 H6 x6 w6 d6 => ?_
      exact q v B6 H6 ((((((x0.trans x1).trans x2).trans x3).trans x4).trans x5).trans x6) w6 d6
    have hnn := of_decide_eq_false h4
    rw [if_neg hnn] at e2
    refine q_when st (et_test (ev_op (ev_var rfl) ev_str rd_eqStr)) (fun h5 B6 H6 x6 st => ?_) (fun h5 B6 H6 x6 st => ?_)
    · rw [if_pos (eq_of_beq h5)] at e2
      subst e2
      refine s_ret st (ev_cb (ea_cons (ev_is (ev_var rfl) (congrArg PyData.list (ints_of hnn))) ea_nil) rc_sum) fun v B7 H7 x7 w7 d7 => ?_
      exact q v B7 H7 (((((((x0.trans x1).trans x2).trans x3).trans x4).trans x5).trans x6).trans x7) w7 d7
    rw [if_neg (by simpa using h5)] at e2
    refine q_when st (et_test (ev_op (ev_var rfl) ev_str rd_eqStr)) (fun h6 B7 H7 x7 st => ?_) (fun h6 B7 H7 x7 st => ?_)
    · have hw2 : wd = "times" := eq_of_beq h6
      rw [if_pos hw2] at e2
      obtain ⟨n, x, rfl, hn0, hn6⟩ := times_of fm hw2
      subst hw2
      rw [times_kids] at hss
      obtain ⟨z, r, rfl⟩ := head_some hnn (by rw [← hss]; simp)
      subst e2
      refine s_ret st (ev_op (ev_op (ev_var rfl) ev_int (rd_ixT at1)) (ev_op (ev_var rfl) ev_int (rd_ixL at0)) (rd_I (.inl ⟨by omega, by omega⟩))) fun v B8 H8 x8 w8 d8 => ?_
      exact q v B8 H8 ((((((((x0.trans x1).trans x2).trans x3).trans x4).trans x5).trans x6).trans x7).trans x8) w8 d8
    · rw [if_neg (by simpa using h6)] at e2
      have hw2 : wd = "choice" := by
        rcases h3' with e | e | e
        · exact absurd e (by simpa using h5)
        · exact e
        · exact absurd e (by simpa using h6)
      have h0 := choice_kids fm hw2
      obtain ⟨z, r, rfl⟩ := head_some hnn (by rw [← hss, List.length_map]; exact h0)
      have e2' : d = PD.encN (if ∀ s ∈ (some z :: r), s = some z then some (1 + z) else none) := e2
      have hb : ((some z :: r).map fun s => decide (s = some z)).all id = decide (∀ s ∈ (some z :: r), s = some z) := by
        rw [Bool.eq_iff_iff]
        simp
      have hlen : (some z :: r).length ≤ 12 := by rw [← hss, List.length_map]; exact hk
      refine s_ret (d := d) st (ev_if (b := decide (∀ s ∈ (some z :: r), s = some z)) (et_B ?_) (fun _ => ?_) (fun _ => ?_)) fun v B8 H8 x8 w8 d8 => ?_
      · rw [← hb]
        refine ev_cb (ea_cons ?_ ea_nil) rc_all
        rw [List.map_map]
        refine ev_map (some z :: r) PD.encN (fun s => .bool (decide (s = some z))) (fun s => [.dat (.tuple (.str wd :: fs)), .dat (.str (wd)), .dat (.list ((some z :: r).map PD.encN)), .un, .dat (PD.encN s)]) (ei_list (ev_var rfl)) (by omega) (fun s _ => eg_nameW (by decide)) (fun s hs => ?_)
        refine ev_op (ev_var rfl) (ev_op (ev_var rfl) ev_int (rd_ixL at0)) ?_
        cases s with
        | none => exact absurd hs hnn
        | some y => exact rd_eqS rfl rfl rfl (show decide (V.int y = V.int z) = decide (some y = some z) from decide_eq_decide.mpr (by simp))
      · rename_i hall
        rw [if_pos (of_decide_eq_true hall)] at e2'
        subst e2'
        exact ev_op ev_int (ev_op (ev_var rfl) ev_int (rd_ixL at0)) rd_I0
      · rename_i hall
        rw [if_neg (of_decide_eq_false hall)] at e2'
        subst e2'
        exact ev_non
      · exact q v B8 H8 ((((((((x0.trans x1).trans x2).trans x3).trans x4).trans x5).trans x6).trans x7).trans x8) w8 d8

theorem ok_subparts {f fp : Addr} {fd fdp : FuncData} (T : Txt K mg AD) (a : At K mg "subparts" s_subparts ["part"] f fd) (ap : At K mg "parts_of" s_parts_of ["part"] fp fdp) : ∀ h, h ≤ 20 → FnOk P w K mg base CX0 (h + 3) f fd ["part"] (SpL K (R_subs h))
  | 0, _ => SpL_false fun ds d ⟨t, o, _⟩ => Bool.noConfusion o
  | h + 1, hh => by
    have C_parts_of := ap.cal (ok_parts_of (P := P) (w := w) (base := base) T ap)
    have C_subparts := a.cal (ok_subparts T a ap h (by omega))
    refine ok_fnL a.fn sc_subparts (by rintro ds d ⟨t, _, _, rfl, _⟩; rfl) fun cdv A outer s H0 E hr ds es ⟨t, ho, hcnt, e1, e2⟩ => ?_
    subst e1 e2
    refine ⟨_, (pss_cons (ps_set (i := 1) sc_subparts.nd rfl (Or.inl rfl) (pe_lst (pa_cons (pe_tup (pa_cons (pe_tup pa_nil) (pa_cons (pv 0) pa_nil))) pa_nil)))
    (pss_cons (ps_for PassesOwn.never rfl (pi_enumK K (by rfl) T.b_enumerate (pa_cons (pe_cal C_parts_of hr (by omega) (by rfl) (pa_cons (pv 0) pa_nil)) pa_nil)) (pg_tupK K (n := 2) (by rfl) (pgs_cons (pg_name (i := 2) sc_subparts.nd rfl (Or.inr rfl)) (pgs_cons (pg_name (i := 3) sc_subparts.nd rfl (Or.inl rfl)) pgs_nil))) (pss_one (ps_expr (pe_bm PySem.F.plainAttrs_list PySem.F.slot_list_extend PySem.F.type_list_extend mt_extend (pv 1) (pa_cons (pe_lc (own := [("path", 4), ("one", 5)]) (by rfl) sc_subparts.nd (pi_listK K (pe_cal C_subparts hr (by omega) (by rfl) (pa_cons (pv 3) pa_nil))) (blkOk_by (own := [("path", 4), ("one", 5)]) (N := N_sc_subparts) (sc := defScope s_subparts) (by decide +kernel)) (fun _ _ _ _ _ => (pg_tupK K (n := 2) (by rfl) (pgs_cons (pg_name (i := 4) sc_subparts.nd rfl (Or.inl rfl)) (pgs_cons (pg_name (i := 5) sc_subparts.nd rfl (Or.inl rfl)) pgs_nil)))) (fun _ _ _ _ _ => pts_nil) (fun _ _ _ _ _ => (pe_tup (pa_cons (pe_tup (pa_cons (pv 2) (pa_starK K (pv 4) pa_nil))) (pa_cons (pv 5) pa_nil))))) pa_nil)))))
    (pss_one (ps_ret (pv 1))))), fun B O σ H Q st q => ?_⟩
    obtain ⟨hf, hkids⟩ := PD.ok_succ ho
    have hk := (PD.form_of hf).kids
    have hall : (PD.subsTo (PD.subsD h) t (PD.partsOf t).length).length ≤ 50000 := by rw [show PD.subsTo (PD.subsD h) t (PD.partsOf t).length = PD.subsD (h + 1) t from rfl, PD.subs_len]; exact hcnt
    have hS : ∀ c, c ∈ PD.partsOf t → (PD.subsD h c).length ≤ 50000 := fun c hc => by rw [PD.subs_len]; have := PD.npart_kid (h := h) hc; omega
    refine q_asgL st (el_lst (ea_cons (ev_tup (ea_cons (ev_tup ea_nil (by simp)) (ea_cons (ev_var rfl) ea_nil)) (by simp)) ea_nil) (by simp)) fun l vs B1 H1 x1 nl dv st => ?_
    refine q_for st (ei_enum (ea_cons (el_call (ea_cons (ev_var rfl) ea_nil) ⟨t, hf, rfl, rfl⟩).d ea_nil))
      (fun i B' O' G' => ∃ vs, O' = upd O l (.lst vs) ∧ DtAll K B' vs ((PD.subsTo (PD.subsD h) t i).map PD.encQ) ∧ ∃ g2 g3, G' = [.dat t, .val (.ref l), g2, g3, .un, .un])
      (fun i B1 B2 O1 G1 e ⟨vs, e1, e2, e3⟩ => ⟨vs, e1, dps_ex e _ _ e2, e3⟩) ⟨vs, rfl, dv, _, _, rfl⟩ ?_ ?_
    · rintro i e B2 O2 G2 σ2 H2 v hie x2 ⟨vs2, rfl, dv2, g2, g3, rfl⟩ st dv N hN
      obtain ⟨c, hc, rfl⟩ := enum_inv hie
      have hcm : c ∈ PD.partsOf t := List.mem_of_getElem? hc
      have hi : i < (PD.partsOf t).length := (List.getElem?_eq_some_iff.mp hc).1
      refine eg_pair B2 _ σ2 H2 v st dv _ fun σ3 st _ => ?_
      have hl1 := PD.subsTo_le (S := PD.subsD h) (d := t) (n := i) (by omega)
      have hl3 := hS c hcm
      have hl4 := dps_len dv2
      rw [List.length_map] at hl4
      refine q_extend st rfl upd_same (by rw [List.length_map]; omega) (ev_map (PD.subsD h c) PD.encQ (fun q => PD.encQ ((i : Int) :: q.1, q.2)) (fun q => [.dat t, .val (.ref l), .dat (.int i), .dat c, .dat (PD.encP q.1), .dat q.2])
        (ei_list (el_call (ea_cons (ev_var rfl) ea_nil) ⟨c, hkids c hcm, by have := PD.npart_kid (h := h) hcm; omega, rfl, rfl⟩).d) (by omega) (fun q _ => eg_pairW (by decide) (by decide)) (fun q hq => ?_)) fun ws B3 H3 x3 dw st => ?_
      · exact ev_tup (ea_cons (ev_is (ev_tup (ea_cons (ev_var rfl) (ea_star (es := q.1.map .int) (ev_var rfl) ea_nil)) (by
          have := subs_path (p := q.1) (c := q.2) hq
          simp
          omega)) (by rw [List.append_nil]; rfl)) (ea_cons (ev_var rfl) ea_nil)) (by simp)
      · rw [upd_upd] at st
        refine hN B3 _ _ _ _ x3 ⟨_, rfl, ?_, _, _, rfl⟩ st
        rw [PD.subsTo_succ hc, List.map_append]
        refine dps_app (dps_ex x3 _ _ dv2) ?_
        rw [List.map_map]
        exact dw
    · rintro B2 O2 G2 σ2 H2 x2 ⟨vs2, rfl, dv2, g2, g3, rfl⟩ st
      rw [enumD_len] at dv2
      exact s_retOL st rfl rfl fun w2 => q l vs2 B2 H2 (x1.trans x2) nl w2 dv2
theorem ok_counted_parts {f fp : Addr} {fd fdp : FuncData} (T : Txt K mg AD) (a : At K mg "counted_parts" s_counted_parts ["part"] f fd) (ap : At K mg "parts_of" s_parts_of ["part"] fp fdp) : ∀ h, FnOk P w K mg base CX0 (h + 3) f fd ["part"] (SpR K (R_cnt h))
  | 0 => SpR_false fun ds d ⟨t, o, _⟩ => Bool.noConfusion o
  | h + 1 => by
    have C_parts_of := ap.cal (ok_parts_of (P := P) (w := w) (base := base) T ap)
    have C_counted_parts := a.cal (ok_counted_parts T a ap h)
    refine ok_fn a.fn sc_counted_parts (by rintro ds d ⟨t, _, rfl, _⟩; rfl) fun cdv A outer s H0 E hr ds d ⟨t, ho, e1, e2⟩ => ?_
    subst e1
    refine ⟨_, (pss_cons (ps_set (i := 1) sc_counted_parts.nd rfl (Or.inl rfl) (pe_callB (cr_sumK K rfl) (by rfl) T.b_sum (by decide +kernel) (pa_cons (pe_lc (own := [("one", 2)]) (by rfl) sc_counted_parts.nd (pi_listK K (pe_cal C_parts_of hr (by omega) (by rfl) (pa_cons (pv 0) pa_nil))) (blkOk_by (own := [("one", 2)]) (N := N_sc_counted_parts) (sc := defScope s_counted_parts) (by decide +kernel)) (fun _ _ _ _ _ => (pg_name (i := 2) sc_counted_parts.nd rfl (Or.inl rfl))) (fun _ _ _ _ _ => pts_nil) (fun _ _ _ _ _ => (pe_cal C_counted_parts hr (by omega) (by rfl) (pa_cons (pv 2) pa_nil)))) pa_nil)))
    (pss_cons (ps_if (pt_cmpR op_eq (pe_ix (ix_tupK K) (pv 0) pe_int (fun _ _ => rfl)) pe_str (nomark _)) (pss_one (ps_ret (pe_op op_add pe_int (pe_op op_mul (pe_ix (ix_tupK K) (pv 0) pe_int (fun _ _ => rfl)) (pv 1))))) pss_nil)
    (pss_one (ps_ret (pe_op op_add pe_int (pv 1)))))), fun B O σ H Q st q => ?_⟩
    obtain ⟨hf, hkids⟩ := PD.ok_succ ho
    have fm := PD.form_of hf
    obtain ⟨wd, fs, rfl⟩ := fm.head
    have hk := fm.kids
    have es : PD.counted (h + 1) (.tuple (.str wd :: fs)) = if wd = "times" then 1 + PD.numOf (.tuple (.str wd :: fs)) * ((PD.partsOf (.tuple (.str wd :: fs))).map (PD.counted h)).sum else 1 + ((PD.partsOf (.tuple (.str wd :: fs))).map (PD.counted h)).sum := rfl
    rw [es] at e2
    refine q_asg st (d := .int ((PD.partsOf (.tuple (.str wd :: fs))).map (PD.counted h)).sum) ?_ fun v1 B1 H1 x1 d1 st => ?_
    · refine ev_cb (ea_cons (ev_is (ev_map (PD.partsOf (.tuple (.str wd :: fs))) id (fun c => .int (PD.counted h c)) (fun c => [.dat (.tuple (.str wd :: fs)), .un, .dat c]) (ei_list (by rw [List.map_id]; exact (el_call (ea_cons (ev_var rfl) ea_nil) ⟨_, hf, rfl, rfl⟩).d)) (by omega) (fun c _ => eg_nameW (by decide))
        (fun c hc => ev_call (ea_cons (ev_var rfl) ea_nil) ⟨c, hkids c hc, rfl, rfl⟩)) ?_) ea_nil) rc_sum
      rw [List.map_map]
      rfl
    refine q_when st (et_test (ev_op (ev_op (ev_var rfl) ev_int (rd_ixT at0)) ev_str rd_eqStr)) (fun h2 B2 H2 x2 st => ?_) (fun h2 B2 H2 x2 st => ?_)
    · have hw2 : wd = "times" := eq_of_beq h2
      rw [if_pos hw2] at e2
      obtain ⟨n, x, rfl, hn0, hn6⟩ := times_of fm hw2
      subst e2
      refine s_ret st (ev_op ev_int (ev_op (ev_op (ev_var rfl) ev_int (rd_ixT at1)) (ev_var rfl) (rd_I (.inl ⟨by omega, by omega⟩))) rd_I0) fun v B8 H8 x8 w8 d8 => ?_
      exact q v B8 H8 ((x1.trans x2).trans x8) w8 d8
    · rw [if_neg (by simpa using h2)] at e2
      subst e2
      refine s_ret st (ev_op ev_int (ev_var rfl) rd_I0) fun v B8 H8 x8 w8 d8 => ?_
      exact q v B8 H8 ((x1.trans x2).trans x8) w8 d8
end
end Toy

set_option Elab.async false
set_option linter.all false
set_option maxRecDepth 100000
set_option maxHeartbeats 4000000
namespace Toy
open PySem PySem.Spec PyProof.Rows L2 StX DL


def R_fw (h : Nat) (ds : List PyData) (d : PyData) : Prop := ∃ t p, p.length + h = 8 ∧ PD.npart h t ≤ 50000 ∧ ds = [t, PD.encP p] ∧ d = (match PD.fwrong h p t with | some p => PD.encP p | none => .none)
def encW : Option (List Int) → PyData
  | some p => PD.encP p
  | none => .none
theorem first_cons {W : Nat → PyData → Option (List Int)} {i : Nat} {x : PyData} {xs : List PyData} : PD.firstOf W i (x :: xs) = match W i x with
  | some p => some p
  | none => PD.firstOf W (i + 1) xs := rfl
theorem not_none {K : PySem.W.Frag} {B O : Hp} {G : List SD} {d : PyData} {ta tb : TE} {b : Bool} (h : EvD K B O G ta d) (hb : EvD K B O G tb .none) (e : (!PD.isNoneD d) = b) : EvD K B O G (tOp (fun x y H Q => y = .non ∧ Q (.bl (!decide (x = .non))) H) ta tb) (.bool b) :=
  ev_op h hb fun B1 O1 H v w hw hv hx Q q => ⟨dp_none hx, by
    have : (!decide (v = V.non)) = b := by
      rw [← e]
      cases hv <;> simp [PD.isNoneD]
    rw [this]
    exact q _ B1 H (Ex.refl _) hw (.bl b)⟩
section
variable {P : Program} {w : World} {K : PySem.W.Frag} {mg : Str → Option Value} {base : Heap} {AD : Ads}

theorem ok_is_barred_from_told {f : Addr} {fd : FuncData} (T : Txt K mg AD) (a : At K mg "is_barred_from_told" s_is_barred_from_told ["part"] f fd) : FnOk P w K mg base CX0 2 f fd ["part"] (SpR K R_barred) := by
  refine ok_fn a.fn sc_is_barred_from_told (by rintro ds d ⟨t, _, rfl, _⟩; rfl) fun cdv A outer s H0 E hr ds d ⟨t, hf, e1, e2⟩ => ?_
  subst e1 e2
  refine ⟨_, (pss_one (ps_ret (pe_or (pe_cmpR (op_inK K) (pe_ix (ix_tupK K) (pv 0) pe_int (fun _ _ => rfl)) (pe_tup (pa_cons pe_str (pa_cons pe_str pa_nil))) (by rfl)) (pe_one (pe_and (pe_cmpR op_eq (pe_ix (ix_tupK K) (pv 0) pe_int (fun _ _ => rfl)) pe_str (nomark _)) (pe_one (pe_cmpR op_notN (pe_ix (ix_tupK K) (pv 0) pe_int (fun _ _ => rfl)) pe_non (nomark _)))))))), fun B O σ H Q st q => ?_⟩
  have fm := PD.form_of hf
  obtain ⟨wd, fs, rfl⟩ := fm.head
  have eb : PD.barred (.tuple (.str wd :: fs)) = (inV (.str wd) (([("within" : Str), "need"]).map V.str) || ((wd == "counted") && !PD.isNoneD (PD.field (.tuple (.str wd :: fs)) 3))) := by
    rw [in_strs]
    show ((wd == "within") || (wd == "need") || _) = ((wd == "within") || ((wd == "need") || false) || _)
    rw [Bool.or_false]
    rfl
  rw [eb] at q
  refine s_ret st (ev_orV (ev_op (ev_op (ev_var rfl) ev_int (rd_ixT at0)) (ev_tup (ea_cons ev_str (ea_cons ev_str ea_nil)) (by decide)) (rd_inT rfl rfl rfl)) fun _ => ev_andV (ev_op (ev_op (ev_var rfl) ev_int (rd_ixT at0)) ev_str rd_eqStr) fun h2 => ?_) fun v B1 H1 x1 w1 d1 => q v B1 H1 x1 w1 d1
  obtain ⟨m, mo, ah, x, rfl⟩ := counted_of fm (eq_of_beq h2)
  exact not_none (ev_op (ev_var rfl) ev_int (rd_ixT (d := ah) (by rfl))) ev_non rfl
theorem ok_suits_its_part {h : Nat} (hh : h ≤ 20) {f fp fs fu fb : Addr} {fd fdp fds fdu fdb : FuncData} (T : Txt K mg AD) (a : At K mg "suits_its_part" s_suits_its_part ["part"] f fd) (ap : At K mg "parts_of" s_parts_of ["part"] fp fdp) (as_ : At K mg "size_of" s_size_of ["part"] fs fds) (au : At K mg "subparts" s_subparts ["part"] fu fdu)
    (ab : At K mg "is_barred_from_told" s_is_barred_from_told ["part"] fb fdb) : FnOk P w K mg base CX0 (h + 5) f fd ["part"] (SpR K (R_suits h)) := by
  have C_size_of := as_.cal (ok_size_of (P := P) (w := w) (base := base) T as_ ap h)
  have C_subparts := au.cal (ok_subparts (P := P) (w := w) (base := base) T au ap h hh)
  have C_is_barred_from_told := ab.cal (ok_is_barred_from_told (P := P) (w := w) (base := base) T ab)
  refine ok_fn a.fn sc_suits_its_part (by rintro ds d ⟨t, _, _, rfl, _⟩; rfl) fun cdv A outer s H0 E hr ds d ⟨t, ho, hn, e1, e2⟩ => ?_
  subst e1 e2
  refine ⟨_, (pss_cons (ps_if (PW.pt (pw_and (pt_cmpR op_eq (pe_ix (ix_tupK K) (pv 0) pe_int (fun _ _ => rfl)) pe_str (nomark _)) (pw_and1 (pt_cmpR op_notN (pe_ix (ix_tupK K) (pv 0) pe_int (fun _ _ => rfl)) pe_non (nomark _))))) (pss_one (ps_ret (pe_cmpR op_notN (pe_cal C_size_of hr (by omega) (by rfl) (pa_cons (pe_ix (ix_tupK K) (pv 0) pe_int (fun _ _ => rfl)) pa_nil)) pe_non (nomark _)))) pss_nil)
    (pss_cons (ps_if (PW.pt (pw_and (pt_cmpR op_eq (pe_ix (ix_tupK K) (pv 0) pe_int (fun _ _ => rfl)) pe_str (nomark _)) (pw_and1 (pt_cmpR op_eq (pe_ix (ix_tupK K) (pv 0) pe_int (fun _ _ => rfl)) pe_str (nomark _))))) (pss_one (ps_ret (pe_not (pe_callB (cr_anyK K rfl) (by rfl) T.b_any (by decide +kernel) (pa_cons (pe_lc (own := [("path", 1), ("inner", 2)]) (by rfl) sc_suits_its_part.nd (pi_listK K (pe_cal C_subparts hr (by omega) (by rfl) (pa_cons (pe_ix (ix_tupK K) (pv 0) pe_int (fun _ _ => rfl)) pa_nil))) (blkOk_by (own := [("path", 1), ("inner", 2)]) (N := N_sc_suits_its_part) (sc := defScope s_suits_its_part) (by decide +kernel)) (fun _ _ _ _ _ => (pg_tupK K (n := 2) (by rfl) (pgs_cons (pg_name (i := 1) sc_suits_its_part.nd rfl (Or.inl rfl)) (pgs_cons (pg_name (i := 2) sc_suits_its_part.nd rfl (Or.inl rfl)) pgs_nil)))) (fun _ _ _ _ _ => pts_nil) (fun _ _ _ _ _ => (pe_cal C_is_barred_from_told hr (by omega) (by rfl) (pa_cons (pv 2) pa_nil)))) pa_nil))))) pss_nil)
    (pss_one (ps_ret pe_bl)))), fun B O σ H Q st q => ?_⟩
  obtain ⟨hf, hkids⟩ := PD.ok_succ ho
  have fm := PD.form_of hf
  obtain ⟨wd, fs, rfl⟩ := fm.head
  have hs : PD.suits h (.tuple (.str wd :: fs)) = if wd = "counted" ∧ PD.isNoneD (PD.field (.tuple (.str wd :: fs)) 3) = false then (PD.sizeD h (PD.field (.tuple (.str wd :: fs)) 4)).isSome
      else if wd = "within" ∧ PD.isWord "told" (PD.field (.tuple (.str wd :: fs)) 3) = true then !((PD.subsD h (PD.field (.tuple (.str wd :: fs)) 5)).any fun q => PD.barred q.2) else true := rfl
  rw [hs] at q
  by_cases h1 : wd = "counted"
  · obtain ⟨m, mo, ah, x, rfl⟩ := counted_of fm h1
    subst h1
    have hx : x ∈ PD.partsOf (.tuple [.str "counted", m, mo, ah, x]) := by
      rw [PD.parts_one (fs := [m, mo, ah, x]) (by decide)]
      exact List.mem_singleton.mpr rfl
    refine q_when st (b := !PD.isNoneD ah) (et_is (et_and (a := true) (et_test (ev_op (ev_op (ev_var rfl) ev_int (rd_ixT at0)) ev_str rd_eqStr)) fun _ => et_test (not_none (ev_op (ev_var rfl) ev_int (rd_ixT (d := ah) (by rfl))) ev_non rfl)) (Bool.true_and _)) (fun h2 B1 H1 x1 st => ?_) (fun h2 B1 H1 x1 st => ?_)
    · have h3 : PD.isNoneD ah = false := by simpa using h2
      rw [if_pos ⟨rfl, h3⟩] at q
      refine s_ret st (not_none (b := (PD.sizeD h x).isSome) (ev_call (ea_cons (ev_op (ev_var rfl) ev_int (rd_ixT (d := x) (by rfl))) ea_nil) ⟨x, hkids x hx, rfl, rfl⟩) ev_non (by cases PD.sizeD h x <;> rfl)) fun v B2 H2 x2 w2 d2 => q v B2 H2 (x1.trans x2) w2 d2
    · have h3 : PD.isNoneD ah = true := by simpa using h2
      rw [if_neg (by rintro ⟨_, z⟩; have z' : PD.isNoneD ah = false := z; rw [h3] at z'; cases z'), if_neg (by rintro ⟨z, _⟩; exact absurd z (by decide))] at q
      refine q_whenF st (et_and (a := false) (b := false) (et_test (ev_op (ev_op (ev_var rfl) ev_int (rd_ixT at0)) ev_str rd_eqStr)) fun z => Bool.noConfusion z) fun B2 H2 x2 st => ?_
      exact s_ret st ev_bl fun v B3 H3 x3 w3 d3 => q v B3 H3 ((x1.trans x2).trans x3) w3 d3
  · have hb : (wd == "counted") = false := by simpa using h1
    rw [if_neg fun z => h1 z.1] at q
    refine q_whenF st (et_is (et_and (a := wd == "counted") (b := false) (et_test (ev_op (ev_op (ev_var rfl) ev_int (rd_ixT at0)) ev_str rd_eqStr)) fun z => by rw [hb] at z; cases z) (by rw [hb]; rfl)) fun B1 H1 x1 st => ?_
    by_cases h2 : wd = "within"
    · obtain ⟨m, mo, l, r, x, rfl, y, rfl⟩ := within_of fm h2
      subst h2
      have hx : x ∈ PD.partsOf (.tuple [.str "within", m, mo, .str y, r, x]) := by
        rw [PD.parts_one (fs := [m, mo, .str y, r, x]) (by decide)]
        exact List.mem_singleton.mpr rfl
      refine q_when st (b := y == "told") (et_is (et_and (a := true) (et_test (ev_op (ev_op (ev_var rfl) ev_int (rd_ixT at0)) ev_str rd_eqStr)) fun _ => et_test (ev_op (ev_op (ev_var rfl) ev_int (rd_ixT (d := .str y) (by rfl))) ev_str rd_eqStr)) (Bool.true_and _)) (fun h2 B2 H2 x2 st => ?_) (fun h2 B2 H2 x2 st => ?_)
      · rw [if_pos ⟨rfl, h2⟩] at q
        have hnx := PD.npart_kid (h := h) hx
        have hox := hkids x hx
        have hlx := PD.subs_len (h := h) (d := x)
        refine s_ret st (ev_notV (ev_cb (ea_cons (ev_is (ev_map (PD.subsD h x) PD.encQ (fun q => .bool (PD.barred q.2)) (fun q => [.dat (.tuple [.str "within", m, mo, .str y, r, x]), .dat (PD.encP q.1), .dat q.2]) (ei_list (el_call (ea_cons (ev_op (ev_var rfl) ev_int (rd_ixT (d := x) (by rfl))) ea_nil) ⟨x, hox, by omega, rfl, rfl⟩).d) (by omega)
          (fun q _ => eg_pairW (by decide) (by decide)) (fun q hq => ev_call (ea_cons (ev_var rfl) ea_nil) ⟨q.2, subs_ok hox (p := q.1) hq, rfl, rfl⟩)) (by rw [show (PD.subsD h x).map (fun q => PyData.bool (PD.barred q.2)) = ((PD.subsD h x).map fun q => PD.barred q.2).map PyData.bool by rw [List.map_map]; rfl])) ea_nil) rc_any)) fun v B3 H3 x3 w3 d3 => ?_
        refine q v B3 H3 ((x1.trans x2).trans x3) w3 ?_
        rw [List.any_map] at d3
        exact d3
      · rw [if_neg (by rintro ⟨_, z⟩; have z' : (y == "told") = true := z; rw [h2] at z'; cases z')] at q
        exact s_ret st ev_bl fun v B3 H3 x3 w3 d3 => q v B3 H3 ((x1.trans x2).trans x3) w3 d3
    · have hb2 : (wd == "within") = false := by simpa using h2
      rw [if_neg fun z => h2 z.1] at q
      refine q_whenF st (et_is (et_and (a := wd == "within") (b := false) (et_test (ev_op (ev_op (ev_var rfl) ev_int (rd_ixT at0)) ev_str rd_eqStr)) fun z => by rw [hb2] at z; cases z) (by rw [hb2]; rfl)) fun B2 H2 x2 st => ?_
      exact s_ret st ev_bl fun v B3 H3 x3 w3 d3 => q v B3 H3 ((x1.trans x2).trans x3) w3 d3
/-- what first_wrong calls -/
structure Fws (P : Program) (w : World) (K : PySem.W.Frag) (mg : Str → Option Value) (base : Heap) : Prop where
  hf : Cal P w K mg base 10 "has_form" ["thing"] (SpR K R_form)
  po : Cal P w K mg base 2 "parts_of" ["part"] (SpL K R_parts)
  su : ∀ h, h ≤ 20 → Cal P w K mg base (h + 5) "suits_its_part" ["part"] (SpR K (R_suits h))
theorem ok_first_wrong {f : Addr} {fd : FuncData} (T : Txt K mg AD) (Fw : Fws P w K mg base) (a : At K mg "first_wrong" s_first_wrong ["part", "path"] f fd) : ∀ h, h ≤ 8 → FnOk P w K mg base CX0 (h + 12) f fd ["part", "path"] (SpR K (R_fw h))
  | 0, _ => by
    have C_has_form := Fw.hf
    have C_parts_of := Fw.po
    have C_suits_its_part := Fw.su 0 (by omega)
    have C_first_wrong : Cal P w K mg base 0 "first_wrong" ["part", "path"] (SpR K fun _ _ => False) := a.cal (SpR_false fun _ _ z => z)
    refine ok_fn a.fn sc_first_wrong (by rintro ds d ⟨t, p, _, _, rfl, _⟩; rfl) fun cdv A outer s H0 E hr ds d ⟨t, p, hp, hn, e1, e2⟩ => ?_
    subst e1 e2
    refine ⟨_, (pss_cons (ps_if (PW.pt (pw_or (pt_cmpR op_ge (pe_callB (call_lenK K) (by rfl) T.b_len PySem.boot_len (pa_cons (pv 1) pa_nil)) (pe_gi (n := 8) (by rfl) T.n_MOST_DEEP) (nomark _)) (pw_or1 (pt_not (pt_val (pe_cal C_has_form hr (by omega) (by rfl) (pa_cons (pv 0) pa_nil))))))) (pss_one (ps_ret (pv 1))) pss_nil)
    (pss_cons (ps_for PassesOwn.never rfl (pi_enumK K (by rfl) T.b_enumerate (pa_cons (pe_cal C_parts_of hr (by omega) (by rfl) (pa_cons (pv 0) pa_nil)) pa_nil)) (pg_tupK K (n := 2) (by rfl) (pgs_cons (pg_name (i := 2) sc_first_wrong.nd rfl (Or.inl rfl)) (pgs_cons (pg_name (i := 3) sc_first_wrong.nd rfl (Or.inl rfl)) pgs_nil))) (pss_cons (ps_set (i := 4) sc_first_wrong.nd rfl (Or.inl rfl) (pe_cal C_first_wrong hr (by omega) (by rfl) (pa_cons (pv 3) (pa_cons (pe_tup (pa_starK K (pv 1) (pa_cons (pv 2) pa_nil))) pa_nil))))
    (pss_one (ps_if (pt_cmpR op_notN (pv 4) pe_non (nomark _)) (pss_one (ps_ret (pv 4))) pss_nil))))
    (pss_one (ps_ret (pe_ifExp (pt_val (pe_cal C_suits_its_part hr (by omega) (by rfl) (pa_cons (pv 0) pa_nil))) pe_non (pv 1)))))), fun B O σ H Q st q => ?_⟩
    refine q_whenT st (et_is (et_or (a := true) (b := true) (et_is (et_test (ev_op (ev_cb (ea_cons (ev_var rfl) ea_nil) rc_lenT) ev_int rd_B0)) (by rw [List.length_map]; exact decide_eq_true (by omega))) fun z => Bool.noConfusion z) rfl) fun B1 H1 x1 st => ?_
    exact s_ret st (ev_var rfl) fun v B2 H2 x2 w2 d2 => q v B2 H2 (x1.trans x2) w2 d2
  | h + 1, hh => by
    have C_has_form := Fw.hf
    have C_parts_of := Fw.po
    have C_suits_its_part := Fw.su h (by omega)
    have C_first_wrong := a.cal (ok_first_wrong T Fw a h (by omega))
    refine ok_fn a.fn sc_first_wrong (by rintro ds d ⟨t, p, _, _, rfl, _⟩; rfl) fun cdv A outer s H0 E hr ds d ⟨t, p, hp, hn, e1, e2⟩ => ?_
    subst e1 e2
    refine ⟨_, (pss_cons (ps_if (PW.pt (pw_or (pt_cmpR op_ge (pe_callB (call_lenK K) (by rfl) T.b_len PySem.boot_len (pa_cons (pv 1) pa_nil)) (pe_gi (n := 8) (by rfl) T.n_MOST_DEEP) (nomark _)) (pw_or1 (pt_not (pt_val (pe_cal C_has_form hr (by omega) (by rfl) (pa_cons (pv 0) pa_nil))))))) (pss_one (ps_ret (pv 1))) pss_nil)
    (pss_cons (ps_for PassesOwn.never rfl (pi_enumK K (by rfl) T.b_enumerate (pa_cons (pe_cal C_parts_of hr (by omega) (by rfl) (pa_cons (pv 0) pa_nil)) pa_nil)) (pg_tupK K (n := 2) (by rfl) (pgs_cons (pg_name (i := 2) sc_first_wrong.nd rfl (Or.inl rfl)) (pgs_cons (pg_name (i := 3) sc_first_wrong.nd rfl (Or.inl rfl)) pgs_nil))) (pss_cons (ps_set (i := 4) sc_first_wrong.nd rfl (Or.inl rfl) (pe_cal C_first_wrong hr (by omega) (by rfl) (pa_cons (pv 3) (pa_cons (pe_tup (pa_starK K (pv 1) (pa_cons (pv 2) pa_nil))) pa_nil))))
    (pss_one (ps_if (pt_cmpR op_notN (pv 4) pe_non (nomark _)) (pss_one (ps_ret (pv 4))) pss_nil))))
    (pss_one (ps_ret (pe_ifExp (pt_val (pe_cal C_suits_its_part hr (by omega) (by rfl) (pa_cons (pv 0) pa_nil))) pe_non (pv 1)))))), fun B O σ H Q st q => ?_⟩
    have ew : PD.fwrong (h + 1) p t = if PD.hasForm t = false then some p else match PD.firstOf (fun i x => PD.fwrong h (p ++ [(i : Int)]) x) 0 (PD.partsOf t) with
      | some p => some p
      | none => if PD.suits h t then none else some p := rfl
    have hge : decide ((8 : Int) ≤ (((p.map PyData.int).length : Nat) : Int)) = false := by
      rw [List.length_map]
      exact decide_eq_false (by omega)
    refine q_when st (b := !PD.hasForm t) (et_is (et_or (a := false) (et_is (et_test (ev_op (ev_cb (ea_cons (ev_var rfl) ea_nil) rc_lenT) ev_int rd_B0)) hge) fun _ => et_not (et_test (ev_call (ea_cons (ev_var rfl) ea_nil) ⟨t, rfl, rfl⟩))) (Bool.false_or _)) (fun h1 B1 H1 x1 st => ?_) (fun h1 B1 H1 x1 st => ?_)
    · rw [ew, if_pos (by simpa using h1)] at q
      exact s_ret st (ev_var rfl) fun v B2 H2 x2 w2 d2 => q v B2 H2 (x1.trans x2) w2 d2
    have hf : PD.hasForm t = true := by simpa using h1
    rw [ew, if_neg (by rw [hf]; exact fun z => Bool.noConfusion z)] at q
    refine q_for st (es := enumD (PD.partsOf t)) (ei_enum (ea_cons (el_call (ea_cons (ev_var rfl) ea_nil) ⟨t, hf, rfl, rfl⟩).d ea_nil))
      (fun i B' O' G' => O' = O ∧ PD.firstOf (fun i x => PD.fwrong h (p ++ [(i : Int)]) x) 0 (PD.partsOf t) = PD.firstOf (fun i x => PD.fwrong h (p ++ [(i : Int)]) x) i ((PD.partsOf t).drop i) ∧ ∃ g2 g3 g4, G' = [.dat t, .dat (PD.encP p), g2, g3, g4])
      (fun i B1 B2 O1 G1 e x => x) ⟨rfl, rfl, _, _, _, rfl⟩ ?_ ?_
    · rintro i e B2 O2 G2 σ2 H2 v hie x2 ⟨rfl, hfo, g2, g3, g4, rfl⟩ st dv N hN
      obtain ⟨c, hc, rfl⟩ := enum_inv hie
      have hcm : c ∈ PD.partsOf t := List.mem_of_getElem? hc
      have hd : (PD.partsOf t).drop i = c :: (PD.partsOf t).drop (i + 1) := by
        rw [List.drop_eq_getElem_cons (List.getElem?_eq_some_iff.mp hc).1, (List.getElem?_eq_some_iff.mp hc).2]
      rw [hd] at hfo
      refine eg_pair B2 _ σ2 H2 v st dv _ fun σ3 st _ => ?_
      have hnk := PD.npart_kid (h := h) hcm
      refine q_asg st (d := encW (PD.fwrong h (p ++ [(i : Int)]) c)) (ev_call (ea_cons (ev_var rfl) (ea_cons (ev_is (ev_tup (ea_star (es := p.map .int) (ev_var rfl) (ea_cons (ev_var rfl) ea_nil)) (by simp; omega)) (show PyData.tuple (p.map .int ++ [.int (i : Int)]) = PD.encP (p ++ [(i : Int)]) by unfold PD.encP; rw [List.map_append]; rfl)) ea_nil)) ⟨c, p ++ [(i : Int)], by simp; omega, by omega, rfl, by unfold encW; rfl⟩) fun v3 B3 H3 x3 d3 st => ?_
      cases hw : PD.fwrong h (p ++ [(i : Int)]) c with
      | some pp =>
        rw [hw] at st
        refine s_if st (b := true) (et_test (not_none (d := encW (some pp)) (ev_var (i := 4) rfl) ev_non rfl)) (fun _ B4 H4 x4 st => ?_) (fun z => Bool.noConfusion z)
        refine s_ret st (ev_var rfl) fun v5 B5 H5 x5 w5 d5 => ?_
        rw [hfo, first_cons, hw] at q
        exact q v5 B5 H5 ((((x1.trans x2).trans x3).trans x4).trans x5) w5 d5
      | none =>
        rw [hw] at st
        refine s_if st (b := false) (et_test (not_none (d := encW none) (ev_var (i := 4) rfl) ev_non rfl)) (fun z => Bool.noConfusion z) fun _ B4 H4 x4 st => ?_
        refine hN B4 _ _ _ _ (x3.trans x4) ⟨rfl, ?_, _, _, _, rfl⟩ st
        rw [hfo, first_cons, hw]
    · rintro B2 O2 G2 σ2 H2 x2 ⟨rfl, hfo, g2, g3, g4, rfl⟩ st
      rw [enumD_len, List.drop_length] at hfo
      rw [hfo] at q
      have hok : PD.okB (h + 1) t = true := PD.ok_of_fwrong' hf fun c hc => by
        obtain ⟨j, hj⟩ := List.mem_iff_getElem?.mp hc
        exact PD.ok_of_fwrong (PD.firstOf_none hfo j c hj)
      have q' : ∀ v B' H', Ex B B' → W B' O2 H' → Dt K B' v (encW (if PD.suits h t then none else some p)) → Q v H' := by
        intro v B' H' e w d
        refine q v B' H' e w ?_
        unfold encW at d
        exact d
      refine s_ret st (d := encW (if PD.suits h t then none else some p)) (ev_if (b := PD.suits h t) (et_test (ev_call (ea_cons (ev_var rfl) ea_nil) ⟨t, hok, hn, rfl, rfl⟩)) (fun hs => by rw [hs]; exact ev_non) (fun hs => by rw [hs]; exact ev_var rfl)) fun v3 B3 H3 x3 w3 d3 => q' v3 B3 H3 ((x1.trans x2).trans x3) w3 d3
end
end Toy

set_option Elab.async false
set_option linter.all false
set_option maxRecDepth 100000
set_option maxHeartbeats 2000000
/-! What has the depth that it may have is told alike with more. -/
namespace PD
open PySem DL
theorem ok_up : ∀ {h : Nat} {d : PyData}, okB h d = true → okB (h + 1) d = true
  | 0, d, o => Bool.noConfusion o
  | h + 1, d, o => ok_of_fwrong' (ok_succ o).1 fun x hx => ok_up ((ok_succ o).2 x hx)
theorem ok_le {h j : Nat} {d : PyData} (l : h ≤ j) (o : okB h d = true) : okB j d = true := by
  induction l with
  | refl => exact o
  | step _ ih => exact ok_up ih
theorem npart_up : ∀ {h : Nat} {d : PyData}, okB h d = true → npart (h + 1) d = npart h d
  | 0, d, o => Bool.noConfusion o
  | h + 1, d, o => by
    show 1 + ((partsOf d).map (npart (h + 1))).sum = 1 + ((partsOf d).map (npart h)).sum
    rw [List.map_congr_left fun x hx => npart_up ((ok_succ o).2 x hx)]
theorem npart_le {h j : Nat} {d : PyData} (l : h ≤ j) (o : okB h d = true) : npart j d = npart h d := by
  induction l with
  | refl => rfl
  | step l ih => rw [npart_up (ok_le l o), ih]
theorem size_up : ∀ {h : Nat} {d : PyData}, okB h d = true → sizeD (h + 1) d = sizeD h d
  | 0, d, o => Bool.noConfusion o
  | h + 1, d, o => by
    show sizeK d ((partsOf d).map (sizeD (h + 1))) = sizeK d ((partsOf d).map (sizeD h))
    rw [List.map_congr_left fun x hx => size_up ((ok_succ o).2 x hx)]
theorem size_le {h j : Nat} {d : PyData} (l : h ≤ j) (o : okB h d = true) : sizeD j d = sizeD h d := by
  induction l with
  | refl => rfl
  | step l ih => rw [size_up (ok_le l o), ih]
theorem subs_up : ∀ {h : Nat} {d : PyData}, okB h d = true → subsD (h + 1) d = subsD h d
  | 0, d, o => Bool.noConfusion o
  | h + 1, d, o => by
    show subsTo (subsD (h + 1)) d (partsOf d).length = subsTo (subsD h) d (partsOf d).length
    unfold subsTo
    congr 1
    have key : ∀ l : List Nat, l.flatMap (subsAt (subsD (h + 1)) (partsOf d)) = l.flatMap (subsAt (subsD h) (partsOf d)) := fun l => by
      induction l with
      | nil => rfl
      | cons i l ih =>
        rw [List.flatMap_cons, List.flatMap_cons, ih]
        congr 1
        unfold subsAt
        cases hc : (partsOf d)[i]? with
        | none => rfl
        | some c =>
          show (subsD (h + 1) c).map _ = (subsD h c).map _
          rw [subs_up ((ok_succ o).2 c (List.mem_of_getElem? hc))]
    exact key _
theorem subs_le {h j : Nat} {d : PyData} (l : h ≤ j) (o : okB h d = true) : subsD j d = subsD h d := by
  induction l with
  | refl => rfl
  | step l ih => rw [subs_up (ok_le l o), ih]
theorem mem_subs {h : Nat} {d : PyData} {q : List Int × PyData} : q ∈ subsD (h + 1) d ↔ q = ([], d) ∨ ∃ (i : Nat) (c : PyData) (r : List Int × PyData), (partsOf d)[i]? = some c ∧ r ∈ subsD h c ∧ q = ((i : Int) :: r.1, r.2) := by
  show q ∈ subsTo (subsD h) d (partsOf d).length ↔ _
  unfold subsTo
  rw [List.mem_cons, List.mem_flatMap]
  constructor
  · rintro (e | ⟨i, _, m⟩)
    · exact .inl e
    · unfold subsAt at m
      cases hc : (partsOf d)[i]? with
      | none => rw [hc] at m; cases m
      | some c =>
        rw [hc] at m
        obtain ⟨r, hr, e⟩ := List.mem_map.mp m
        exact .inr ⟨i, c, r, hc, hr, e.symm⟩
  · rintro (e | ⟨i, c, r, hc, hr, e⟩)
    · exact .inl e
    · refine .inr ⟨i, List.mem_range.mpr (List.getElem?_eq_some_iff.mp hc).1, ?_⟩
      unfold subsAt
      rw [hc]
      exact List.mem_map.mpr ⟨r, hr, e.symm⟩
theorem sub_ok : ∀ {h : Nat} {t : PyData} {q : List Int × PyData}, okB h t = true → q ∈ subsD h t → okB h q.2 = true ∧ npart h q.2 ≤ npart h t
  | 0, t, q, o, _ => Bool.noConfusion o
  | h + 1, t, q, o, m => by
    rcases mem_subs.mp m with rfl | ⟨i, c, r, hc, hr, rfl⟩
    · exact ⟨o, Nat.le_refl _⟩
    · have hcm := List.mem_of_getElem? hc
      obtain ⟨o2, n2⟩ := sub_ok ((ok_succ o).2 c hcm) hr
      have n3 := npart_kid (h := h) hcm
      exact ⟨ok_up o2, by rw [npart_up o2]; omega⟩
theorem field_kid {d : PyData} (hf : hasForm d = true) : (wordOf d = "counted" → field d 4 ∈ partsOf d) ∧ (wordOf d = "within" → field d 5 ∈ partsOf d) := by
  have fm := form_of hf
  obtain ⟨wd, fs, rfl⟩ := fm.head
  constructor
  · intro e
    have e' : wd = "counted" := e
    subst e'
    cases fm with
    | counted m mo ah x h =>
      rw [parts_one (by decide)]
      exact List.mem_singleton.mpr rfl
  · intro e
    have e' : wd = "within" := e
    subst e'
    cases fm with
    | within m mo l r x h =>
      rw [parts_one (by decide)]
      exact List.mem_singleton.mpr rfl
theorem suits_le {h j : Nat} {d : PyData} (l : h ≤ j) (o : okB (h + 1) d = true) : suits j d = suits h d := by
  obtain ⟨hf, hk⟩ := ok_succ o
  obtain ⟨k1, k2⟩ := field_kid hf
  unfold suits
  by_cases c1 : wordOf d = "counted" ∧ isNoneD (field d 3) = false
  · rw [if_pos c1, if_pos c1, size_le l (hk _ (k1 c1.1))]
  · rw [if_neg c1, if_neg c1]
    by_cases c2 : wordOf d = "within" ∧ isWord "told" (field d 3) = true
    · rw [if_pos c2, if_pos c2, subs_le l (hk _ (k2 c2.1))]
    · rw [if_neg c2, if_neg c2]
theorem firstOf_all {W : Nat → PyData → Option (List Int)} : ∀ {i : Nat} {xs : List PyData}, (∀ j x, xs[j]? = some x → W (i + j) x = none) → firstOf W i xs = none
  | _, [], _ => rfl
  | i, y :: ys, h => by
    show (match W i y with | some p => some p | none => firstOf W (i + 1) ys) = none
    rw [show W i y = none from h 0 y rfl]
    exact firstOf_all fun j x hx => by
      have := h (j + 1) x (by simpa using hx)
      rwa [show i + (j + 1) = i + 1 + j by omega] at this
theorem fwrong_none : ∀ {h : Nat} {p : List Int} {t : PyData}, h ≤ 8 → (fwrong h p t = none ↔ okB h t = true ∧ ∀ q, q ∈ subsD h t → suits 8 q.2 = true)
  | 0, p, t, _ => by
    constructor
    · intro e
      cases e
    · rintro ⟨o, _⟩
      exact Bool.noConfusion o
  | h + 1, p, t, hh => by
    have ew : fwrong (h + 1) p t = if hasForm t = false then some p else match firstOf (fun i x => fwrong h (p ++ [(i : Int)]) x) 0 (partsOf t) with
      | some p => some p
      | none => if suits h t then none else some p := rfl
    constructor
    · intro e
      have o := ok_of_fwrong e
      refine ⟨o, fun q hq => ?_⟩
      rw [ew, if_neg (by rw [(ok_succ o).1]; exact fun z => Bool.noConfusion z)] at e
      cases hk : firstOf (fun i x => fwrong h (p ++ [(i : Int)]) x) 0 (partsOf t) with
      | some pp => rw [hk] at e; cases e
      | none =>
        rw [hk] at e
        rcases mem_subs.mp hq with rfl | ⟨i, c, r, hc, hr, rfl⟩
        · show suits 8 t = true
          rw [suits_le (by omega) o]
          cases hs : suits h t with
          | true => rfl
          | false => rw [hs] at e; cases e
        · exact ((fwrong_none (by omega)).mp (firstOf_none hk i c hc)).2 r hr
    · rintro ⟨o, hs⟩
      rw [ew, if_neg (by rw [(ok_succ o).1]; exact fun z => Bool.noConfusion z)]
      rw [firstOf_all fun j x hx => (fwrong_none (by omega)).mpr ⟨(ok_succ o).2 x (List.mem_of_getElem? hx), fun q hq => hs ((j : Int) :: q.1, q.2) (mem_subs.mpr (.inr ⟨j, x, q, hx, hq, rfl⟩))⟩]
      have h0 := hs ([], t) (mem_subs.mpr (.inl rfl))
      rw [suits_le (j := 8) (by omega) o] at h0
      show (if suits h t then none else some p) = none
      rw [if_pos h0]
/-- the path of a wrong part, or () for too many parts -/
def partErr (t : PyData) : Option (List Int) := match fwrong 8 [] t with
  | some p => some p
  | none => if 60 < npart 8 t ∨ 1000 < counted 8 t then some [] else none
def isPart (t : PyData) : Bool := okB 8 t && (decide (npart 8 t ≤ 60) && (decide (counted 8 t ≤ 1000) && (subsD 8 t).all fun q => suits 8 q.2))
theorem isPart_err (t : PyData) : isPart t = (partErr t).isNone := by
  rw [Bool.eq_iff_iff]
  unfold isPart partErr
  rw [Bool.and_eq_true, Bool.and_eq_true, Bool.and_eq_true, decide_eq_true_eq, decide_eq_true_eq, List.all_eq_true]
  constructor
  · rintro ⟨o, h1, h2, h3⟩
    rw [(fwrong_none (by omega)).mpr ⟨o, h3⟩]
    show (if 60 < npart 8 t ∨ 1000 < counted 8 t then some [] else none : Option (List Int)).isNone = true
    rw [if_neg (by omega)]
    rfl
  · intro e
    cases hw : fwrong 8 [] t with
    | some p => rw [hw] at e; cases e
    | none =>
      rw [hw] at e
      obtain ⟨o, h3⟩ := (fwrong_none (by omega)).mp hw
      by_cases hb : 60 < npart 8 t ∨ 1000 < counted 8 t
      · have e' : (if 60 < npart 8 t ∨ 1000 < counted 8 t then some [] else none : Option (List Int)).isNone = true := e
        rw [if_pos hb] at e'
        cases e'
      · exact ⟨o, by omega, by omega, h3⟩
end PD

set_option Elab.async false
set_option linter.all false
set_option maxRecDepth 100000
set_option maxHeartbeats 2000000
/-! Dicts by a comprehension, while, repetition, values that stand still and are told by what the heap says of them. -/
namespace L2
/-- a dict comprehension over a walk -/
theorem dc_it {J : It} {n : Nat} {G : Hp → Prop} {Y : Nat → Hp → V → Hp → Prop} (w : Walk J n G Y) {g : TG} {tt : TT} {tk tv : TE} {vs : List Nat} {σ : St} {H1 : Hp} {D : PySem.Addr} {Qd : Hp → Prop} (Iv : Nat → Hp → Prop) (start : Iv 0 (upd H1 D (.dK []))) (stays : ∀ i H, i ≤ n → Iv i H → G H)
    (turn : ∀ i x H H', i < n → Iv i H → Y i H x H' → g x (wipe σ vs) H' fun σ2 H2 => wipe σ2 vs = wipe σ vs ∧ tt σ2 H2 fun b H3 =>
      if b = true then tk σ2 H3 fun y H4 => tv σ2 H4 fun z H5 => ∃ ds key, y = kV key ∧ H5 D = some (.dK ds) ∧ ds.length < PySem.sizeLine ∧ Iv (i + 1) (upd H5 D (.dK (putK ds key z))) else Iv (i + 1) H3) (ends : ∀ H, Iv n H → Qd H) :
    ∃ W : Nat → Nat → Hp → Prop, (∃ m, W 0 m (upd H1 D (.dK []))) ∧ ∀ i m H, W i m H →
      (J.stop i H ∧ Qd H) ∨ (J.go i H ∧ ∃ Nx : Hp → Prop, (∀ H', Nx H' → ∃ m', m' < m ∧ W (i + 1) m' H') ∧ ∀ x H', J.yld i H x H' → g x (wipe σ vs) H' fun σ2 H2 => wipe σ2 vs = wipe σ vs ∧ tt σ2 H2 fun b H3 =>
        if b = true then tk σ2 H3 fun y H4 => tv σ2 H4 fun z H5 => ∃ ds key, y = kV key ∧ H5 D = some (.dK ds) ∧ ds.length < PySem.sizeLine ∧ Nx (upd H5 D (.dK (putK ds key z))) else Nx H3) := by
  refine ⟨fun i m H => m = n - i ∧ i ≤ n ∧ Iv i H, ⟨n, by simp, Nat.zero_le _, start⟩, ?_⟩
  rintro i left H ⟨rfl, hi, p⟩
  have q := stays i H hi p
  by_cases hlt : i < n
  · refine .inr ⟨w.goes i H hlt q, Iv (i + 1), fun H' p' => ⟨n - (i + 1), by omega, rfl, hlt, p'⟩, fun x H' y => turn i x H H' hlt p (w.yields i H x H' hlt q y)⟩
  · have e : i = n := by omega
    subst e
    exact .inl ⟨w.stops H q, ends H p⟩
end L2
namespace DL
open PySem PySem.Spec PyProof.Rows L2 StX
/-- evaluates to a value of which P holds where it stands -/
def EvP (K : PySem.W.Frag) (B O : Hp) (G : List SD) (te : TE) (P : Hp → V → Prop) : Prop := ∀ B1 O1 σ H, Ex B B1 → Ex O O1 → Sta K B1 O1 G σ H → ∀ Q : VK, (∀ v B' H', Ex B1 B' → W B' O1 H' → P B' v → Q v H') → te σ H Q
section
variable {K : PySem.W.Frag} {B O : Hp} {G : List SD} {σ : L2.St} {H : Hp} {te ta tb : TE} {tz : TS} {D : Ends} {P : Hp → V → Prop} {i j : Nat}
theorem q_asgP (s : Sta K B O G σ H) (h : EvP K B O G te P) (k : ∀ v B' H', Ex B B' → P B' v → Sta K B' O (G.set i (.val v)) (σ.set i (some v)) H' → tz D (σ.set i (some v)) H') : tSeq (tAsg te (gName i)) tz D σ H :=
  h B O σ H (Ex.refl _) (Ex.refl _) s _ fun v B' H' e w p => k v B' H' e p ((s.ex e w).setV i)
theorem s_retP (s : Sta K B O G σ H) (h : EvP K B O G te P) (k : ∀ v B' H', Ex B B' → W B' O H' → P B' v → D.rt v H') : tRet te D σ H :=
  h B O σ H (Ex.refl _) (Ex.refl _) s _ fun v B' H' e w p => k v B' H' e w p
/-- a dict whose keys are the ints ns -/
def Ks (ns : List Int) (B : Hp) (v : V) : Prop := ∃ D kvs, v = .ref D ∧ B D = some (.dK kvs) ∧ ∀ i : Int, (valV kvs (.inl i : Key)).isSome = ns.contains i
theorem Ks.ex {ns : List Int} {B B' : Hp} {v : V} (h : Ks ns B v) (e : Ex B B') : Ks ns B' v := by
  obtain ⟨D, kvs, h1, h2, h3⟩ := h
  exact ⟨D, kvs, h1, e _ _ h2, h3⟩
/-- {x: True for x in ..} -/
theorem ev_keys {wi : TI} {ns : List Int} (hj : j < G.length) (hI : EvI K B O G wi (ns.map .int)) (hz : ns.length ≤ 100000) : EvP K B O G (tDc wi (gName j) tYes (tVar j) (tC (.bl true)) [j]) (Ks ns) := fun B1 O1 σ H e1 o s Q q => by
  refine hI B1 O1 σ H e1 o s _ fun J B2 H2 e2 w2 gv D hD => ?_
  obtain ⟨n, G0, Y, hn, wk, hG0, hY⟩ := gv
  have oD : O1 D = none := w2.fo hD
  rw [List.length_map] at hn
  refine dc_it wk (fun i H' => ∃ B' kvs, Ex B2 B' ∧ W B' (upd O1 D (.dK kvs)) H' ∧ kvs.length ≤ i ∧ ∀ z : Int, (valV kvs (.inl z : Key)).isSome = (ns.take i).contains z)
    ⟨B2, [], Ex.refl _, w2.newO hD, Nat.zero_le _, fun z => by simp [valV]⟩ (fun i H' _ ⟨B', kvs, e', w', _⟩ => hG0 B' _ H' e' w') ?_ ?_
  · rintro i x H3 H4 hi ⟨B3, kvs, e3, w3, hl, hk⟩ y
    obtain ⟨e, B4, hie, e4, w4, dx⟩ := hY i H3 x H4 B3 _ e3 w3 hi y
    obtain ⟨z, hz', rfl⟩ := map_inv hie
    have ex := dp_int dx
    subst ex
    have hj' : j < (L2.wipe σ [j]).length := by
      rw [wipe_length]
      rw [slots_len s.s]
      exact hj
    refine ⟨wipe_set (by simp) |>.trans wipe_wipe, ?_⟩
    show ∃ v, _
    refine ⟨.int z, by rw [List.getElem?_set]; simp [hj'], kvs, .inl z, rfl, w4.o D _ upd_same, Nat.lt_of_le_of_lt (m := 100000) (by omega) (by decide), ?_⟩
    refine ⟨B4, putK kvs (.inl z) (.bl true), e3.trans e4, ?_, ?_, fun u => ?_⟩
    · have := w4.mut (v := .dK (putK kvs (.inl z) (.bl true))) upd_same
      rw [upd_upd] at this
      exact this
    · have := length_putK kvs (.inl z : Key) (.bl true)
      omega
    · rw [valV_put, List.take_add_one, hz']
      simp only [Option.toList_some, List.contains_append, List.contains_cons, List.contains_nil, Bool.or_false]
      rw [← hk u]
      by_cases hu : u = z
      · subst hu
        simp
      · have : ¬ (Sum.inl u : Key) = .inl z := by simpa using hu
        rw [if_neg this]
        simp [hu]
  · rintro H3 ⟨B3, kvs, e3, w3, hl, hk⟩
    have hb := w3.bnone upd_same
    rw [hn, List.take_length] at hk
    exact q _ (upd B3 D (.dK kvs)) H3 ((e2.trans e3).trans (Ex.new hb)) (w3.give oD) ⟨D, kvs, rfl, upd_same, hk⟩
/-- x in d -/
theorem ev_din {ns : List Int} {v : V} {z : Int} (ha : EvD K B O G ta (.int z)) (hg : G[i]? = some (.val v)) (hk : Ks ns B v) : EvD K B O G (tDIn ta (tVar i)) (.bool (ns.contains z)) := fun B1 O1 σ H e o s Q q =>
  ha B1 O1 σ H e o s _ fun u B2 H2 e2 w2 d2 => by
    obtain ⟨sv, h1, h2⟩ := s.s.get hg
    have h3 : sv = some v := h2
    subst h3
    refine ⟨v, h1, ?_⟩
    obtain ⟨D, kvs, rfl, hb, hkv⟩ := hk
    rw [dp_int d2]
    refine ⟨D, valV kvs (.inl z : Key), rfl, .inl ⟨kvs, .inl z, .inl (w2.b _ _ (e2 _ _ (e _ _ hb))), rfl, rfl⟩, ?_⟩
    rw [hkv z]
    exact q _ B2 H2 e2 w2 (.bl _)
/-- xs * k -/
theorem dps_flat : ∀ {k : Nat} {ds : List PyData} {vs : List V}, DtAll K B vs ds → DtAll K B (List.replicate k vs).flatten (List.replicate k ds).flatten
  | 0, _, _, _ => .nil
  | k + 1, ds, vs, h => by
    rw [List.replicate_succ, List.replicate_succ, List.flatten_cons, List.flatten_cons]
    exact dps_app h (dps_flat h)
theorem rd_rep {ds : List PyData} {k : Int} (hk : 0 ≤ k ∧ k ≤ 100000) (hz : ds.length * k.toNat ≤ 100000) : RD K rRep (.list ds) (.int k) (.list (List.replicate k.toNat ds).flatten) := fun B1 O1 H v w hw hv hx Q q => by
  obtain ⟨a, xs, rfl, h1, h2⟩ := dp_lst hv
  rw [dp_int hx]
  refine ⟨a, k, xs, rfl, rfl, hw.b _ _ h1, by omega, by omega, sz_of (by rw [dps_len h2]; exact hz), fun p hp => ?_⟩
  exact q _ (upd B1 p _) _ (Ex.new (hw.fb hp)) (hw.newB hp) (.lst upd_same (dps_ex (Ex.new (hw.fb hp)) _ _ (dps_flat h2)))
/-- while: a measure that falls -/
theorem q_while {tt : TT} {tu : TS} (s : Sta K B O G σ H) (Pm : Nat → Hp → Hp → List SD → Prop) (m0 : Nat) (h0 : Pm m0 B O G)
    (hs : ∀ m B1 O1 G1 σ1 H1, Ex B B1 → Pm m B1 O1 G1 → Sta K B1 O1 G1 σ1 H1 → ∃ b, EvT K B1 O1 G1 tt b ∧ (b = true → ∀ B2 H2, Ex B1 B2 → Sta K B2 O1 G1 σ1 H2 → ∀ N : L2.St → Hp → Prop, (∀ m' B' O' G' σ' H', m' < m → Ex B2 B' → Pm m' B' O' G' → Sta K B' O' G' σ' H' → N σ' H') → tu { D with nx := N, ct := N, bk := tz D } σ1 H2) ∧
      (b = false → ∀ B2 H2, Ex B1 B2 → Sta K B2 O1 G1 σ1 H2 → tz D σ1 H2)) : tSeq (tWhile tt tu) tz D σ H := by
  refine ⟨fun m σ' H' => ∃ B' O' G', Ex B B' ∧ Pm m B' O' G' ∧ Sta K B' O' G' σ' H', ⟨m0, B, O, G, Ex.refl _, h0, s⟩, ?_⟩
  rintro m σ1 H1 ⟨B1, O1, G1, e1, p1, s1⟩
  obtain ⟨b, hb, k1, k2⟩ := hs m B1 O1 G1 σ1 H1 e1 p1 s1
  refine hb B1 O1 σ1 H1 (Ex.refl _) (Ex.refl _) s1 _ fun B2 H2 e2 w2 => ?_
  cases b with
  | true =>
    rw [if_pos rfl]
    refine ⟨fun σ' H' => ∃ m', m' < m ∧ ∃ B' O' G', Ex B B' ∧ Pm m' B' O' G' ∧ Sta K B' O' G' σ' H', fun σ' H' ⟨m', hm, h⟩ => ⟨m', hm, h⟩, ?_⟩
    exact k1 rfl B2 H2 e2 (s1.ex e2 w2) _ fun m' B' O' G' σ' H' hm e' p' s' => ⟨m', hm, B', O', G', (e1.trans e2).trans e', p', s'⟩
  | false =>
    rw [if_neg Bool.false_ne_true]
    exact k2 rfl B2 H2 e2 (s1.ex e2 w2)
end
end DL

set_option Elab.async false
set_option linter.all false
set_option maxRecDepth 100000
set_option maxHeartbeats 4000000
namespace Toy
open PySem PySem.Spec PyProof.Rows L2 StX DL


def chkOut (CP : Addr) (t : PyData) : OutD := match PD.partErr t with
  | some p => .exc CP "path" (PD.encP p)
  | none => .ret .none
def R_chk (CP : Addr) (ds : List PyData) (o : OutD) : Prop := ∃ t, PD.npart 8 t ≤ 50000 ∧ ds = [t] ∧ o = chkOut CP t
def R_isp (ds : List PyData) (d : PyData) : Prop := ∃ t, PD.npart 8 t ≤ 50000 ∧ ds = [t] ∧ d = .bool (PD.isPart t)
/-- the stack of is_part -/
def stkD (s : List (PyData × Nat)) : List PyData := s.map fun z => .tuple [z.1, .int (z.2 : Int)]
def stkOk (s : List (PyData × Nat)) : Prop := ∀ z, z ∈ s → PD.okB (9 - z.2) z.1 = true
def stkN (s : List (PyData × Nat)) : Nat := (s.map fun z => PD.npart (9 - z.2) z.1).sum
section
variable {K : PySem.W.Frag} {B O : Hp} {G : List SD} {σ : L2.St} {H : Hp} {tz : TS} {D : Ends} {i j k : Nat}
theorem q_popT {l : Addr} {vs : List V} {ds : List PyData} {a b : PyData} (s : Sta K B O G σ H) (hg : G[i]? = some (.val (.ref l))) (ho : O l = some (.lst vs)) (hd : DtAll K B vs (ds ++ [.tuple [a, b]]))
    (q : ∀ vs' σ' H', DtAll K B vs' ds → Sta K B (upd O l (.lst vs')) ((G.set j (.dat a)).set k (.dat b)) σ' H' → tz D σ' H') : tSeq (tAsg (tBM0 K "list" rPop (tVar i)) (gTup K 2 (gCons (gName j) (gCons (gName k) gNil)))) tz D σ H := by
  obtain ⟨vs', y, rfl, h1, h2⟩ : ∃ vs' y, vs = vs' ++ [y] ∧ DtAll K B vs' ds ∧ Dt K B y (.tuple [a, b]) := by
    have key : ∀ (ds : List PyData) (vs : List V), DtAll K B vs (ds ++ [.tuple [a, b]]) → ∃ vs' y, vs = vs' ++ [y] ∧ DtAll K B vs' ds ∧ Dt K B y (.tuple [a, b]) := by
      intro ds
      induction ds with
      | nil =>
        intro vs h
        cases h with
        | cons h1 h2 =>
          cases h2
          exact ⟨[], _, rfl, .nil, h1⟩
      | cons d ds ih =>
        intro vs h
        cases h with
        | cons h1 h2 =>
          obtain ⟨vs', y, rfl, h3, h4⟩ := ih _ h2
          exact ⟨_ :: vs', y, rfl, .cons h1 h3, h4⟩
    exact key ds vs hd
  refine ev_popP s hg ho fun w => ?_
  have st : Sta K B (upd O l (.lst vs')) G σ (upd H l (.lst vs')) := ⟨w, s.s⟩
  exact eg_pair B _ σ _ y st h2 _ fun σ' s' _ => q vs' σ' _ h1 s'
end
theorem W_drop {B O H : Hp} {l : Addr} {u : HO} (w : W B (upd O l u) H) (n : O l = none) : W B O H := ⟨w.b, fun a o h => w.o a o (Ex.new n a o h), fun a => by
  rcases w.d a with h | h
  · exact .inl h
  · by_cases e : a = l
    · subst e
      exact .inr n
    · rw [upd_ne e] at h
      exact .inr h⟩
theorem sum_app {a b : List Nat} : (a ++ b).sum = a.sum + b.sum := List.sum_append
section
variable {P : Program} {w : World} {K : PySem.W.Frag} {mg : Str → Option Value} {base : Heap} {AD : Ads}

/-- what the checks of a whole part call -/
structure Chks (P : Program) (w : World) (K : PySem.W.Frag) (mg : Str → Option Value) (base : Heap) : Prop where
  hf : Cal P w K mg base 10 "has_form" ["thing"] (SpR K R_form)
  po : Cal P w K mg base 2 "parts_of" ["part"] (SpL K R_parts)
  su : Cal P w K mg base 13 "suits_its_part" ["part"] (SpR K (R_suits 8))
  fw : Cal P w K mg base 20 "first_wrong" ["part", "path"] (SpR K (R_fw 8))
  sp : Cal P w K mg base 11 "subparts" ["part"] (SpL K (R_subs 8))
  cn : Cal P w K mg base 11 "counted_parts" ["part"] (SpR K (R_cnt 8))
theorem ok_check_part {f CP : Addr} {fd : FuncData} (T : Txt K mg AD) (Ck : Chks P w K mg base) (Er_NoPart : ErrC P w K mg base "NoPart" CP "path") (a : At K mg "check_part" s_check_part ["part"] f fd) : FnOk P w K mg base (L2.CX P w) 22 f fd ["part"] (SpD K (R_chk CP)) := by
  have C_first_wrong := Ck.fw
  have C_subparts := Ck.sp
  have C_counted_parts := Ck.cn
  refine ok_fnOutD a.fn sc_check_part (by rintro ds d ⟨t, _, rfl, _⟩; rfl) fun cdv A outer s H0 E hr ds o ⟨t, hn, e1, e2⟩ => ?_
  subst e1 e2
  refine ⟨_, (pss_cons (ps_set (i := 1) sc_check_part.nd rfl (Or.inl rfl) (pe_cal C_first_wrong hr (by omega) (by rfl) (pa_cons (pv 0) (pa_cons (pe_tup pa_nil) pa_nil))))
    (pss_cons (ps_if (pt_cmpR op_notN (pv 1) pe_non (nomark _)) (pss_one (ps_raiseE rfl Er_NoPart hr (by omega) (takes_of rfl rfl rfl rfl) (pv 1) (by rfl))) pss_nil)
    (pss_one (ps_if (PW.pt (pw_or (pt_cmpR op_gt (pe_callB (call_lenK K) (by rfl) T.b_len PySem.boot_len (pa_cons (pe_cal C_subparts hr (by omega) (by rfl) (pa_cons (pv 0) pa_nil)) pa_nil)) (pe_gi (n := 60) (by rfl) T.n_MOST_PARTS) (nomark _)) (pw_or1 (pt_cmpR op_gt (pe_cal C_counted_parts hr (by omega) (by rfl) (pa_cons (pv 0) pa_nil)) (pe_gi (n := 1000) (by rfl) T.n_MOST_COUNTED) (nomark _))))) (pss_one (ps_raiseE rfl Er_NoPart hr (by omega) (takes_of rfl rfl rfl rfl) (pe_tup pa_nil) (by rfl))) pss_nil)))), fun B O σ H Q st q => ?_⟩
  unfold chkOut PD.partErr at q
  refine q_asg st (d := encW (PD.fwrong 8 [] t)) (ev_call (ea_cons (ev_var rfl) (ea_cons (ev_tup ea_nil (by simp)) ea_nil)) ⟨t, [], rfl, hn, rfl, by unfold encW; rfl⟩) fun v1 B1 H1 x1 d1 st => ?_
  cases hw : PD.fwrong 8 [] t with
  | some p =>
    rw [hw] at st q
    refine q_whenT st (et_test (not_none (d := encW (some p)) (ev_var (i := 1) rfl) ev_non rfl)) fun B2 H2 x2 st => ?_
    exact s_raiseD st (d := PD.encP p) (ev_var (i := 1) rfl) fun pp v B3 H3 x3 w3 hp hv => q pp v B3 H3 ((x1.trans x2).trans x3) w3 hp hv
  | none =>
    rw [hw] at st q
    obtain ⟨ho, _⟩ := (PD.fwrong_none (by omega)).mp hw
    refine q_whenF st (et_test (not_none (d := encW none) (ev_var (i := 1) rfl) ev_non rfl)) fun B2 H2 x2 st => ?_
    have hl := PD.subs_len (h := 8) (d := t)
    refine s_if st (b := decide (60 < PD.npart 8 t ∨ 1000 < PD.counted 8 t)) (et_is (et_or (a := decide ((60 : Int) < ((PD.npart 8 t : Nat) : Int))) (b := decide ((1000 : Int) < PD.counted 8 t)) (et_is (et_test (ev_op (ev_cb (ea_cons (el_call (ea_cons (ev_var rfl) ea_nil) ⟨t, ho, hn, rfl, rfl⟩).d ea_nil) rc_lenL) ev_int rd_B0)) (by rw [List.length_map, hl])) fun _ => et_test (ev_op (ev_call (ea_cons (ev_var rfl) ea_nil) ⟨t, ho, rfl, rfl⟩) ev_int rd_B0)) ?_) (fun h3 B3 H3 x3 st => ?_) (fun h3 B3 H3 x3 st => ?_)
    · rw [Bool.eq_iff_iff, Bool.or_eq_true, decide_eq_true_eq, decide_eq_true_eq, decide_eq_true_eq]
      omega
    · have q' := q
      rw [if_pos (of_decide_eq_true h3)] at q'
      exact s_raiseD st (d := PD.encP []) (ev_tup ea_nil (by simp)) fun pp v B4 H4 x4 w4 hp hv => q' pp v B4 H4 (((x1.trans x2).trans x3).trans x4) w4 hp hv
    · have q' := q
      rw [if_neg (of_decide_eq_false h3)] at q'
      exact q' .non B3 H3 ((x1.trans x2).trans x3) st.w .non
theorem ok_is_part {f : Addr} {fd : FuncData} (T : Txt K mg AD) (Ck : Chks P w K mg base) (a : At K mg "is_part" s_is_part ["thing"] f fd) : FnOk P w K mg base CX0 15 f fd ["thing"] (SpR K R_isp) := by
  have C_has_form := Ck.hf
  have C_parts_of := Ck.po
  have C_subparts := Ck.sp
  have C_counted_parts := Ck.cn
  have C_suits_its_part := Ck.su
  refine ok_fn a.fn sc_is_part (by rintro ds d ⟨t, _, rfl, _⟩; rfl) fun cdv A outer s H0 E hr ds d ⟨t, hn, e1, e2⟩ => ?_
  subst e1 e2
  refine ⟨_, (pss_cons (ps_set (i := 1) sc_is_part.nd rfl (Or.inl rfl) (pe_lst (pa_cons (pe_tup (pa_cons (pv 0) (pa_cons pe_int pa_nil))) pa_nil)))
    (pss_cons (ps_set (i := 2) sc_is_part.nd rfl (Or.inl rfl) pe_int)
    (pss_cons (ps_while PassesOwn.never (pt_truth (pv 1) (fun _ => rfl)) (pss_cons (ps_asg (pe_bm0 PySem.F.plainAttrs_list PySem.F.slot_list_pop PySem.F.type_list_pop mt_pop (pv 1)) (pg_tupK K (n := 2) (by rfl) (pgs_cons (pg_name (i := 3) sc_is_part.nd rfl (Or.inl rfl)) (pgs_cons (pg_name (i := 4) sc_is_part.nd rfl (Or.inr rfl)) pgs_nil))))
    (pss_cons (ps_set (i := 2) sc_is_part.nd rfl (Or.inl rfl) (pe_op op_add (pv 2) pe_int))
    (pss_cons (ps_if (PW.pt (pw_or (pt_cmpR op_gt (pv 2) (pe_gi (n := 60) (by rfl) T.n_MOST_PARTS) (nomark _)) (pw_or (pt_cmpR op_gt (pv 4) (pe_gi (n := 8) (by rfl) T.n_MOST_DEEP) (nomark _)) (pw_or1 (pt_not (pt_val (pe_cal C_has_form hr (by omega) (by rfl) (pa_cons (pv 3) pa_nil)))))))) (pss_one (ps_ret pe_bl)) pss_nil)
    (pss_one (ps_expr (pe_bm PySem.F.plainAttrs_list PySem.F.slot_list_extend PySem.F.type_list_extend mt_extend (pv 1) (pa_cons (pe_lc (own := [("inner", 5)]) (by rfl) sc_is_part.nd (pi_listK K (pe_cal C_parts_of hr (by omega) (by rfl) (pa_cons (pv 3) pa_nil))) (blkOk_by (own := [("inner", 5)]) (N := N_sc_is_part) (sc := defScope s_is_part) (by decide +kernel)) (fun _ _ _ _ _ => (pg_name (i := 5) sc_is_part.nd rfl (Or.inl rfl))) (fun _ _ _ _ _ => pts_nil) (fun _ _ _ _ _ => (pe_tup (pa_cons (pv 5) (pa_cons (pe_op op_add (pv 4) pe_int) pa_nil))))) pa_nil))))))))
    (pss_cons (ps_if (pt_cmpR op_gt (pe_cal C_counted_parts hr (by omega) (by rfl) (pa_cons (pv 0) pa_nil)) (pe_gi (n := 1000) (by rfl) T.n_MOST_COUNTED) (nomark _)) (pss_one (ps_ret pe_bl)) pss_nil)
    (pss_one (ps_ret (pe_callB (cr_allK K rfl) (by rfl) T.b_all (by decide +kernel) (pa_cons (pe_lc (own := [("path", 6), ("part", 3)]) (by rfl) sc_is_part.nd (pi_listK K (pe_cal C_subparts hr (by omega) (by rfl) (pa_cons (pv 0) pa_nil))) (blkOk_by (own := [("path", 6), ("part", 3)]) (N := N_sc_is_part) (sc := defScope s_is_part) (by decide +kernel)) (fun _ _ _ _ _ => (pg_tupK K (n := 2) (by rfl) (pgs_cons (pg_name (i := 6) sc_is_part.nd rfl (Or.inl rfl)) (pgs_cons (pg_name (i := 3) sc_is_part.nd rfl (Or.inl rfl)) pgs_nil)))) (fun _ _ _ _ _ => pts_nil) (fun _ _ _ _ _ => (pe_cal C_suits_its_part hr (by omega) (by rfl) (pa_cons (pv 3) pa_nil)))) pa_nil)))))))), fun B O σ H Q st q => ?_⟩
  refine q_asgL st (el_lst (ea_cons (ev_tup (ea_cons (ev_var rfl) (ea_cons ev_int ea_nil)) (by simp)) ea_nil) (by simp)) fun l vs B1 H1 x1 nl dv st => ?_
  refine q_asg st ev_int fun v2 B2 H2 x2 d2 st => ?_
  have no : ∀ {B3 O3 H3 : Hp} {σ3 : L2.St} {G3 : List SD} {D : Ends}, D.rt = Q → ¬ (PD.okB 8 t = true ∧ PD.npart 8 t ≤ 60) → Ex B B3 → (∀ v B' H', Ex B3 B' → W B' O3 H' → ∃ B4, Ex B3 B4 ∧ W B4 O H') → Sta K B3 O3 G3 σ3 H3 → tRet (tC (.bl false)) D σ3 H3 := fun {B3 O3 H3 σ3 G3 D} hD hno e3 hO st => by
    have ef : PD.isPart t = false := by
      unfold PD.isPart
      rw [Bool.eq_false_iff]
      intro z
      rw [Bool.and_eq_true, Bool.and_eq_true, decide_eq_true_eq] at z
      exact hno ⟨z.1, z.2.1⟩
    rw [ef] at q
    refine s_ret st ev_bl fun v B4 H4 x4 w4 d4 => ?_
    obtain ⟨B5, x5, w5⟩ := hO v B4 H4 x4 w4
    rw [dp_bool d4, hD]
    exact q _ B5 H4 (e3.trans x5) w5 (.bl _)
  have dropO : ∀ {B3 H3 : Hp} {vs : List V}, W B3 (upd O l (.lst vs)) H3 → W B3 O H3 := fun {B3 H3 vs} w => W_drop w nl
  refine q_while st (fun m B' O' G' => ∃ (stk : List (PyData × Nat)) (many : Nat) (vs : List V) (g3 g4 : SD), O' = upd O l (.lst vs) ∧ DtAll K B' vs (stkD stk) ∧ many ≤ 60 ∧ m = 61 - many ∧ stk.length ≤ 12 * many + 1 ∧ (∀ z, z ∈ stk → 1 ≤ z.2 ∧ z.2 ≤ 9) ∧
      ((PD.okB 8 t = true ∧ PD.npart 8 t ≤ 60) ↔ (stkOk stk ∧ many + stkN stk ≤ 60)) ∧ G' = [.dat t, .val (.ref l), .dat (.int (many : Int)), g3, g4, .un, .un]) 61 ⟨[(t, 1)], 0, vs, _, _, rfl, dps_ex x2 _ _ dv, by omega, rfl, by simp, by simp, ?_, rfl⟩ ?_
  · constructor
    · rintro ⟨h1, h2⟩
      refine ⟨fun z hz => ?_, ?_⟩
      · have : z = (t, 1) := by simpa using hz
        subst this
        exact h1
      · show 0 + ([PD.npart 8 t].sum) ≤ 60
        simp
        exact h2
    · rintro ⟨h1, h2⟩
      refine ⟨h1 (t, 1) (by simp), ?_⟩
      have h3 : 0 + ([PD.npart 8 t].sum) ≤ 60 := h2
      simpa using h3
  · rintro m B3 O3 G3 σ3 H3 x3 ⟨stk, many, vs3, g3, g4, rfl, dv3, hm, hmm, hlen, hdeep, hiff, rfl⟩ st
    have hvl := dps_len dv3
    have hsl : (stkD stk).length = stk.length := by unfold stkD; rw [List.length_map]
    rcases List.eq_nil_or_concat stk with rfl | ⟨init, last, rfl⟩
    · have hv0 : vs3 = [] := List.eq_nil_of_length_eq_zero (by rw [hvl, hsl]; rfl)
      subst hv0
      refine ⟨false, et_listO rfl upd_same rfl, fun z => Bool.noConfusion z, fun _ B4 H4 x4 st => ?_⟩
      obtain ⟨ho, hn60⟩ := hiff.mpr ⟨(fun z hz => by cases hz), by show many + 0 ≤ 60; omega⟩
      have hl := PD.subs_len (h := 8) (d := t)
      have xx := (((x1.trans x2).trans x3).trans x4)
      have ei : PD.isPart t = (decide (PD.counted 8 t ≤ 1000) && (PD.subsD 8 t).all fun q => PD.suits 8 q.2) := by
        unfold PD.isPart
        rw [ho, decide_eq_true hn60, Bool.true_and, Bool.true_and]
      rw [ei] at q
      refine q_when st (b := decide ((1000 : Int) < PD.counted 8 t)) (et_test (ev_op (ev_call (ea_cons (ev_var rfl) ea_nil) ⟨t, ho, rfl, rfl⟩) ev_int rd_B0)) (fun h5 B5 H5 x5 st => ?_) (fun h5 B5 H5 x5 st => ?_)
      · have h6 := of_decide_eq_true h5
        rw [decide_eq_false (by omega), Bool.false_and] at q
        exact s_ret st ev_bl fun v B6 H6 x6 w6 d6 => q v B6 H6 ((xx.trans x5).trans x6) (dropO w6) d6
      · have h6 := of_decide_eq_false h5
        rw [decide_eq_true (by omega), Bool.true_and] at q
        refine s_ret st (ev_cb (ea_cons (ev_is (ev_map (PD.subsD 8 t) PD.encQ (fun q => .bool (PD.suits 8 q.2)) (fun q => [.dat t, .val (.ref l), .dat (.int (many : Int)), .dat q.2, g4, .un, .dat (PD.encP q.1)]) (ei_list (el_call (ea_cons (ev_var rfl) ea_nil) ⟨t, ho, hn, rfl, rfl⟩).d) (by omega)
          (fun q _ => eg_pairW (by decide) (by decide)) (fun q hq => ?_)) (show PyData.list ((PD.subsD 8 t).map (fun q => PyData.bool (PD.suits 8 q.2))) = .list (((PD.subsD 8 t).map fun q => PD.suits 8 q.2).map PyData.bool) by rw [List.map_map]; rfl)) ea_nil) rc_all) fun v B6 H6 x6 w6 d6 => ?_
        · obtain ⟨o2, n2⟩ := PD.sub_ok ho hq
          exact ev_call (ea_cons (ev_var rfl) ea_nil) ⟨q.2, PD.ok_up o2, by rw [PD.npart_up o2]; omega, rfl, rfl⟩
        · refine q v B6 H6 ((xx.trans x5).trans x6) (dropO w6) ?_
          rw [List.all_map] at d6
          exact d6
    · have hv1 : (!vs3.isEmpty) = true := by
        cases vs3 with
        | nil => rw [hsl] at hvl; simp at hvl
        | cons => rfl
      refine ⟨true, et_listO rfl upd_same hv1, fun _ B4 H4 x4 st N hN => ?_, fun z => Bool.noConfusion z⟩
      obtain ⟨x, n⟩ := last
      have hdl : DtAll K B4 vs3 (stkD init ++ [.tuple [x, .int (n : Int)]]) := by
        have := dps_ex x4 _ _ dv3
        unfold stkD at this ⊢
        rw [List.concat_eq_append, List.map_append] at this
        exact this
      have hn9 : 1 ≤ n ∧ n ≤ 9 := hdeep (x, n) (by simp)
      have hsum : stkN (init.concat (x, n)) = stkN init + PD.npart (9 - n) x := by
        unfold stkN
        rw [List.concat_eq_append, List.map_append, sum_app]
        simp
      have hokc : stkOk (init.concat (x, n)) ↔ stkOk init ∧ PD.okB (9 - n) x = true := by
        unfold stkOk
        constructor
        · intro h
          exact ⟨fun z hz => h z (by rw [List.concat_eq_append]; exact List.mem_append_left _ hz), h (x, n) (by simp)⟩
        · rintro ⟨h1, h2⟩ z hz
          rw [List.concat_eq_append] at hz
          rcases List.mem_append.mp hz with hz | hz
          · exact h1 z hz
          · have : z = (x, n) := by simpa using hz
            subst this
            exact h2
      rw [hsum, hokc] at hiff
      have hp1 := PD.npart_pos (h := 9 - n) (d := x)
      have xx := (((x1.trans x2).trans x3).trans x4)
      refine q_popT st rfl upd_same hdl fun vs5 σ5 H5 dv5 st => ?_
      rw [upd_upd] at st
      refine q_asg st (ev_is (ev_op (ev_var rfl) ev_int rd_I0) (show PyData.int ((many : Int) + 1) = .int (((many + 1 : Nat) : Int)) from congrArg PyData.int (by omega))) fun v6 B6 H6 x6 d6 st => ?_
      have hO : ∀ {B7 : Hp} {vs7 : List V}, (∀ (v : V) (B' H' : Hp), Ex B7 B' → W B' (upd O l (.lst vs7)) H' → ∃ B4, Ex B7 B4 ∧ W B4 O H') := fun {B7 vs7} v B' H' e w => ⟨B', e, dropO w⟩
      refine q_when st (et_or (a := decide ((60 : Int) < ((many + 1 : Nat) : Int))) (b := decide ((8 : Int) < (n : Int)) || !PD.hasForm x) (et_test (ev_op (ev_var rfl) ev_int rd_B0)) fun _ => et_or (et_test (ev_op (ev_var rfl) ev_int rd_B0)) fun _ => et_not (et_test (ev_call (ea_cons (ev_var rfl) ea_nil) ⟨x, rfl, rfl⟩))) (fun h7 B7 H7 x7 st => ?_) (fun h7 B7 H7 x7 st => ?_)
      · refine no rfl ?_ ((xx.trans x6).trans x7) hO st
        rw [hiff]
        rintro ⟨⟨_, z2⟩, z3⟩
        have hf : PD.hasForm x = true := by
          cases hh : 9 - n with
          | zero => rw [hh] at z2; exact Bool.noConfusion z2
          | succ h => rw [hh] at z2; exact (PD.ok_succ z2).1
        have hn8 : n ≤ 8 := by
          rcases Nat.lt_or_ge n 9 with h | h
          · omega
          · rw [show 9 - n = 0 by omega] at z2
            exact Bool.noConfusion z2
        rw [decide_eq_false (show ¬ (60 : Int) < ((many + 1 : Nat) : Int) by omega), decide_eq_false (show ¬ (8 : Int) < (n : Int) by omega), hf] at h7
        cases h7
      · rw [Bool.or_eq_false_iff, Bool.or_eq_false_iff] at h7
        have h8 := of_decide_eq_false h7.1
        have h9 := of_decide_eq_false h7.2.1
        have hf : PD.hasForm x = true := by simpa using h7.2.2
        have hk := (PD.form_of hf).kids
        have hvl5 := dps_len dv5
        have hsl5 : (stkD init).length = init.length := by unfold stkD; rw [List.length_map]
        have hlen' : init.length + 1 ≤ 12 * many + 1 := by simpa using hlen
        obtain ⟨h, hh⟩ : ∃ h, 9 - n = h + 1 := ⟨8 - n, by omega⟩
        rw [hh] at hiff
        have hh2 : 9 - (n + 1) = h := by omega
        refine q_extend st rfl upd_same (ds := (PD.partsOf x).map fun c => .tuple [c, .int (((n + 1 : Nat)) : Int)]) (by rw [List.length_map]; omega) (ev_map (PD.partsOf x) id (fun c => .tuple [c, .int (((n + 1 : Nat)) : Int)]) (fun c => [.dat t, .val (.ref l), .dat (.int ((many + 1 : Nat) : Int)), .dat x, .dat (.int (n : Int)), .dat c, .un]) (ei_list (by rw [List.map_id]; exact (el_call (ea_cons (ev_var rfl) ea_nil) ⟨x, hf, rfl, rfl⟩).d)) (by omega) (fun c _ => eg_nameW (by decide))
          (fun c _ => ev_tup (ea_cons (ev_var rfl) (ea_cons (ev_is (ev_op (ev_var rfl) ev_int rd_I0) (congrArg PyData.int (by omega))) ea_nil)) (by simp))) fun ws B8 H8 x8 dw st => ?_
        rw [upd_upd] at st
        refine hN (61 - (many + 1)) B8 _ _ _ _ (by omega) ((x6.trans x7).trans x8) ⟨init ++ (PD.partsOf x).map fun c => (c, n + 1), many + 1, vs5 ++ ws, _, _, rfl, ?_, by omega, rfl, ?_, ?_, ?_, rfl⟩ st
        · unfold stkD at dv5 ⊢
          rw [List.map_append]
          refine dps_app (dps_ex ((x6.trans x7).trans x8) _ _ dv5) ?_
          rw [List.map_map]
          exact dw
        · rw [List.length_append, List.length_map]
          omega
        · intro z hz
          rcases List.mem_append.mp hz with hz | hz
          · exact hdeep z (by rw [List.concat_eq_append]; exact List.mem_append_left _ hz)
          · obtain ⟨c, _, rfl⟩ := List.mem_map.mp hz
            show 1 ≤ n + 1 ∧ n + 1 ≤ 9
            omega
        · rw [hiff]
          have hsn : stkN (init ++ (PD.partsOf x).map fun c => (c, n + 1)) = stkN init + ((PD.partsOf x).map (PD.npart h)).sum := by
            unfold stkN
            rw [List.map_append, sum_app, List.map_map]
            congr 2
            refine List.map_congr_left fun c _ => ?_
            show PD.npart (9 - (n + 1)) c = _
            rw [hh2]
          have hpn : PD.npart (h + 1) x = 1 + ((PD.partsOf x).map (PD.npart h)).sum := rfl
          rw [hsn, hpn]
          constructor
          · rintro ⟨⟨z1, z2⟩, z3⟩
            refine ⟨fun z hz => ?_, by omega⟩
            rcases List.mem_append.mp hz with hz | hz
            · exact z1 z hz
            · obtain ⟨c, hc, rfl⟩ := List.mem_map.mp hz
              show PD.okB (9 - (n + 1)) c = true
              rw [hh2]
              exact (PD.ok_succ z2).2 c hc
          · rintro ⟨z1, z3⟩
            refine ⟨⟨fun z hz => z1 z (List.mem_append_left _ hz), PD.ok_of_fwrong' hf fun c hc => ?_⟩, by omega⟩
            have := z1 (c, n + 1) (List.mem_append_right _ (List.mem_map.mpr ⟨c, hc, rfl⟩))
            have this' : PD.okB (9 - (n + 1)) c = true := this
            rw [hh2] at this'
            exact this'
end
end Toy

set_option Elab.async false
set_option linter.all false
set_option maxRecDepth 100000
set_option maxHeartbeats 2000000
/-! Instances: owned while they are made, standing still afterwards. -/
namespace DL
open PySem PySem.Spec PyProof.Rows L2 StX
section
variable {K : PySem.W.Frag} {B B' O : Hp} {G : List SD} {σ : L2.St} {H : Hp} {te ta tb : TE} {tz : TS} {D : Ends} {d : PyData} {i : Nat} {x dx C : Addr} {fs : List (Str × V)} {f : Str} {v : V}
/-- self.f = e, self owned -/
theorem s_fld (c : Cls K C) (n : NoAttr K C f) (s : Sta K B O G σ H) (hg : G[i]? = some (.val (.ref x))) (ho : O x = some (.ins C dx fs)) (hl : fs.length < 1000) (h : EvD K B O G te d)
    (k : ∀ v B' H', Ex B B' → Dt K B' v d → Sta K B' (upd O x (.ins C dx (putF f v fs))) G σ H' → D.nx σ H') : sFld K (tVar i) te f D σ H := by
  refine h B O σ H (Ex.refl _) (Ex.refl _) s _ fun v B' H' e w dv => ?_
  obtain ⟨sv, h1, h2⟩ := s.s.get hg
  have h3 : sv = some (.ref x) := h2
  subst h3
  exact ⟨_, h1, x, C, dx, fs, rfl, w.o _ _ ho, c, n, hl, k v B' _ e dv ⟨w.mut ho, s.s.ex e⟩⟩
theorem q_fld (c : Cls K C) (n : NoAttr K C f) (s : Sta K B O G σ H) (hg : G[i]? = some (.val (.ref x))) (ho : O x = some (.ins C dx fs)) (hl : fs.length < 1000) (h : EvD K B O G te d)
    (k : ∀ v B' H', Ex B B' → Dt K B' v d → Sta K B' (upd O x (.ins C dx (putF f v fs))) G σ H' → tz D σ H') : tSeq (sFld K (tVar i) te f) tz D σ H := s_fld (D := { D with nx := tz D }) c n s hg ho hl h k
/-- self.f, self owned -/
theorem ev_fldO (c : Cls K C) (n : NoAttr K C f) (hg : G[i]? = some (.val (.ref x))) (ho : O x = some (.ins C dx fs)) (hf : fs.lookup f = some v) (hd : Dt K B v d) : EvD K B O G (tFld K (tVar i) f) d := fun B1 O1 σ H e o s Q q => by
  obtain ⟨sv, h1, h2⟩ := s.s.get hg
  have h3 : sv = some (.ref x) := h2
  subst h3
  exact ⟨_, h1, x, C, dx, fs, v, rfl, s.w.o _ _ (o _ _ ho), c, n, hf, q v B1 H (Ex.refl _) s.w (dp_ex e _ _ hd)⟩
/-- e.f, e a value of which B says that it is an instance with that field -/
theorem ev_fld {P : Hp → V → Prop} (c : Cls K C) (n : NoAttr K C f) (h : EvP K B O G te P) (hp : ∀ B1 v, Ex B B1 → P B1 v → ∃ x dx fs u, v = .ref x ∧ B1 x = some (.ins C dx fs) ∧ fs.lookup f = some u ∧ Dt K B1 u d) : EvD K B O G (tFld K te f) d := fun B1 O1 σ H e o s Q q =>
  h B1 O1 σ H e o s _ fun v B2 H2 e2 w2 p => by
    obtain ⟨x, dx, fs, u, rfl, h1, h2, h3⟩ := hp B2 v (e.trans e2) p
    exact ⟨x, C, dx, fs, u, rfl, w2.b _ _ h1, c, n, h2, q u B2 H2 e2 w2 h3⟩
theorem evP_var {P : Hp → V → Prop} (hg : G[i]? = some (.val v)) (hp : ∀ B1, Ex B B1 → P B1 v) : EvP K B O G (tVar i) P := fun B1 O1 σ H e o s Q q => by
  obtain ⟨sv, h1, h2⟩ := s.s.get hg
  have h3 : sv = some v := h2
  subst h3
  exact ⟨_, h1, q v B1 H (Ex.refl _) s.w (hp B1 e)⟩
theorem EvP.ex {P : Hp → V → Prop} (h : EvP K B O G te P) (e : Ex B B') : EvP K B' O G te P := fun B1 O1 σ H e1 o s Q q => h B1 O1 σ H (e.trans e1) o s Q q
end
/-- a set of lengths as it is kept -/
structure LS where
  period : Nat
  cycle : List Bool
  start : Nat
  marks : List Bool
abbrev blist (bs : List Bool) : List PyData := bs.map .bool
/-- v is an instance of the class at C that keeps L -/
def IsLS (K : PySem.W.Frag) (C : Addr) (L : LS) (B : Hp) (v : V) : Prop := ∃ x dx fs cv mv, v = .ref x ∧ B x = some (.ins C dx fs) ∧ fs.lookup ("period" : Str) = some (.int L.period) ∧ fs.lookup ("cycle" : Str) = some cv ∧ Dt K B cv (.tuple (blist L.cycle)) ∧
  fs.lookup ("start" : Str) = some (.int L.start) ∧ fs.lookup ("marks" : Str) = some mv ∧ Dt K B mv (.tuple (blist L.marks))
theorem IsLS.ex {K : PySem.W.Frag} {C : Addr} {L : LS} {B B' : Hp} {v : V} (h : IsLS K C L B v) (e : Ex B B') : IsLS K C L B' v := by
  obtain ⟨x, dx, fs, cv, mv, h1, h2, h3, h4, h5, h6, h7, h8⟩ := h
  exact ⟨x, dx, fs, cv, mv, h1, e _ _ h2, h3, h4, dp_ex e _ _ h5, h6, h7, dp_ex e _ _ h8⟩
end DL

set_option Elab.async false
set_option linter.all false
set_option maxRecDepth 100000
set_option maxHeartbeats 2000000
/-! Several except clauses that all bind the same name; isinstance of such an error that has fields. -/
namespace L2
open PySem PySem.Spec PyProof.Rows
/-- behind a suite the name's slot is empty again -/
abbrev Ends.gone (D : Ends) (i : Nat) : Ends := ⟨fun σ H => D.nx (σ.set i none) H, D.rt, fun σ H => D.bk (σ.set i none) H, fun σ H => D.ct (σ.set i none) H⟩
/-- the wish of the clauses, from the first on -/
def wAll (K : PySem.W.Frag) (i : Nat) (Wout : WX) (D : Ends) : List (Value × (Addr → Value → Option Addr → TS)) → WX
  | [] => Wout
  | cl :: more => fun cls d σ H => ∃ hit, PySem.W.exmOne K cls cl.1 = some hit ∧ (hit = true → ∀ a, H a = none → cl.2 a cls d (D.gone i) (σ.set i (some (.ref a))) H) ∧ (hit = false → wAll K i Wout D more cls d σ H)
/-- clauses: except x as n, n in every one -/
inductive Clauses (X : Cx) (n : Str) : List ExceptHandler → List (Value × (Addr → Value → Option Addr → TS)) → Prop
  | none : Clauses X n [] []
  | more {x : Str} {c : Value} {ts : Addr → Value → Option Addr → TS} {first : Stmt} {rest : List Stmt} {p q : Pos} {hs : List ExceptHandler} {l : List (Value × (Addr → Value → Option Addr → TS))} (names : Names X x c)
      (suite : ∀ (a : Addr) (oe : Obj) (cls : Value) (d : Option Addr) (pn : List (Addr × Obj)), Zc cls d oe → (∃ vs, oe.data = .fields vs) → PSs (X.suite a ((a, oe) :: pn)) (first :: rest) (ts a cls d)) (tail : Clauses X n hs l) :
      Clauses X n (.ExceptHandler (some (.Name x p)) (some n) (first :: rest) q :: hs) ((c, ts) :: l)
section
variable {X : Cx} {n : Str} {i : Nat} {body : List Stmt} {h₀ : ExceptHandler} {hds : List ExceptHandler} {l : List (Value × (Addr → Value → Option Addr → TS))} {pos : Pos} {tb : WX → TS} {Wout : WX}
/-- where an exception at a has landed in the running body -/
structure Landed (X : Cx) (pins : List (Addr × Obj)) (σ : St) (H : Hp) (B : Heap) (a : Addr) (cls : Value) (d : Option Addr) (sI s : Shared) (h : Heap) : Prop where
  J : Inv X pins σ H sI
  nb : ∀ b o, sI.heap.get? b = some o → b ∉ frs X.stack → B.get? b = some o
  up : sI.heap.UpToSlots h
  fl : HandSPX.FlyingZ B (X.env :: X.outer) a (Zc cls d) h
  na : H a = none
  os : s.os = sI.os
  ag : AllBare s.gens
  nL : a ≠ X.env.locals
  nF : a ∉ X.fs
theorem Landed.inv {pins : List (Addr × Obj)} {σ : St} {H : Hp} {B : Heap} {a : Addr} {cls : Value} {d : Option Addr} {sI s : Shared} {h : Heap} (L : Landed X pins σ H B a cls d sI s h) : Inv X pins σ H { s with heap := h } := L.J.landed L.nb L.fl.1 L.up L.os L.ag
theorem Landed.step {pins : List (Addr × Obj)} {σ : St} {H : Hp} {B : Heap} {a : Addr} {cls : Value} {d : Option Addr} {sI s : Shared} {h h' : Heap} (L : Landed X pins σ H B a cls d sI s h) (f : HandSPX.FlyingZ B (X.env :: X.outer) a (Zc cls d) h') (u : h.UpToSlots h') : Landed X pins σ H B a cls d sI s h' :=
  { J := L.J, nb := L.nb, up := L.up.trans u, fl := f, na := L.na, os := L.os, ag := L.ag, nL := L.nL, nF := L.nF }
/-- no clause is left: the exception goes on -/
theorem none_left {pins : List (Addr × Obj)} {σ : St} {H : Hp} {B : Heap} {a : Addr} {cls : Value} {d : Option Addr} {sI s : Shared} {h : Heap} {Q : Flow → Shared → Prop} (hs : X.stack = X.env :: X.outer) (hf : X.env.frame = some X.env.locals) (tk : Takes X Wout) (L : Landed X pins σ H B a cls d sI s h) (w : Wout cls d σ H) :
    wpAny (model X.prog X.w) X.A (handleBy (.ref a) X.env []) Q X.xe { s with heap := h } := by
  obtain ⟨_, _, _, oe, vs, T, oT, _, heap_a, _, dat, fld, _⟩ := id L.fl
  have thrown : wpAny (model X.prog X.w) X.A (setFlight (.ref a) X.env.frame) (fun _ s4 => wpAny (model X.prog X.w) X.A (throw (.ref a) : Sem Flow) Q X.xe s4) X.xe { s with heap := h } := by
    rw [hf]
    exact HandSPX.setFlight_upZ L.fl fun h4 held u4 => wpAny_throw (tk _ _ ⟨a, B, sI, pins, σ, H, cls, d, rfl, L.J, L.nb, L.up.trans u4, .inr (.inr (by rw [hs]; exact held)), L.na, L.os, L.ag, w⟩)
  refine wpAny_handleBy_nil ?_
  unfold PySem.passOn
  refine wpAny_bind (wpAny_field heap_a dat fld ?_)
  rw [if_neg (by simp : ¬ ((Value.ref T == Value.none) = true))]
  first | exact wpAny_bind thrown | exact wpAny_bind (wpAny_pure (wpAny_bind thrown))
/-- the clauses, one after the other -/
theorem by_clauses {pins : List (Addr × Obj)} {σ : St} {H : Hp} {B : Heap} {a : Addr} {cls : Value} {d : Option Addr} {sI s : Shared} {h : Heap} {D : Ends} (ok : X.Ok) (hs : X.stack = X.env :: X.outer) (hf : X.env.frame = some X.env.locals) (hN : X.N.Nodup) (hi : X.N[i]? = some n) (hln : X.env.kindOf n = some .local) (tk : Takes X Wout)
    (L : Landed X pins σ H B a cls d sI s h) (cs : Clauses X n hds l) (w : wAll X.K i Wout D l cls d σ H) : wpAny (model X.prog X.w) X.A (handleBy (.ref a) X.env hds) (SP X pins D) X.xe { s with heap := h } := by
  induction cs with
  | none => exact none_left hs hf tk L w
  | @more x c ts first rest p q hs2 l2 names suite tail ih =>
    obtain ⟨hit, isit, yes, no⟩ := w
    obtain ⟨oe, vs, there, zc, dat⟩ := L.fl.there
    have SU := L.inv.suite there dat L.na L.nL L.nF
    have known := PySem.W.exm_one (M := model X.prog X.w) L.inv.kIn (fun A Q E s k q => wpAny_typeOf_ref (k _ _ there) (by rw [zc.1]; exact q)) isit
    refine wpAny_handleBy_cons (codeAny_handlers_test ?_) (fun z => by cases z)
    have name : ∀ {Q : Value → Shared → Prop} {E : Value → Shared → Prop}, Q c { s with heap := h } → wpAny (model X.prog X.w) (X.A.mark (some (.ref a))) (eval (.Name x p) X.env) Q E { s with heap := h } := by
      intro Q E fine
      obtain ⟨g, dbg, m⟩ := names
      rcases m with m | ⟨m, b, nn⟩
      · exact ld_glob (X := X.suite a ((a, oe) :: (X.pn ++ pins))) SU g m fine dbg
      · exact ld_blt (X := X.suite a ((a, oe) :: (X.pn ++ pins))) SU g m b fine nn dbg
    refine name (known.here ?_)
    cases hit with
    | false => exact ih (no rfl)
    | true =>
      refine codeAny_handlers_suite_as (HandSPX.lands_againZ L.fl fun h2 fl2 up2 => ?_)
      have L2' := L.step fl2 up2
      obtain ⟨oe2, vs2, there2, zc2, dat2⟩ := fl2.there
      have SU2 := L2'.inv.suite there2 dat2 L.na L.nL L.nF
      refine store_ok (X := X.suite a ((a, oe2) :: (X.pn ++ pins))) (v := .ref a) SU2 hN hi (.inl hln) rfl (fun s5 SU5 => ?_) (.inr hln)
      refine wpAny_mono ((suite a oe2 cls d (X.pn ++ pins) zc2 ⟨_, dat2⟩).run [] s5 _ H (D.gone i) SU5 (yes rfl a L.na)) (fun f s6 done => ?_) (fun _ _ z => z.elim)
      have unbound : ∀ {σ6 : St} {H6 : Hp} {Q : Shared → Prop}, Inv (X.suite a ((a, oe2) :: (X.pn ++ pins))) [] σ6 H6 s6 → (∀ s7, Inv X pins (σ6.set i none) H6 s7 → Q s7) → wpAny (model X.prog X.w) X.A (do bindName X.env n .none; unbindBehindTheSuite X.env n q) (fun _ s7 => Q s7) X.xe s6 :=
        fun {σ6 H6 Q} S6 k => gone_ok (S6.unsuite ok) hN hi hln k
      cases f with
      | ret u =>
        obtain ⟨v6, σ6, H6, S6, r6, q6⟩ := done
        exact unbound S6 fun s7 J7 => ⟨v6, _, H6, J7, r6, q6⟩
      | next =>
        obtain ⟨σ6, H6, S6, q6⟩ := done
        exact unbound S6 fun s7 J7 => ⟨_, H6, J7, q6⟩
      | brk =>
        obtain ⟨σ6, H6, S6, q6⟩ := done
        exact unbound S6 fun s7 J7 => ⟨_, H6, J7, q6⟩
      | cont =>
        obtain ⟨σ6, H6, S6, q6⟩ := done
        exact unbound S6 fun s7 J7 => ⟨_, H6, J7, q6⟩
/-- try: body, except x as n: .., except y as n: .. -/
theorem ps_try_all (hs : X.stack = X.env :: X.outer) (hf : X.env.frame = some X.env.locals) (hN : X.N.Nodup) (hi : X.N[i]? = some n) (hln : X.env.kindOf n = some .local) (tk : Takes X Wout)
    (hb : ∀ (W : WX) (pn : List (Addr × Obj)) (xe : Value → Shared → Prop), Takes (X.tr pn xe) W → PassesOwn (model X.prog X.w) X.A X.env xe → PSs (X.tr pn xe) body (tb W))
    (cs : Clauses X n (h₀ :: hds) l) : PS X (.Try body (h₀ :: hds) [] [] pos) (fun D σ H => tb (wAll X.K i Wout D l) D σ H) := by
  refine ⟨fun pins s σ H D I want => wpAny_Try_except ?_⟩
  have ok := I.ok
  have frames : X.A.frames = some (X.env :: X.outer) := by rw [ok.frames, hs]
  have B0 := hb (wAll X.K i Wout D l) (X.pn ++ pins) (fun e s₁ => wpAny (model X.prog X.w) X.A (noteFrame e X.env) (fun _ s₂ => wpAny (model X.prog X.w) X.A (setFlight e none) (fun _ s₃ => wpAny (model X.prog X.w) X.A (handleBy e X.env (h₀ :: hds)) (SP X pins D) X.xe s₃) X.xe s₂) X.xe s₁)
    (by
      rintro u s' ⟨a, B, sI, pins', σ', H', cls, d, rfl, J', nb, up, sky, na, os, ag, w⟩
      have J : Inv X pins σ' H' sI := J'.ofTry ok
      rw [show X.stack = X.env :: X.outer from hs] at sky
      refine Sky.land Zc.steady frames hf sky fun h3 fl3 up3 => ?_
      obtain ⟨oe, vs, there, _, dat⟩ := fl3.there
      have off : a ∉ frs (X.env :: X.outer) := fun z => by
        obtain ⟨_, o, e, bad⟩ := fl3.2.2.1.mem z
        rw [there] at e
        cases e
        exact bad _ dat
      refine by_clauses ok hs hf hN hi hln tk ⟨J, nb, up.trans up3, fl3, na, os, ag, fun z => off (List.mem_filterMap.mpr ⟨X.env, List.mem_cons_self, by rw [hf, z]⟩), fun z => ?_⟩ cs w
      obtain ⟨e, he, q⟩ := List.mem_filterMap.mp z
      exact off (List.mem_filterMap.mpr ⟨e, List.mem_cons_of_mem _ he, q⟩))
    PassesOwn.looking
  refine wpAny_mono (B0.run [] s σ H D (I.toTry _) want) (fun f s1 done => ?_) (fun _ _ z => z)
  cases f with
  | ret u =>
    obtain ⟨v, σ1, H1, J1, r1, q1⟩ := done
    exact ⟨v, σ1, H1, J1.ofTry ok, r1, q1⟩
  | next =>
    obtain ⟨σ1, H1, J1, q1⟩ := done
    exact wpAny_execs_nil ⟨σ1, H1, J1.ofTry ok, q1⟩
  | brk =>
    obtain ⟨σ1, H1, J1, q1⟩ := done
    exact ⟨σ1, H1, J1.ofTry ok, q1⟩
  | cont =>
    obtain ⟨σ1, H1, J1, q1⟩ := done
    exact ⟨σ1, H1, J1.ofTry ok, q1⟩
end
end L2

set_option Elab.async false
set_option linter.all false
set_option maxRecDepth 100000
set_option maxHeartbeats 2000000
/-! isinstance of a caught error of the text that has fields. -/
namespace L2
open PySem PySem.Spec PyProof.Rows
/-- isinstance(e, c), e the exception (its class cls, its dict d) that the suite holds -/
def rIsX (K : PySem.W.Frag) (D a : Addr) (cls : Value) (d : Option Addr) : List V → Hp → VK → Prop := fun xs H Q => ∃ (c : V) (cv : Value) (b : Bool) (dd : Addr) (fs : List (Str × V)), xs = [.ref a, c] ∧ cls = .ref D ∧ d = some dd ∧ (∀ u, RelV c u → u = cv) ∧ PySem.W.kitOne K (.ref D) cv = some b ∧ H dd = some (.xd fs) ∧ Q (.bl b) H
theorem call_isX {X : Cx} {a D : Addr} {cls : Value} {d : Option Addr} {oe : Obj} {pn : List (Addr × Obj)} (C : ExcC X.K D) (hz : Zc cls d oe) (hf : ∃ vs, oe.data = .fields vs) : CallR (X.suite a ((a, oe) :: pn)) (.builtin "isinstance") (rIsX X.K D a cls d) := by
  intro pins s σ H xs us Q I r h
  obtain ⟨c, cv, b, dd, fs, rfl, ec, ed, hcv, e, hd, q⟩ := h
  subst ec ed
  obtain ⟨u1, u2, rfl, r1, r2⟩ := vals2 r
  cases (show u1 = Value.ref a from r1)
  have e2 := hcv _ r2
  subst e2
  obtain ⟨there, _⟩ := I.pin (a, oe) (List.mem_append_left _ List.mem_cons_self)
  obtain ⟨vs, dat⟩ := hf
  obtain ⟨mA, hns, _⟩ := (show ObjOk X.prog X.w H s.heap dd (.xd fs) from I.hok dd _ hd)
  obtain ⟨od, ho, _⟩ := lookIn_ns hns
  have J : PySem.W.InstAt s.heap a oe D (some od) := ⟨there, hz.1, by unfold PySem.W.notCls; rw [dat] <;> rfl, by rw [hz.2]; exact ho⟩
  have hc : (PySem.W.clsIn X.K D).isSome = true := by
    obtain ⟨cd, hc, _⟩ := PySem.W.any_some C.hd
    rw [hc]
    rfl
  exact PySem.W.kia_one (PySem.W.kitx_exc (od := some od) hc C.hg C.hk C.hs C.ha C.hn C.ht C.hm) I.kIn J e (fun z => nomatch z) fun tk => ⟨.bl b, H, I.kept (t' := tk) fun _ _ z => z, rfl, q⟩
end L2

set_option Elab.async false
set_option linter.all false
set_option maxRecDepth 100000
set_option maxHeartbeats 4000000
namespace Toy
open PySem PySem.Spec PyProof.Rows L2 StX DL
def clsS (i j : Nat) : Stmt := match topS i with
  | .ClassDef _ _ _ body _ _ _ _ _ _ _ => body.getD j (.Pass ⟨0, 0, 0, 0⟩)
  | _ => .Pass ⟨0, 0, 0, 0⟩

abbrev s_Study_init : Stmt := clsS 52 0
abbrev N_sc_Study_init : List Str := ["self", "part"]
theorem sc_Study_init : FnScope N_sc_Study_init ["self", "part"] (defScope s_Study_init) := ⟨rfl, rfl, rfl, by decide +kernel, rfl, by decide +kernel, by decide +kernel⟩
abbrev s_Reader_init : Stmt := clsS 74 0
abbrev N_sc_Reader_init : List Str := ["self", "part"]
theorem sc_Reader_init : FnScope N_sc_Reader_init ["self", "part"] (defScope s_Reader_init) := ⟨rfl, rfl, rfl, by decide +kernel, rfl, by decide +kernel, by decide +kernel⟩
theorem pe_fldK (K : PySem.W.Frag) {X : Cx} {e : Expr} {f : Str} {pos : Pos} {ta : TE} (he : PE X e ta) (hb : attributeBase e f X.env (eval e X.env) = eval e X.env) (h : X.K = K := by rfl) : PE X (.Attribute e f pos) (tFld K ta f) := h ▸ pe_fld he hb
theorem ps_fldK (K : PySem.W.Frag) {X : Cx} {o value : Expr} {f : Str} {pos pos' : Pos} {ta tv : TE} (ha : PE X o ta) (hv : PE X value tv) (hs : swapsWith value (some (.Attribute o f pos')) pos.line X.env = pure false) (h : X.K = K := by rfl) : PS X (.Assign [.Attribute o f pos'] value pos) (sFld K ta tv f) := h ▸ ps_fld ha hv hs
theorem passN {X : Cx} {W : WX} {m : Nat} (tk : Takes X W) (hm : X.N.length = m) : Passes (L2.CX X.prog X.w) X (fun cls d H => ∀ σ' : L2.St, σ'.length = m → W cls d σ' H) := fun _ σ _ _ e s' I c => tk e s' (XE.of_call I (fun _ _ _ h => h σ (I.len.trans hm)) c)

theorem W_grow {B O H : Hp} {p : Addr} {u : HO} (w : W B O H) (h : H p = none) : W B O (upd H p u) := ⟨fun a o e => by rw [upd_ne (ne_of_none (w.b a o e) h)]; exact w.b a o e, fun a o e => by rw [upd_ne (ne_of_none (w.o a o e) h)]; exact w.o a o e, w.d⟩
theorem W_less {B O O' H : Hp} (w : W B O H) (e : Ex O' O) : W B O' H := ⟨w.b, fun a o h => w.o a o (e a o h), fun a => by
  rcases w.d a with h | h
  · exact .inl h
  · exact .inr (none_of_ex e h)⟩
/-- what is owned at x stands still from now on; all else that came is let go -/
theorem W_give {B O O1 H : Hp} {x : Addr} {u : HO} (w : W B O1 H) (h : O1 x = some u) (hs : Ex O O1) (hx : O x = none) : W (upd B x u) O H := by
  refine ⟨fun a o e => ?_, fun a o e => w.o a o (hs a o e), fun a => ?_⟩
  · by_cases ha : a = x
    · subst ha
      rw [upd_same] at e
      rw [← e]
      exact w.o _ _ h
    · rw [upd_ne ha] at e
      exact w.b a o e
  · by_cases ha : a = x
    · subst ha
      exact .inr hx
    · rw [upd_ne ha]
      rcases w.d a with h | h
      · exact .inl h
      · exact .inr (none_of_ex hs h)
section
variable {K : PySem.W.Frag} {B O : Hp} {G : List SD} {σ : L2.St} {H : Hp} {te : TE} {D : Ends} {tz : TS} {d : PyData} {i : Nat} {x dx C : Addr} {fs : List (Str × V)} {f : Str} {v : V} {Pp : Hp → V → Prop}
/-- self.f = e, self owned -/
theorem s_fldP (c : Cls K C) (n : NoAttr K C f) (s : Sta K B O G σ H) (hg : G[i]? = some (.val (.ref x))) (ho : O x = some (.ins C dx fs)) (hl : fs.length < 1000) (h : EvP K B O G te Pp)
    (k : ∀ v B' H', Ex B B' → Pp B' v → Sta K B' (upd O x (.ins C dx (putF f v fs))) G σ H' → D.nx σ H') : sFld K (tVar i) te f D σ H := by
  refine h B O σ H (Ex.refl _) (Ex.refl _) s _ fun v B' H' e w pv => ?_
  obtain ⟨sv, h1, h2⟩ := s.s.get hg
  have h3 : sv = some (.ref x) := h2
  subst h3
  exact ⟨_, h1, x, C, dx, fs, rfl, w.o _ _ ho, c, n, hl, k v B' _ e pv ⟨w.mut ho, s.s.ex e⟩⟩
theorem q_fldP (c : Cls K C) (n : NoAttr K C f) (s : Sta K B O G σ H) (hg : G[i]? = some (.val (.ref x))) (ho : O x = some (.ins C dx fs)) (hl : fs.length < 1000) (h : EvP K B O G te Pp)
    (k : ∀ v B' H', Ex B B' → Pp B' v → Sta K B' (upd O x (.ins C dx (putF f v fs))) G σ H' → tz D σ H') : tSeq (sFld K (tVar i) te f) tz D σ H := s_fldP (D := { D with nx := tz D }) c n s hg ho hl h k
theorem evp_dat (h : EvD K B O G te d) : EvP K B O G te (fun B v => Dt K B v d) := h
theorem evp_new : EvP K B O G (fun _ H Q => ∀ d, H d = none → Q (.ref d) (upd H d (.dK []))) (fun _ _ => True) := fun B1 O1 σ H e o s Q q p hp => q _ B1 _ (Ex.refl _) (W_grow s.w hp) trivial
theorem ev_xfD {a C pp : Addr} {f : Str} (hg : G[i]? = some (.val (.ref a))) (hb : B pp = some (.xd [(f, v)])) (hv : Dt K B v d) : EvD K B O G (tXf a (.ref C) (some pp) C f (tVar i)) d := fun B1 O1 σ H e o st Q q => by
  obtain ⟨sv, h1, h2⟩ := st.s.get hg
  have h3 : sv = some (.ref a) := h2
  subst h3
  exact ⟨_, h1, rfl, rfl, pp, [(f, v)], v, rfl, st.w.b _ _ (e _ _ hb), by simp [List.lookup], q _ B1 H (Ex.refl _) st.w (dp_ex e _ _ hv)⟩
end
/-- v is a reader of the part d -/
def IsRd (K : PySem.W.Frag) (C : Addr) (d : PyData) (B : Hp) (v : V) : Prop := ∃ x dx fs pv, v = .ref x ∧ B x = some (.ins C dx fs) ∧ fs.lookup ("part" : Str) = some pv ∧ Dt K B pv d
theorem IsRd.ex {K : PySem.W.Frag} {C : Addr} {d : PyData} {B B' : Hp} {v : V} (h : IsRd K C d B v) (e : Ex B B') : IsRd K C d B' v := by
  obtain ⟨x, dx, fs, pv, h1, h2, h3, h4⟩ := h
  exact ⟨x, dx, fs, pv, h1, e _ _ h2, h3, dp_ex e _ _ h4⟩
def SpStudy (K : PySem.W.Frag) (C : Addr) : Sp := fun vs H Q _ => ∃ B O x dx v d, vs = [.ref x, v] ∧ O x = none ∧ O dx = none ∧ dx ≠ x ∧ W B (upd (upd O dx (.own x)) x (.ins C dx [])) H ∧ Dt K B v d ∧ ∀ B' H', Ex B B' → W B' O H' → Q .non H'
def RdOk (K : PySem.W.Frag) (B O : Hp) (CP CR x : Addr) (d : PyData) (Q : VK) (E : XK) : Prop := match PD.partErr d with
  | none => ∀ B' H', Ex B B' → W B' O H' → IsRd K CR d B' (.ref x) → Q .non H'
  | some p => ∀ pp v B' H', Ex B B' → W B' O H' → B' pp = some (.xd [(("path" : Str), v)]) → Dt K B' v (PD.encP p) → E (.ref CP) (some pp) H'
def SpInitRd (K : PySem.W.Frag) (CP CR : Addr) : Sp := fun vs H Q E => ∃ B O x dx v d, vs = [.ref x, v] ∧ O x = none ∧ O dx = none ∧ dx ≠ x ∧ W B (upd (upd O dx (.own x)) x (.ins CR dx [])) H ∧ Dt K B v d ∧ PD.npart 8 d ≤ 50000 ∧ RdOk K B O CP CR x d Q E
structure StC (P : Program) (w : World) (K : PySem.W.Frag) (mg : Str → Option Value) (base : Heap) (C : Addr) : Prop where
  g : mg "Study" = some (.ref C)
  made : ∃ fI fd, Mk K C fI ∧ FnOk P w K mg base CX0 4 fI fd ["self", "part"] (SpStudy K C) ∧ Binds K fd ["self", "part"] []
structure RdC (P : Program) (w : World) (K : PySem.W.Frag) (mg : Str → Option Value) (base : Heap) (CP C : Addr) : Prop where
  g : mg "Reader" = some (.ref C)
  cls : Cls K C
  nP : NoAttr K C "part"
  made : ∃ fI fd, Mk K C fI ∧ FnOk P w K mg base (L2.CX P w) 24 fI fd ["self", "part"] (SpInitRd K CP C) ∧ Binds K fd ["self", "part"] []
section
variable {P : Program} {w : World} {K : PySem.W.Frag} {mg : Str → Option Value} {base : Heap} {AD : Ads}

theorem ok_study {f C : Addr} {fd : FuncData} (T : Txt K mg AD) (cl : Cls K C) (n1 : NoAttr K C "part") (n2 : NoAttr K C "layouts") (n3 : NoAttr K C "tables") (n4 : NoAttr K C "efforts") (F : Fun K "__init__" "Study.__init__" s_Study_init f fd) : FnOk P w K mg base CX0 4 f fd ["self", "part"] (SpStudy K C) := by
  refine (F.ok (k := 3) sc_Study_init (fun vs H Q E h => ?_) (fun cdv A outer s H vs Q E hr h => ?_))
  · obtain ⟨B, O, x, dx, v, d, rfl, _⟩ := h
    rfl
  obtain ⟨B, O, x, dx, v, d, rfl, hx, hdx, hne, hw, hd, q⟩ := h
  refine ⟨_, (pss_cons (ps_fldK K (pv 0) (pv 1) (by rfl))
    (pss_cons (ps_fldK K (pv 0) pe_dnewK (by rfl))
    (pss_cons (ps_fldK K (pv 0) pe_dnewK (by rfl))
    (pss_one (ps_fldK K (pv 0) pe_dnewK (by rfl)))))), ?_⟩
  have hOO : Ex O (upd (upd O dx (.own x)) x (.ins C dx [])) := (Ex.new hdx).trans (Ex.new (by rw [upd_ne (fun z => hne z.symm)]; exact hx))
  have ox : (upd (upd O dx (.own x)) x (.ins C dx [])) x = some (.ins C dx []) := upd_same
  generalize hO : upd (upd O dx (.own x)) x (.ins C dx []) = O1 at hw hOO ox
  have st : Sta K B O1 [.val (.ref x), .dat d] (L2.start N_sc_Study_init [.ref x, v]) H := ⟨hw, ⟨rfl, ⟨_, rfl, hd⟩, trivial⟩⟩
  refine q_fldP cl n1 st rfl ox (by decide) (evp_dat (ev_var rfl)) fun v1 B1 H1 x1 d1 st => ?_
  refine q_fldP cl n2 st rfl upd_same (by have := length_putF ("part" : Str) v1 []; simp at this; omega) evp_new fun v2 B2 H2 x2 _ st => ?_
  refine q_fldP cl n3 st rfl upd_same (by have := length_putF ("part" : Str) v1 []; have := length_putF ("layouts" : Str) v2 (putF ("part" : Str) v1 []); simp at *; omega) evp_new fun v3 B3 H3 x3 _ st => ?_
  refine s_fldP cl n4 st rfl upd_same (by have := length_putF ("part" : Str) v1 []; have := length_putF ("layouts" : Str) v2 (putF ("part" : Str) v1 []); have := length_putF ("tables" : Str) v3 (putF ("layouts" : Str) v2 (putF ("part" : Str) v1 [])); simp at *; omega) evp_new fun v4 B4 H4 x4 _ st => ?_
  refine q B4 H4 (((x1.trans x2).trans x3).trans x4) (W_less st.w fun a o e => ?_)
  have ha : a ≠ x := ne_of_none e hx
  rw [upd_ne ha, upd_ne ha, upd_ne ha, upd_ne ha]
  exact hOO a o e
theorem ok_reader {f CP CS C : Addr} {fd : FuncData} (T : Txt K mg AD) (C_check_part : CalE P w K mg base 22 "check_part" ["part"] (SpD K (R_chk CP))) (St : StC P w K mg base CS) (cl : Cls K C) (n1 : NoAttr K C "part") (n2 : NoAttr K C "study") (F : Fun K "__init__" "Reader.__init__" s_Reader_init f fd) : FnOk P w K mg base (L2.CX P w) 24 f fd ["self", "part"] (SpInitRd K CP C) := by
  obtain ⟨StG, fS, fdS, StM, StF, StB⟩ := St
  refine (F.okX (k := 23) sc_Reader_init (fun vs H Q E h => ?_) (fun cdv A outer s H vs Q E hr h => ?_))
  · obtain ⟨B, O, x, dx, v, d, rfl, _⟩ := h
    rfl
  obtain ⟨B, O, x, dx, v, d, rfl, hx, hdx, hne, hw, hd, hn, q⟩ := h
  refine ⟨_, (pss_cons (ps_expr (pe_calE C_check_part hr (by omega) (by rfl) (takes_of rfl rfl rfl rfl) (pa_cons (pv 1) pa_nil)))
    (pss_cons (ps_fldK K (pv 0) (pv 1) (by rfl))
    (pss_one (ps_fldK K (pv 0) (pe_make StM StF (hr.mono (by omega)) (by rfl) StG StB .nil pass0 (pa_cons (pv 1) pa_nil)) (by rfl))))), ?_⟩
  have hOO : Ex O (upd (upd O dx (.own x)) x (.ins C dx [])) := (Ex.new hdx).trans (Ex.new (by rw [upd_ne (fun z => hne z.symm)]; exact hx))
  have ox : (upd (upd O dx (.own x)) x (.ins C dx [])) x = some (.ins C dx []) := upd_same
  generalize hO : upd (upd O dx (.own x)) x (.ins C dx []) = O1 at hw hOO ox
  have st : Sta K B O1 [.val (.ref x), .dat d] (L2.start N_sc_Reader_init [.ref x, v]) H := ⟨hw, ⟨rfl, ⟨_, rfl, hd⟩, trivial⟩⟩
  unfold RdOk at q
  refine q_callD st (o := chkOut CP d) (ea_cons (ev_var rfl) ea_nil) ⟨d, hn, rfl, rfl⟩ (fun d1 hc B1 H1 x1 st => ?_) (fun C1 f1 d1 hc pp v1 B1 H1 x1 w1 hp hv => ?_)
  · unfold chkOut at hc
    cases he : PD.partErr d with
    | some p => rw [he] at hc; cases hc
    | none =>
    rw [he] at q
    refine q_fldP cl n1 st rfl ox (by decide) (evp_dat (ev_var rfl)) fun v2 B2 H2 x2 d2 st => ?_
    have l2 := length_putF ("part" : Str) v2 []
    refine s_fldP (Pp := fun _ _ => True) cl n2 st rfl upd_same (by simp at l2; omega) ?_ fun v3 B3 H3 x3 _ st => ?_
    · intro B5 O5 σ5 H5 e5 o5 s5 Q5 q5
      refine (ev_var (G := [.val (.ref x), .dat d]) (i := 1) rfl) B5 O5 σ5 H5 (Ex.refl _) (Ex.refl _) s5 _ fun v6 B6 H6 e6 w6 d6 y dy hy hdy hyd => ?_
      have hw6 := (w6.newO (u := .own y) hdy).newO (p := y) (u := .ins CS dy []) (by rw [upd_ne (fun z => hyd z.symm)]; exact hy)
      exact ⟨B6, O5, y, dy, v6, d, rfl, w6.fo hy, w6.fo hdy, hyd, hw6, d6, fun B7 H7 e7 w7 => ⟨rfl, q5 _ B7 H7 (e6.trans e7) w7 trivial⟩⟩
    · have hb := st.w.bnone upd_same
      have xn := Ex.new (o := .ins C dx (putF ("study" : Str) v3 (putF ("part" : Str) v2 []))) hb
      refine q _ H3 (((x1.trans x2).trans x3).trans xn) (W_give st.w upd_same (fun a o e => ?_) hx) ⟨x, dx, _, v2, rfl, upd_same, ?_, dp_ex (x3.trans xn) _ _ d2⟩
      · have ha : a ≠ x := ne_of_none e hx
        rw [upd_ne ha, upd_ne ha]
        exact hOO a o e
      · rw [lookup_putF, if_neg (by decide), lookup_putF, if_pos rfl]
  · unfold chkOut at hc
    cases he : PD.partErr d with
    | none => rw [he] at hc; cases hc
    | some p =>
      rw [he] at q hc
      cases hc
      exact q pp v1 B1 H1 x1 (W_less w1 hOO) hp hv
end
end Toy

set_option Elab.async false
set_option linter.all false
set_option maxRecDepth 100000
set_option maxHeartbeats 4000000
namespace Toy
namespace G
open PySem PySem.Spec PyProof.Rows L2 StX DL PT



section
variable {K : PySem.W.Frag} {B O : Hp} {G : List SD} {i : Nat} {t : Part}
theorem ev_enc (h : G[i]? = some (.dat (enc t))) : EvD K B O G (tVar i) (.tuple (.str (word t) :: fields t)) := ev_is (ev_var h) (enc_eq t)
theorem ev_word (h : G[i]? = some (.dat (enc t))) : EvD K B O G (tOp (rIxT K) (tVar i) (tC (.int 0))) (.str (word t)) := ev_op (ev_enc h) ev_int (rd_ixT at0)
theorem et_word {x : Str} (h : G[i]? = some (.dat (enc t))) : EvT K B O G (tTest (tOp rEq (tOp (rIxT K) (tVar i) (tC (.int 0))) (tC (.str x)))) (word t == x) := et_test (ev_op (ev_word h) ev_str rd_eqStr)
end
theorem in_strs {x : Str} {ys : List Str} : inV (.str x) (ys.map V.str) = ys.any (x == ·) := by
  induction ys with
  | nil => rfl
  | cons y ys ih =>
    show ((y == x) || inV (.str x) (ys.map V.str)) = ((x == y) || ys.any (x == ·))
    rw [ih, show (y == x) = (x == y) from Bool.eq_iff_iff.mpr ⟨fun h => beq_iff_eq.mpr (eq_of_beq h).symm, fun h => beq_iff_eq.mpr (eq_of_beq h).symm⟩]

section
variable {P : Program} {w : World} {K : PySem.W.Frag} {mg : Str → Option Value} {base : Heap} {AD : Ads}


def R_kids (ds es : List PyData) : Prop := ∃ t, ok0 t ∧ ds = [enc t] ∧ es = (kids t).map enc
end

section
variable {P : Program} {w : World} {K : PySem.W.Frag} {mg : Str → Option Value} {base : Heap} {AD : Ads}


theorem ok_law_children {f : Addr} {fd : FuncData} (T : Txt K mg AD) (a : At K mg "_law_children" s_law_children ["part"] f fd) : FnOk P w K mg base CX0 2 f fd ["part"] (SpL K R_kids) := by
  refine ok_fnL a.fn sc_law_children (by rintro ds d ⟨t, _, rfl, _⟩; rfl) fun cdv A outer s H0 E hr ds d ⟨t, ho, e1, e2⟩ => ?_
  subst e1 e2
  refine ⟨_, (pss_cons (ps_if (pt_cmpR op_eq (pe_ix (ix_tupK K) (pv 0) pe_int (fun _ _ => rfl)) pe_str (nomark _)) (pss_one (ps_ret (pe_callTy (call_listK K) (by rfl) T.b_list (by decide +kernel) (pa_cons (pe_ix (ix_tupK K) (pv 0) pe_int (fun _ _ => rfl)) pa_nil)))) pss_nil)
    (pss_cons (ps_if (pt_cmpR op_eq (pe_ix (ix_tupK K) (pv 0) pe_int (fun _ _ => rfl)) pe_str (nomark _)) (pss_one (ps_ret (pe_lc (own := [("option", 1)]) (by rfl) sc_law_children.nd (pi_tupK K (pe_ix (ix_tupK K) (pv 0) pe_int (fun _ _ => rfl))) (blkOk_by (own := [("option", 1)]) (N := N_sc_law_children) (sc := defScope s_law_children) (by decide +kernel)) (fun _ _ _ _ _ => (pg_name (i := 1) sc_law_children.nd rfl (Or.inl rfl))) (fun _ _ _ _ _ => pts_nil) (fun _ _ _ _ _ => (pe_ix (ix_tupK K) (pv 1) pe_int (fun _ _ => rfl)))))) pss_nil)
    (pss_cons (ps_if (pt_cmpR (op_inK K) (pe_ix (ix_tupK K) (pv 0) pe_int (fun _ _ => rfl)) (pe_lst (pa_cons pe_str (pa_cons pe_str (pa_cons pe_str pa_nil)))) (by rfl)) (pss_one (ps_ret (pe_lst pa_nil))) pss_nil)
    (pss_one (ps_ret (pe_lst (pa_cons (pe_ix (ix_tupK K) (pv 0) (pe_un un_neg pe_int) (fun _ _ => rfl)) pa_nil))))))), fun B O σ H Q st q => ?_⟩
  refine q_when st (et_word rfl) (fun h1 B1 H1 x1 st => ?_) (fun h1 B1 H1 x1 st => ?_)
  · obtain ⟨ps, rfl⟩ := row_of ho h1
    refine s_retL st (el_listT (ev_op (ev_enc rfl) ev_int (rd_ixT at1))) fun p ws B2 H2 x2 n2 w2 d2 => ?_
    exact q p ws B2 H2 (x1.trans x2) n2 w2 d2
  refine q_when st (et_word rfl) (fun h2 B2 H2 x2 st => ?_) (fun h2 B2 H2 x2 st => ?_)
  · obtain ⟨m, os, rfl⟩ := choice_of ho h2
    refine s_retL st (el_map os (fun o => .tuple [.int o.1, enc o.2]) (fun o => enc o.2) (fun o => [.dat (enc (.choice m os)), .dat (.tuple [.int o.1, enc o.2])]) (ei_tup (ev_op (ev_enc rfl) ev_int (rd_ixT at2))) (by have := ho.2.2; omega)
      (fun o _ => eg_nameW (by decide)) (fun o _ => ev_op (ev_var rfl) ev_int (rd_ixT at1))) fun p ws B3 H3 x3 n3 w3 d3 => ?_
    rw [show os.map (fun o => enc o.2) = (kids (.choice m os)).map enc by simp [kids]] at d3
    exact q p ws B3 H3 ((x1.trans x2).trans x3) n3 w3 d3
  refine q_when st (et_test (ev_op (ev_word rfl) (ev_lst (ea_cons ev_str (ea_cons ev_str (ea_cons ev_str ea_nil))) (by decide)) (rd_inL rfl rfl rfl))) (fun h3 B3 H3 x3 st => ?_) (fun h3 B3 H3 x3 st => ?_)
  · have h3' : isLeafW (word t) = true := by
      rw [← h3]
      show isLeafW (word t) = inV (.str (word t)) (([("cell" : Str), "need", "pad"]).map V.str)
      rw [in_strs]
      simp only [isLeafW, List.any_cons, List.any_nil, Bool.or_false, Bool.or_assoc]
    obtain ⟨x, fs, rfl⟩ := leaf_of ho h1 h2 (leafW_one h3')
    refine s_retL st (el_lst ea_nil (by decide)) fun pp ws B4 H4 x4 n4 w4 d4 => ?_
    exact q pp ws B4 H4 (((x1.trans x2).trans x3).trans x4) n4 w4 d4
  · have h3' : isLeafW (word t) = false := by
      rw [← h3]
      show isLeafW (word t) = inV (.str (word t)) (([("cell" : Str), "need", "pad"]).map V.str)
      rw [in_strs]
      simp only [isLeafW, List.any_cons, List.any_nil, Bool.or_false, Bool.or_assoc]
    obtain ⟨x, fs, p, rfl⟩ := one_of ho h1 h2 h3'
    refine s_retL st (el_lst (ea_cons (ev_op (ev_enc rfl) (ev_un ev_int) (rd_ixT (ds := .str (word (.one x fs p)) :: fields (.one x fs p)) (show atI ((PyData.str x :: fs) ++ [enc p]) (-1) = some (enc p) from at_last))) ea_nil) (by simp)) fun pp ws B4 H4 x4 n4 w4 d4 => ?_
    exact q pp ws B4 H4 (((x1.trans x2).trans x3).trans x4) n4 w4 d4


def R_size (h : Nat) (ds : List PyData) (d : PyData) : Prop := ∃ t, ok h t ∧ ds = [enc t] ∧ d = encN (size h t)
theorem in_none {ss : List (Option Int)} : inV .non ((ss.map encN).map fv) = decide (none ∈ ss) := by
  induction ss with
  | nil => rfl
  | cons s ss ih =>
    show (eqV (fv (encN s)) .non || inV .non ((ss.map encN).map fv)) = _
    rw [ih]
    cases s with
    | none => simp [encN, fv, eqV]
    | some n => simp [encN, fv, eqV]
theorem flat_encN {ss : List (Option Int)} : (ss.map encN).all flatD = true := by
  rw [List.all_map, List.all_eq_true]
  intro s _
  cases s <;> rfl
theorem ints_of {ss : List (Option Int)} (h : ¬ none ∈ ss) : ss.map encN = (ss.map fun s => s.getD 0).map PyData.int := by
  rw [List.map_map]
  refine List.map_congr_left fun s hs => ?_
  cases s with
  | none => exact absurd hs h
  | some n => rfl
theorem head_some {ss : List (Option Int)} (h : ¬ none ∈ ss) (hl : 0 < ss.length) : ∃ n r, ss = some n :: r := by
  cases ss with
  | nil => simp at hl
  | cons s r =>
    cases s with
    | none => simp at h
    | some n => exact ⟨n, r, rfl⟩
end

section
variable {P : Program} {w : World} {K : PySem.W.Frag} {mg : Str → Option Value} {base : Heap} {AD : Ads}


theorem canLay_ints : ∀ ns : List Int, PyData.canLayAll0 (ns.map .int) = true
  | [] => by simp [PyData.canLayAll0]
  | n :: ns => by
    have := canLay_ints ns
    simp only [List.map_cons, PyData.canLayAll0, this, Bool.and_true]
    simp [PyData.canLay0]
theorem depth_ints : ∀ ns : List Int, PyData.depthAll (ns.map .int) = 0
  | [] => by simp [PyData.depthAll]
  | n :: ns => by
    have := depth_ints ns
    simp [PyData.depthAll, PyData.depth, this]
theorem sh_ints {ns : List Int} : SeqAt.shaped (.list (ns.map .int)) = true := by
  unfold SeqAt.shaped
  rw [PyData.canLay0, canLay_ints, PyData.depth, depth_ints]
  rfl
theorem sh_nilL : SeqAt.shaped (.list []) = true := sh_ints (ns := [])
theorem sh_intsT {ns : List Int} : SeqAt.shaped (.tuple (ns.map .int)) = true := by
  unfold SeqAt.shaped
  rw [PyData.canLay0, canLay_ints, PyData.depth, depth_ints]
  rfl
theorem eqv_nil {ns : List Int} : PyData.eqv (.list (ns.map .int)) (.list []) = ns.isEmpty := by
  cases ns with
  | nil => rfl
  | cons n ns => simp [PyData.eqv, PyData.eqvAll]
theorem eqv_nilT {ns : List Int} : PyData.eqv (.tuple (ns.map .int)) (.tuple []) = ns.isEmpty := by
  cases ns with
  | nil => rfl
  | cons n ns => simp [PyData.eqv, PyData.eqvAll]
theorem size_of_word {h : Nat} {t : Part} (ho : ok (h + 1) t) (w1 : ¬ word t = "cell") (w3 : ¬ word t = "choice") (w4 : ¬ word t = "times") (w5 : ¬ (word t = "counted" ∨ word t = "within" ∨ word t = "fill" ∨ word t = "if left" ∨ word t = "pad")) (hn : ¬ none ∈ (kids t).map (size h)) :
    size (h + 1) t = some ((((kids t).map (size h)).map fun s => s.getD 0).sum) := by
  show sizeK (word t) (fields t) ((kids t).map (size h)) = _
  unfold sizeK
  rw [if_neg w1]
  by_cases w2 : word t = "need"
  · rw [if_pos w2]
    obtain ⟨x, fs, rfl⟩ := leaf_of ho.1 (by rw [w2]; decide) (by rw [w2]; decide) (by rw [w2]; decide)
    rfl
  · rw [if_neg w2]
    have hr : word t = "row" := by
      cases t with
      | row ps => rfl
      | choice m os => exact absurd rfl w3
      | leaf x fs =>
        have hx := ho.1.1
        simp only [isLeafW, Bool.or_eq_true] at hx
        rcases hx with (e | e) | e
        · exact absurd (eq_of_beq e) w1
        · exact absurd (eq_of_beq e) w2
        · exact absurd (.inr (.inr (.inr (.inr (eq_of_beq e))))) w5
      | one x fs p =>
        have hx := ho.1.1
        simp only [isOneW, Bool.or_eq_true] at hx
        rcases hx with (((e | e) | e) | e) | e
        · exact absurd (eq_of_beq e) w4
        · exact absurd (.inl (eq_of_beq e)) w5
        · exact absurd (.inr (.inl (eq_of_beq e))) w5
        · exact absurd (.inr (.inr (.inl (eq_of_beq e)))) w5
        · exact absurd (.inr (.inr (.inr (.inl (eq_of_beq e))))) w5
    rw [if_pos (.inl hr), if_neg hn, if_pos hr]
theorem size_none {h : Nat} {t : Part} (w5 : (word t = "counted" ∨ word t = "within" ∨ word t = "fill" ∨ word t = "if left" ∨ word t = "pad") ∨ none ∈ (kids t).map (size h)) (w1 : none ∈ (kids t).map (size h) → ¬ word t = "cell" ∧ ¬ word t = "need") : size (h + 1) t = none := by
  show sizeK (word t) (fields t) ((kids t).map (size h)) = _
  unfold sizeK
  rcases w5 with w5 | hn
  · rcases w5 with e | e | e | e | e <;> (rw [e]; rfl)
  · rw [if_neg (w1 hn).1, if_neg (w1 hn).2]
    by_cases hr : word t = "row" ∨ word t = "choice" ∨ word t = "times"
    · rw [if_pos hr, if_pos hn]
    · rw [if_neg hr]
theorem ok_law_size {f fp : Addr} {fd fdp : FuncData} (T : Txt K mg AD) (a : At K mg "_law_size" s_law_size ["part"] f fd) (ap : At K mg "_law_children" s_law_children ["part"] fp fdp) : ∀ h, FnOk P w K mg base CX0 (h + 3) f fd ["part"] (SpR K (R_size h))
  | 0 => SpR_false fun ds d ⟨t, o, _⟩ => o
  | h + 1 => by
    have C_law_children := ap.cal (ok_law_children (P := P) (w := w) (base := base) T ap)
    have C_law_size := a.cal (ok_law_size T a ap h)
    refine ok_fn a.fn sc_law_size (by rintro ds d ⟨t, _, rfl, _⟩; rfl) fun cdv A outer s H0 E hr ds d ⟨t, ho, e1, e2⟩ => ?_
    subst e1
    refine ⟨_, (pss_cons (ps_set (i := 1) sc_law_size.nd rfl (Or.inr rfl) (pe_lc (own := [("inner", 2)]) (by rfl) sc_law_size.nd (pi_listK K (pe_cal C_law_children hr (by omega) (by rfl) (pa_cons (pv 0) pa_nil))) (blkOk_by (own := [("inner", 2)]) (N := N_sc_law_size) (sc := defScope s_law_size) (by decide +kernel)) (fun _ _ _ _ _ => (pg_name (i := 2) sc_law_size.nd rfl (Or.inl rfl))) (fun _ _ _ _ _ => pts_nil) (fun _ _ _ _ _ => (pe_cal C_law_size hr (by omega) (by rfl) (pa_cons (pv 2) pa_nil)))))
    (pss_cons (ps_if (PW.pt (pw_or (pt_cmpR (op_inK K) (pe_ix (ix_tupK K) (pv 0) pe_int (fun _ _ => rfl)) (pe_lst (pa_cons pe_str (pa_cons pe_str (pa_cons pe_str (pa_cons pe_str (pa_cons pe_str pa_nil)))))) (by rfl)) (pw_or1 (pt_cmpR (op_inK K) pe_non (pv 1) (by rfl))))) (pss_one (ps_ret pe_non)) pss_nil)
    (pss_cons (ps_if (pt_cmpR op_eq (pe_ix (ix_tupK K) (pv 0) pe_int (fun _ _ => rfl)) pe_str (nomark _)) (pss_one (ps_ret pe_int)) pss_nil)
    (pss_cons (ps_if (pt_cmpR op_eq (pe_ix (ix_tupK K) (pv 0) pe_int (fun _ _ => rfl)) pe_str (nomark _)) (pss_one (ps_ret (pe_ifExp (pt_cmpR (op_eqDK K hr.units) (pe_lc (own := [("size", 3)]) (by rfl) sc_law_size.nd (pi_listK K (pv 1)) (blkOk_by (own := [("size", 3)]) (N := N_sc_law_size) (sc := defScope s_law_size) (by decide +kernel)) (fun _ _ _ _ _ => (pg_name (i := 3) sc_law_size.nd rfl (Or.inl rfl))) (fun _ _ _ _ _ => (pts_one (pt_cmpR op_ne (pv 3) (pe_ix (ix_listK K) (pv 1) pe_int (fun _ _ => rfl)) (nomark _)))) (fun _ _ _ _ _ => (pv 3))) (pe_lst pa_nil) (nomark _)) (pe_op op_add pe_int (pe_ix (ix_listK K) (pv 1) pe_int (fun _ _ => rfl))) pe_non))) pss_nil)
    (pss_cons (ps_if (pt_cmpR op_eq (pe_ix (ix_tupK K) (pv 0) pe_int (fun _ _ => rfl)) pe_str (nomark _)) (pss_one (ps_ret (pe_op op_mul (pe_ix (ix_tupK K) (pv 0) pe_int (fun _ _ => rfl)) (pe_ix (ix_listK K) (pv 1) pe_int (fun _ _ => rfl))))) pss_nil)
    (pss_one (ps_ret (pe_callB (cr_sumK K rfl) (by rfl) T.b_sum (by decide +kernel) (pa_cons (pv 1) pa_nil))))))))), fun B O σ H Q st q => ?_⟩
    have es : size (h + 1) t = sizeK (word t) (fields t) ((kids t).map (size h)) := rfl
    have hk := kids_len ho.1
    refine q_asg st (d := .list (((kids t).map (size h)).map encN)) ?_ fun v4 B4 H4 x4 d4 st => ?_
    · rw [List.map_map]
      exact ev_map (kids t) enc (encN ∘ size h) (fun c => [.dat (enc t), .un, .dat (enc c), .un]) (ei_list (el_call (ea_cons (ev_var rfl) ea_nil) ⟨t, ho.1, rfl, rfl⟩).d) (by omega) (fun c _ => eg_nameW (by decide))
        (fun c hc => ev_call (ea_cons (ev_var rfl) ea_nil) ⟨c, ho.2 c hc, rfl, rfl⟩)
    have hsz : ∀ c1 : (word t = "counted" ∨ word t = "within" ∨ word t = "fill" ∨ word t = "if left" ∨ word t = "pad") ∨ none ∈ (kids t).map (size h), size (h + 1) t = none := fun c1 => size_none c1 fun hn => by
      cases t with
      | leaf x fs => simp [kids] at hn
      | row ps => exact ⟨(by decide : ¬ (("row" : Str) = "cell")), (by decide : ¬ (("row" : Str) = "need"))⟩
      | choice m os => exact ⟨(by decide : ¬ (("choice" : Str) = "cell")), (by decide : ¬ (("choice" : Str) = "need"))⟩
      | one x fs p =>
        have hx := oneW_leaf ho.1.1
        refine ⟨fun e => ?_, fun e => ?_⟩
        · have e' : x = "cell" := e
          subst e'
          exact absurd hx (by decide)
        · have e' : x = "need" := e
          subst e'
          exact absurd hx (by decide)
    have hkid : (kids t).length = ((kids t).map (size h)).length := by rw [List.length_map]
    generalize hss : (kids t).map (size h) = ss at es st d4 hsz hkid
    refine q_when st (et_or (et_test (ev_op (ev_word rfl) (ev_lst (ea_cons ev_str (ea_cons ev_str (ea_cons ev_str (ea_cons ev_str (ea_cons ev_str ea_nil))))) (by decide)) (rd_inL rfl rfl rfl))) (fun _ => et_test (ev_op ev_non (ev_var rfl) (rd_inL rfl flat_encN in_none)))) (fun h4 B5 H5 x5 st => ?_) (fun h4 B5 H5 x5 st => ?_)
    · have z : ((inV (.str (word t)) (([("counted" : Str), "within", "fill", "if left", "pad"]).map V.str)) || decide (none ∈ ss)) = true := h4
      rw [in_strs] at z
      rw [hsz (by simpa [or_assoc] using z)] at e2
      subst e2
      refine s_ret st ev_non fun v B6 H6 x6 w6 d6 => ?_
      exact q v B6 H6 ((x4.trans x5).trans x6) w6 d6
    have hzz : ((inV (.str (word t)) (([("counted" : Str), "within", "fill", "if left", "pad"]).map V.str)) || decide (none ∈ ss)) = false := h4
    rw [in_strs, Bool.or_eq_false_iff] at hzz
    have hnn : ¬ none ∈ ss := of_decide_eq_false hzz.2
    have w5 : ¬ (word t = "counted" ∨ word t = "within" ∨ word t = "fill" ∨ word t = "if left" ∨ word t = "pad") := by
      have z1 := hzz.1
      simp at z1
      rintro (e | e | e | e | e)
      · exact z1.1 e
      · exact z1.2.1 e
      · exact z1.2.2.1 e
      · exact z1.2.2.2.1 e
      · exact z1.2.2.2.2 e
    refine q_when st (et_word rfl) (fun h1 B1 H1 x1 st => ?_) (fun h1 B1 H1 x1 st => ?_)
    · refine s_ret st ev_int fun v B2 H2 x2 w2 d2 => ?_
      rw [e2, es, sizeK, if_pos (eq_of_beq h1)] at q
      exact q v B2 H2 (((x4.trans x5).trans x1).trans x2) w2 d2
    have w1 : ¬ word t = "cell" := by simpa using h1
    refine q_when st (et_word rfl) (fun h2 B6 H6 x6 st => ?_) (fun h2 B6 H6 x6 st => ?_)
    · obtain ⟨m, os, rfl⟩ := choice_of ho.1 h2
      obtain ⟨z, r, rfl⟩ := head_some hnn (by rw [← hkid]; simpa [kids] using ho.1.2.1)
      have e2' : d = encN (if ∀ s ∈ (some z :: r), s = some z then some (1 + z) else none) := by
        rw [e2, es]
        show encN (if none ∈ (some z :: r) then _ else _) = _
        rw [if_neg hnn]
        rfl
      have hlen : (some z :: r).length ≤ 6 := by rw [← hkid]; exact hk
      have hf : ((some z :: r).filter fun s => !(decide (s = some z))).map encN = ((((some z :: r).filter fun s => !(decide (s = some z)))).map fun s => s.getD 0).map PyData.int :=
        ints_of fun hm => hnn ((List.mem_filter.mp hm).1)
      have hb : ((((some z :: r).filter fun s => !(decide (s = some z)))).map fun s => s.getD 0).isEmpty = decide (∀ s ∈ (some z :: r), s = some z) := by
        rw [Bool.eq_iff_iff, List.isEmpty_iff, List.map_eq_nil_iff, List.filter_eq_nil_iff]
        simp
      refine s_ret (d := d) st (ev_if (b := decide (∀ s ∈ (some z :: r), s = some z)) (et_test ?_) (fun hall => ?_) (fun hall => ?_)) fun v B8 H8 x8 w8 d8 => ?_
      · refine ev_op (ev_is (ev_lcT (some z :: r) encN (fun s => !(decide (s = some z))) encN (fun s => [.dat (enc (.choice m os)), .dat (.list ((some z :: r).map encN)), .un, .dat (encN s)]) (ei_list (ev_var rfl)) (by omega) (fun s _ => eg_nameW (by decide)) (fun s hs => ?_) (fun s _ _ => ev_var rfl)) (congrArg PyData.list hf))
          (ev_lst ea_nil (by decide)) (rd_eq sh_ints sh_nilL (by rw [eqv_nil, hb]))
        refine et_test (ev_op (ev_var rfl) (ev_op (ev_var rfl) ev_int (rd_ixL at0)) ?_)
        cases s with
        | none => exact absurd hs hnn
        | some y => exact rd_neS rfl rfl rfl (show (!decide (V.int y = V.int z)) = !decide (some y = some z) from congrArg _ (decide_eq_decide.mpr (by simp)))
      · rw [if_pos (of_decide_eq_true hall)] at e2'
        subst e2'
        exact ev_op ev_int (ev_op (ev_var rfl) ev_int (rd_ixL at0)) rd_I0
      · rw [if_neg (of_decide_eq_false hall)] at e2'
        subst e2'
        exact ev_non
      · exact q v B8 H8 ((((x4.trans x5).trans x1).trans x6).trans x8) w8 d8
    have w3 : ¬ word t = "choice" := by simpa using h2
    refine q_when st (et_word rfl) (fun h6 B7 H7 x7 st => ?_) (fun h6 B7 H7 x7 st => ?_)
    · have hw : word t = "times" := eq_of_beq h6
      obtain ⟨x, fs, p, rfl⟩ := one_of ho.1 (by rw [hw]; decide) (by rw [hw]; decide) (by rw [hw]; decide)
      have hx : x = "times" := hw
      subst hx
      obtain ⟨n, rfl, hn0, hn6⟩ := ho.1.2.2.2 rfl
      obtain ⟨z, r, rfl⟩ := head_some hnn (by rw [← hkid]; simp [kids])
      have e2' : d = .int (n * z) := by
        rw [e2, es]
        show encN (if none ∈ (some z :: r) then _ else _) = _
        rw [if_neg hnn]
        rfl
      subst e2'
      refine s_ret st (ev_op (ev_op (ev_enc rfl) ev_int (rd_ixT at1)) (ev_op (ev_var rfl) ev_int (rd_ixL at0)) (rd_I (.inl ⟨by omega, by omega⟩))) fun v B8 H8 x8 w8 d8 => ?_
      exact q v B8 H8 (((((x4.trans x5).trans x1).trans x6).trans x7).trans x8) w8 d8
    · have w4 : ¬ word t = "times" := by simpa using h6
      have e3 := size_of_word ho w1 w3 w4 w5 (by rw [hss]; exact hnn)
      rw [hss] at e3
      rw [e3] at e2
      subst e2
      refine s_ret st (ev_cb (ea_cons (ev_is (ev_var rfl) (congrArg PyData.list (ints_of hnn))) ea_nil) rc_sum) fun v B8 H8 x8 w8 d8 => ?_
      exact q v B8 H8 (((((x4.trans x5).trans x1).trans x6).trans x7).trans x8) w8 d8

end
end G
end Toy

set_option Elab.async false
set_option linter.all false
set_option maxRecDepth 100000
set_option maxHeartbeats 4000000
namespace Toy
namespace G
open PySem PySem.Spec PyProof.Rows L2 StX DL PT

section
variable {P : Program} {w : World} {K : PySem.W.Frag} {mg : Str → Option Value} {base : Heap} {AD : Ads}


/-- a draw: any number below the count, the pool goes on -/
def PreDraw (gs : List SD) (_ O : Hp) (R : PyData → Hp → Prop) : Prop := ∃ p n, gs = [.val (.ref p), .dat (.int n)] ∧ PoolAt O p ∧ 0 < n ∧ n < 1000000 ∧ R = fun d O' => ∃ r, d = .int r ∧ 0 ≤ r ∧ r < n ∧ Mv p O O'
theorem ok_law_draw {f : Addr} {fd : FuncData} (T : Txt K mg AD) (a : At K mg "_law_draw" s_law_draw ["pool", "count"] f fd) : FnOk P w K mg base CX0 2 f fd ["pool", "count"] (SpX K PreDraw) := by
  refine ok_fnX a.fn sc_law_draw (by rintro gs B O R ⟨p, n, rfl, _⟩; rfl) fun cdv A outer s H0 E hr => ?_
  refine ⟨_, (pss_cons (ps_if (pt_cmpR op_gt (pe_ix (ix_listK K) (pv 0) pe_int (fun _ _ => rfl)) pe_int (nomark _)) (pss_cons (ps_set (i := 2) sc_law_draw.nd rfl (Or.inl rfl) (pe_op op_mod (pe_callTy call_int1 (by rfl) T.b_int (by decide +kernel) (pa_cons (pe_ix (ix_listK K) (pv 0) pe_int (fun _ _ => rfl)) pa_nil)) (pv 1)))
    (pss_cons (ps_asg (pe_op op_fdiv (pe_callTy call_int1 (by rfl) T.b_int (by decide +kernel) (pa_cons (pe_ix (ix_listK K) (pv 0) pe_int (fun _ _ => rfl)) pa_nil)) (pv 1)) (pg_sub (pv 0) pe_int set_list))
    (pss_one (ps_ret (pv 2))))) pss_nil)
    (pss_cons (ps_asg (pe_op op_mod (pe_callTy call_int1 (by rfl) T.b_int (by decide +kernel) (pa_cons (pe_op op_add (pe_op op_mul (pe_ix (ix_listK K) (pv 0) pe_int (fun _ _ => rfl)) pe_int) pe_int) pa_nil)) pe_int) (pg_sub (pv 0) pe_int set_list))
    (pss_one (ps_ret (pe_op op_mod (pe_callTy call_int1 (by rfl) T.b_int (by decide +kernel) (pa_cons (pe_op op_fdiv (pe_op op_mod (pe_callTy call_int1 (by rfl) T.b_int (by decide +kernel) (pa_cons (pe_op op_mul (pe_ix (ix_listK K) (pv 0) pe_int (fun _ _ => rfl)) (pe_ix (ix_listK K) (pv 0) pe_int (fun _ _ => rfl))) pa_nil)) pe_int) pe_int) pa_nil)) (pv 1)))))), ?_⟩
  rintro gs B O R σ H Q ⟨p, n, rfl, ⟨x, y, ep, hy0, hy1⟩, hn0, hn1, rfl⟩ st q
  have dv : ∀ {B' : Hp}, DtAll K B' [V.int x, V.int y] [.int x, .int y] := fun {B'} => ints_dps [x, y]
  refine q_when st (et_test (ev_op (ev_ixO rfl ep dv ev_int at0) ev_int rd_B0)) (fun h1 B1 H1 x1 st => ?_) (fun h1 B1 H1 x1 st => ?_)
  · have hx : 0 < x := by simpa using h1
    refine q_asg st (ev_op (ev_cb (ea_cons (ev_ixO rfl ep dv ev_int at0) ea_nil) rc_intI) (ev_var rfl) (rd_I hn0)) fun v2 B2 H2 x2 d2 st => ?_
    refine q_setO st rfl ep (ev_op (ev_cb (ea_cons (ev_ixO rfl ep dv ev_int at0) ea_nil) rc_intI) (ev_var rfl) (rd_I ⟨hn0, by omega⟩)) ev_int (j := 0) (by rfl) fun v3 B3 H3 x3 d3 st => ?_
    rw [dp_int d3] at st
    refine s_ret st (ev_var rfl) fun v4 B4 H4 x4 w4 d4 => ?_
    refine q v4 _ B4 _ H4 (((x1.trans x2).trans x3).trans x4) ⟨x % n, rfl, Int.emod_nonneg _ (by omega), Int.emod_lt_of_pos _ hn0, ⟨x / n, y, upd_same, hy0, hy1⟩, fun a ha => upd_ne ha⟩ w4 d4
  · refine q_setO st rfl ep (ev_op (ev_cb (ea_cons (ev_op (ev_op (ev_ixO rfl ep dv ev_int at1) ev_int (rd_I (.inr ⟨by decide, by decide⟩))) ev_int rd_I0) ea_nil) rc_intI) ev_int (rd_I (by decide))) ev_int (j := 1) (by rfl) fun v3 B3 H3 x3 d3 st => ?_
    rw [dp_int d3] at st
    have hz0 : 0 ≤ (y * 48271 + 11) % 2147483647 := Int.emod_nonneg _ (by decide)
    have hz1 : (y * 48271 + 11) % 2147483647 < 2147483647 := Int.emod_lt_of_pos _ (by decide)
    generalize (y * 48271 + 11) % 2147483647 = z at st hz0 hz1
    have st' : Sta K B3 (upd O p (.lst [.int x, .int z])) _ _ _ := st
    have dz : ∀ {B' : Hp}, DtAll K B' [V.int x, V.int z] [.int x, .int z] := fun {B'} => ints_dps [x, z]
    refine s_ret st' (ev_op (ev_cb (ea_cons (ev_op (ev_op (ev_cb (ea_cons (ev_op (ev_ixO rfl upd_same dz ev_int at1) (ev_ixO rfl upd_same dz ev_int at1) (rd_I (.inl ⟨by omega, by omega⟩))) ea_nil) rc_intI) ev_int (rd_I (by decide))) ev_int (rd_I ⟨by decide, by decide⟩)) ea_nil) rc_intI) (ev_var rfl) (rd_I hn0)) fun v4 B4 H4 x4 w4 d4 => ?_
    exact q v4 _ B4 _ H4 ((x1.trans x3).trans x4) ⟨_, rfl, Int.emod_nonneg _ (by omega), Int.emod_lt_of_pos _ hn0, ⟨x, z, upd_same, hz0, hz1⟩, fun a ha => upd_ne ha⟩ w4 d4

end

section
variable {P : Program} {w : World} {K : PySem.W.Frag} {mg : Str → Option Value} {base : Heap} {AD : Ads}


theorem ev_lenS {B O : Hp} {G : List SD} {i : Nat} {a : Addr} {xs : List V} (hg : G[i]? = some (.val (.ref a))) (hs : SqL K B a xs) : EvD K B O G (tCB (fun xs H Q => ∃ p ys, xs = [.ref p] ∧ (SqL K H p ys ∨ SqT K H p ys) ∧ Q (.int ys.length) H) (tCons (tVar i) tNil)) (.int xs.length) := fun B1 O1 σ H e o s Q q => by
  obtain ⟨sv, h1, h2⟩ := s.s.get hg
  have h3 : sv = some (.ref a) := h2
  subst h3
  exact ⟨_, h1, a, xs, rfl, .inl (sl_ex (e.trans s.w.b) hs), q _ B1 H (Ex.refl _) s.w (.int _)⟩
theorem ev_ixS {B O : Hp} {G : List SD} {i : Nat} {a : Addr} {ns : List Int} {tb : TE} {k z : Int} (hg : G[i]? = some (.val (.ref a))) (hs : SqL K B a (ns.map V.int)) (hb : EvD K B O G tb (.int k)) (h : atI ns k = some z) : EvD K B O G (tOp (rIxL K) (tVar i) tb) (.int z) := fun B1 O1 σ H e o s Q q => by
  obtain ⟨sv, h1, h2⟩ := s.s.get hg
  have h3 : sv = some (.ref a) := h2
  subst h3
  refine ⟨_, h1, ?_⟩
  refine hb B1 O1 σ H e o s _ fun v B2 H2 e2 w2 d2 => ?_
  rw [dp_int d2]
  refine ⟨a, ns.map V.int, k, .int z, rfl, rfl, sl_ex ((e.trans e2).trans w2.b) hs, ?_, q _ B2 H2 e2 w2 (.int _)⟩
  unfold atI at h ⊢
  rw [List.length_map]
  cases hj : ixN ns.length k with
  | none => rw [hj] at h; cases h
  | some j =>
    rw [hj] at h
    have h' : ns[j]? = some z := h
    show (ns.map V.int)[j]? = _
    rw [List.getElem?_map, h']
    rfl
def SpPool (K : PySem.W.Frag) : Sp := fun vs H Q _ => ∃ (B O : Hp) (a : Addr) (ns : List Int) (k : Int), W B O H ∧ vs = [.ref a, .int k] ∧ SqL K B a (ns.map V.int) ∧ ns.length ≤ 63 ∧ 0 ≤ k ∧ k ≤ 63 ∧
  ∀ (p : Addr) (x y : Int) (B' H' : Hp), Ex B B' → O p = none → 0 ≤ y → y < 2147483647 → W B' (upd O p (.lst [.int x, .int y])) H' → Q (.ref p) H'
theorem ok_law_pool {f : Addr} {fd : FuncData} (T : Txt K mg AD) (a : At K mg "_law_pool" s_law_pool ["script", "k"] f fd) : FnOk P w K mg base CX0 2 f fd ["script", "k"] (SpPool K) := by
  refine a.fn.ok sc_law_pool (fun vs H Q E h => ?_) (fun cdv A outer s H vs Q E hr h => ?_)
  · obtain ⟨B, O, a, ns, k, _, rfl, _⟩ := h
    rfl
  · obtain ⟨B, O, a, ns, k, hw, rfl, hs, hl, hk0, hk1, q⟩ := h
    refine ⟨_, (pss_cons (ps_set (i := 2) sc_law_pool.nd rfl (Or.inl rfl) pe_int)
    (Evl.pss_cut (ps_if (pt_cmpR op_lt (pv 1) (pe_callB (call_lenK K) (by rfl) T.b_len PySem.boot_len (pa_cons (pv 0) pa_nil)) (nomark _)) (pss_one (ps_set (i := 2) sc_law_pool.nd rfl (Or.inl rfl) (pe_ix (ix_listK K) (pv 0) (pv 1) (fun _ _ => rfl)))) pss_nil)
    (pss_cons (ps_set (i := 3) sc_law_pool.nd rfl (Or.inl rfl) (pe_callB call_abs (by rfl) T.b_abs (by decide +kernel) (pa_cons (pv 2) pa_nil)))
    (pss_cons (ps_set (i := 4) sc_law_pool.nd rfl (Or.inl rfl) (pe_op op_mod (pe_op op_mul (pe_op op_add (pe_op op_add (pe_op op_mod (pv 3) pe_int) (pe_op op_mul pe_int (pv 1))) pe_int) pe_int) pe_int))
    (pss_one (ps_ret (pe_lst (pa_cons (pe_op op_mul (pv 3) (pe_callTy call_int1 (by rfl) T.b_int (by decide +kernel) (pa_cons (pe_cmpR op_ge (pv 3) (pe_op op_pow pe_int pe_int) (nomark _)) pa_nil))) (pa_cons (pv 4) pa_nil))))))))), ?_⟩
    have st : Sta K B O [.val (.ref a), .dat (.int k), .un, .un, .un] (L2.start N_sc_law_pool [.ref a, .int k]) H := ⟨hw, ⟨rfl, ⟨_, rfl, .int k⟩, trivial, trivial, trivial, trivial⟩⟩
    refine q_asg st ev_int fun v1 B1 H1 x1 d1 st => ?_
    refine ⟨fun σ' H' => ∃ B' c, Ex B B' ∧ Sta K B' O [.val (.ref a), .dat (.int k), .dat (.int c), .un, .un] σ' H', ?_, ?_⟩
    · refine s_if st (et_test (ev_op (ev_var rfl) (ev_lenS rfl (sl_ex x1 hs)) rd_B0)) (fun h B2 H2 x2 st => ?_) (fun h B2 H2 x2 st => ?_)
      · have hlt : k < ns.length := by simpa using h
        have hk : ns[k.toNat]? = some ns[k.toNat] := List.getElem?_eq_getElem (by omega)
        refine s_asg st (ev_ixS rfl (sl_ex (x1.trans x2) hs) (ev_var rfl) (at_nn hk0 hk)) fun v3 B3 H3 x3 d3 st => ?_
        exact ⟨B3, _, (x1.trans x2).trans x3, st⟩
      · exact ⟨B2, 0, x1.trans x2, st⟩
    rintro σ2 H2 ⟨B2, c, x2, st⟩
    refine q_asg st (ev_cb (ea_cons (ev_var rfl) ea_nil) rc_abs) fun v3 B3 H3 x3 d3 st => ?_
    generalize (if c < 0 then -c else c) = z at st
    refine q_asg st (ev_op (ev_op (ev_op (ev_op (ev_op (ev_var rfl) ev_int (rd_I (by decide))) (ev_op ev_int (ev_var rfl) (rd_I (.inl ⟨by decide, by decide⟩))) rd_I0) ev_int rd_I0) ev_int (rd_I (.inr ⟨by decide, by decide⟩))) ev_int (rd_I (by decide))) fun v4 B4 H4 x4 d4 st => ?_
    have hy0 : 0 ≤ (z % 2147483629 + 7919 * k + 31) * 48271 % 2147483647 := Int.emod_nonneg _ (by decide)
    have hy1 : (z % 2147483629 + 7919 * k + 31) * 48271 % 2147483647 < 2147483647 := Int.emod_lt_of_pos _ (by decide)
    generalize (z % 2147483629 + 7919 * k + 31) * 48271 % 2147483647 = y at st hy0 hy1
    refine s_retL st (el_lst (ds := [.int _, .int y]) (ea_cons (ev_op (ev_var rfl) (ev_cb (ea_cons (ev_op (ev_var rfl) (ev_op ev_int ev_int (rd_I ⟨by decide, by decide, by decide⟩)) rd_B0) ea_nil) rc_intB) (rd_I (.inr (by split <;> decide)))) (ea_cons (ev_var rfl) ea_nil)) (by simp)) fun p ws B5 H5 x5 np w5 d5 => ?_
    have e := dps_ints (ns := [_, y]) d5
    subst e
    exact q p _ y B5 H5 (((x2.trans x3).trans x4).trans x5) np hy0 hy1 w5

end
end G
end Toy

set_option Elab.async false
set_option linter.all false
set_option maxRecDepth 100000
set_option maxHeartbeats 4000000
namespace Toy
namespace G
open PySem PySem.Spec PyProof.Rows L2 StX DL PT

/-- as PT.ok, three parts beside one another at most -/
def ok0 : Part → Prop
  | .leaf w fs => isLeafW w = true ∧ fs.length ≤ 3 ∧ fs.all good = true
  | .row ps => ps.length ≤ 3
  | .choice m os => good m = true ∧ 0 < os.length ∧ os.length ≤ 3
  | .one w fs _ => isOneW w = true ∧ fs.length ≤ 4 ∧ fs.all good = true ∧ (w = "times" → ∃ n, fs = [.int n] ∧ 0 ≤ n ∧ n ≤ 6)
def ok : Nat → Part → Prop
  | 0, _ => False
  | h + 1, t => ok0 t ∧ ∀ p, p ∈ kids t → ok h p
theorem ok0_pt : ∀ {t : Part}, ok0 t → PT.ok0 t
  | .leaf _ _, h => h
  | .row _, h => Nat.le_trans h (by decide)
  | .choice _ _, h => ⟨h.1, h.2.1, Nat.le_trans h.2.2 (by decide)⟩
  | .one _ _ _, h => h
theorem ok_pt : ∀ {h : Nat} {t : Part}, ok h t → PT.ok h t
  | 0, _, o => o.elim
  | h + 1, t, o => ⟨ok0_pt o.1, fun p hp => ok_pt (o.2 p hp)⟩
theorem ok_mono : ∀ {h j : Nat} {t : Part}, h ≤ j → ok h t → ok j t
  | 0, _, _, _, o => o.elim
  | h + 1, 0, _, l, _ => absurd l (by omega)
  | h + 1, j + 1, t, l, o => ⟨o.1, fun p hp => ok_mono (by omega) (o.2 p hp)⟩

section
variable {P : Program} {w : World} {K : PySem.W.Frag} {mg : Str → Option Value} {base : Heap} {AD : Ads}


section
variable {B O : Hp} {G : List SD} {te ta : TE} {i : Nat} {p r : Addr} {n : Int} {E : XK}
theorem ex_draw (hg : G[i]? = some (.val (.ref p))) (hp : PoolAt O p) (h0 : 0 < n) (h1 : n < 1000000) : EvX K B O G (tCall (SpX K PreDraw) [] E (tCons (tVar i) (tCons (tC (.int n)) tNil))) (fun d O' => ∃ r, d = .int r ∧ 0 ≤ r ∧ r < n ∧ Mv p O O') :=
  ex_call (as_val (evV_var hg) (as_dat ev_int as_nil)) fun B' _ => ⟨p, n, rfl, hp, h0, h1, rfl⟩
theorem at_some {ds : List PyData} {r : Int} (h0 : 0 ≤ r) (h1 : r < ds.length) : ∃ z, z ∈ ds ∧ atI ds r = some z := by
  have hk : ds[r.toNat]? = some ds[r.toNat] := List.getElem?_eq_getElem (by omega)
  exact ⟨_, List.mem_of_getElem? hk, at_nn h0 hk⟩
/-- an item of a list, by a draw -/
theorem ex_pick {P : List PyData → Prop} (h : EvX K B O G ta (fun d O' => ∃ ds, d = .list ds ∧ P ds ∧ Mv p O O')) (hP : ∀ ds, P ds → (ds.length : Int) = n) (hg : G[i]? = some (.val (.ref p))) (h0 : 0 < n) (h1 : n < 1000000) :
    EvX K B O G (tOp (rIxL K) ta (tCall (SpX K PreDraw) [] E (tCons (tVar i) (tCons (tC (.int n)) tNil)))) (fun z O' => (∃ ds, P ds ∧ z ∈ ds) ∧ Mv p O O') :=
  ex_op h (R2' := fun _ O' d2 O'' => ∃ r, d2 = .int r ∧ 0 ≤ r ∧ r < n ∧ Mv p O' O'') (fun d1 B' O' _ ⟨ds, _, _, m⟩ => ex_draw hg m.pool h0 h1) fun d1 O' d2 O'' ⟨ds, e1, hp, m1⟩ ⟨r, e2, r0, r1, m2⟩ => by
    subst e1 e2
    obtain ⟨z, hz, ha⟩ := at_some (ds := ds) r0 (by rw [hP ds hp]; exact r1)
    exact ⟨z, rd_ixL ha, ⟨ds, hp, hz⟩, m1.trans m2⟩
theorem ex_lst0 {ds : List PyData} (hp : PoolAt O p) (h : EvD K B O G te (.list ds)) : EvX K B O G te (fun d O' => ∃ ds', d = .list ds' ∧ ds' = ds ∧ Mv p O O') := ex_imp (ex_pure h) fun d O' ⟨e1, e2⟩ => ⟨ds, e1, rfl, by rw [e2]; exact .refl hp⟩
end
def PreLeaf (gs : List SD) (_ O : Hp) (R : PyData → Hp → Prop) : Prop := ∃ p hw told, gs = [.val (.ref p), .dat hw, .dat (.bool told)] ∧ PoolAt O p ∧ good hw = true ∧ R = fun d O' => ∃ t, ok 1 t ∧ d = enc t ∧ Mv p O O'
theorem leaf_ok {w : Str} {fs : List PyData} (h : isLeafW w = true) (h1 : fs.length ≤ 3) (h2 : fs.all good = true) : ok 1 (.leaf w fs) := ⟨⟨h, h1, h2⟩, fun p hp => by simp [kids] at hp⟩
theorem ok_law_leaf {f fr : Addr} {fd fdr : FuncData} (T : Txt K mg AD) (a : At K mg "_law_leaf" s_law_leaf ["pool", "how", "told"] f fd) (ad : At K mg "_law_draw" s_law_draw ["pool", "count"] fr fdr) : FnOk P w K mg base CX0 3 f fd ["pool", "how", "told"] (SpX K PreLeaf) := by
  have C_law_draw := ad.cal (ok_law_draw (P := P) (w := w) (base := base) T ad)
  refine ok_fnX a.fn sc_law_leaf (by rintro gs B O R ⟨p, hw, told, rfl, _⟩; rfl) fun cdv A outer s H0 E hr => ?_
  refine ⟨_, (pss_cons (ps_set (i := 3) sc_law_leaf.nd rfl (Or.inl rfl) (pe_cal C_law_draw hr (by omega) (by rfl) (pa_cons (pv 0) (pa_cons pe_int pa_nil))))
    (pss_cons (ps_if (PW.pt (pw_and (pt_cmpR op_eq (pv 3) pe_int (nomark _)) (pw_and1 (pt_not (pt_val (pv 2)))))) (pss_one (ps_ret (pe_tup (pa_cons pe_str (pa_cons (pe_op op_add pe_int (pe_cal C_law_draw hr (by omega) (by rfl) (pa_cons (pv 0) (pa_cons pe_int pa_nil)))) pa_nil))))) pss_nil)
    (pss_cons (ps_if (pt_cmpR op_eq (pv 3) pe_int (nomark _)) (pss_one (ps_ret (pe_tup (pa_cons pe_str (pa_cons (pe_ix (ix_listK K) (pe_lst (pa_cons pe_int (pa_cons pe_int (pa_cons pe_int pa_nil)))) (pe_cal C_law_draw hr (by omega) (by rfl) (pa_cons (pv 0) (pa_cons pe_int pa_nil))) (fun _ _ => rfl)) (pa_cons (pv 1) pa_nil)))))) pss_nil)
    (pss_cons (ps_set (i := 4) sc_law_leaf.nd rfl (Or.inl rfl) (pe_ix (ix_listK K) (pe_lst (pa_cons pe_int (pa_cons pe_int (pa_cons pe_int pa_nil)))) (pe_cal C_law_draw hr (by omega) (by rfl) (pa_cons (pv 0) (pa_cons pe_int pa_nil))) (fun _ _ => rfl)))
    (pss_one (ps_ret (pe_tup (pa_cons pe_str (pa_cons (pv 4) (pa_cons (pe_ix (ix_listK K) (pe_lst (pa_cons pe_non (pa_cons pe_non (pa_cons pe_int pa_nil)))) (pe_cal C_law_draw hr (by omega) (by rfl) (pa_cons (pv 0) (pa_cons pe_int pa_nil))) (fun _ _ => rfl)) (pa_cons (pv 1) pa_nil))))))))))), ?_⟩
  rintro gs B O R σ H Q ⟨p, hw, told, rfl, hp, hgood, rfl⟩ st q
  refine qx_asg st (ex_draw rfl hp (by decide) (by decide)) fun v1 d1 B1 O1 H1 x1 ⟨k, e1, k0, k1, m1⟩ dv1 st => ?_
  subst e1
  refine q_when st (et_and (et_test (ev_op (ev_var rfl) ev_int rd_eqInt)) fun _ => et_not (et_B (ev_var rfl))) (fun h1 B2 H2 x2 st => ?_) (fun h1 B2 H2 x2 st => ?_)
  · refine sx_ret st (ex_tup (exs_cons (S := fun _ O' ds O'' => ∃ z, ds = [.int z] ∧ Mv p O' O'') (T := fun ds O'' => ∃ z, ds = [.str "need", .int z] ∧ Mv p O1 O'') (ex_pure ev_str) (fun d B' O' _ e => ?_) ?_) ?_) fun v d B3 O3 H3 x3 hR w3 d3 => ?_
    · obtain ⟨rfl, rfl⟩ := e
      refine exs_cons (S := fun _ O' ds O'' => ds = [] ∧ O'' = O') (ex_op (R3 := fun z O'' => ∃ y, z = .int y ∧ Mv p O' O'') (ex_pure ev_int) (R2' := fun _ O' d2 O'' => ∃ r, d2 = .int r ∧ 0 ≤ r ∧ r < 3 ∧ Mv p O' O'') (fun d1 B'' O'' _ e2 => ?_) ?_) (fun d B'' O'' _ _ => exs_nil) ?_
      · obtain ⟨rfl, rfl⟩ := e2
        exact ex_draw rfl m1.pool (by decide) (by decide)
      · rintro d1 O2 d2 O3 ⟨rfl, rfl⟩ ⟨r, rfl, _, _, m⟩
        exact ⟨_, rd_I0, _, rfl, m⟩
      · rintro d O2 ds O3 ⟨y, rfl, m⟩ ⟨rfl, rfl⟩
        exact ⟨y, rfl, m⟩
    · rintro d O2 ds O3 ⟨rfl, rfl⟩ ⟨z, rfl, m⟩
      exact ⟨z, rfl, m⟩
    · rintro ds O2 ⟨z, rfl, _⟩
      simp
    · obtain ⟨ds, rfl, z, rfl, m⟩ := hR
      exact q v _ B3 O3 H3 ((x1.trans x2).trans x3) ⟨.leaf "need" [.int z], leaf_ok (by decide) (by simp) (by simp [PT.good_int]), rfl, m1.trans m⟩ w3 d3
  refine q_when st (et_test (ev_op (ev_var rfl) ev_int rd_eqInt)) (fun h2 B3 H3 x3 st => ?_) (fun h2 B3 H3 x3 st => ?_)
  · refine sx_ret st (ex_tup (exs_cons (S := fun _ O' ds O'' => ∃ z, good z = true ∧ ds = [z, hw] ∧ Mv p O' O'') (T := fun ds O'' => ∃ z, good z = true ∧ ds = [.str "pad", z, hw] ∧ Mv p O1 O'') (ex_pure ev_str) (fun d B' O' _ e => ?_) ?_) ?_) fun v d B4 O4 H4 x4 hR w4 d4 => ?_
    · obtain ⟨rfl, rfl⟩ := e
      refine exs_cons (S := fun _ O' ds O'' => ds = [hw] ∧ O'' = O') (ex_pick (p := p) (P := fun ds => ds = [.int 2, .int 2, .int 3]) (ex_lst0 m1.pool (ev_lst (ea_cons ev_int (ea_cons ev_int (ea_cons ev_int ea_nil))) (by simp))) (by rintro ds rfl; rfl) rfl (by decide) (by decide)) (fun d B'' O'' _ _ => exs_cons (S := fun _ O' ds O'' => ds = [] ∧ O'' = O') (ex_pure (ev_var rfl)) (fun d B'' O'' _ _ => exs_nil) ?_) ?_
      · rintro d O2 ds O3 ⟨rfl, rfl⟩ ⟨rfl, rfl⟩
        exact ⟨rfl, rfl⟩
      · rintro d O2 ds O3 ⟨⟨ds', rfl, hz⟩, m⟩ ⟨rfl, rfl⟩
        refine ⟨d, ?_, rfl, m⟩
        have e : d = .int 2 ∨ d = .int 2 ∨ d = .int 3 := by simpa using hz
        rcases e with e | e | e <;> (subst e; exact PT.good_int)
    · rintro d O2 ds O3 ⟨rfl, rfl⟩ ⟨z, g, rfl, m⟩
      exact ⟨z, g, rfl, m⟩
    · rintro ds O2 ⟨z, _, rfl, _⟩
      simp
    · obtain ⟨ds, rfl, z, g, rfl, m⟩ := hR
      exact q v _ B4 O4 H4 (((x1.trans x2).trans x3).trans x4) ⟨.leaf "pad" [z, hw], leaf_ok (by decide) (by simp) (by simp [g, hgood]), rfl, m1.trans m⟩ w4 d4
  refine qx_asg st (ex_pick (p := p) (P := fun ds => ds = [.int 0, .int 0, .int 1]) (ex_lst0 m1.pool (ev_lst (ea_cons ev_int (ea_cons ev_int (ea_cons ev_int ea_nil))) (by simp))) (by rintro ds rfl; rfl) rfl (by decide) (by decide)) fun v4 d4 B4 O4 H4 x4 hR4 dv4 st => ?_
  obtain ⟨⟨ds4, e4, hz4⟩, m4⟩ := hR4
  subst e4
  have g4 : good d4 = true := by
    have e : d4 = .int 0 ∨ d4 = .int 0 ∨ d4 = .int 1 := by simpa using hz4
    rcases e with e | e | e <;> (subst e; exact PT.good_int)
  refine sx_ret st (ex_tup (exs_cons (S := fun _ O' ds O'' => ∃ z, good z = true ∧ ds = [d4, z, hw] ∧ Mv p O' O'') (T := fun ds O'' => ∃ z, good z = true ∧ ds = [.str "cell", d4, z, hw] ∧ Mv p O4 O'') (ex_pure ev_str) (fun d B' O' _ e => ?_) ?_) ?_) fun v d B5 O5 H5 x5 hR w5 d5 => ?_
  · obtain ⟨rfl, rfl⟩ := e
    refine exs_cons (S := fun _ O' ds O'' => ∃ z, good z = true ∧ ds = [z, hw] ∧ Mv p O' O'') (ex_pure (ev_var rfl)) (fun d B' O' _ e => ?_) ?_
    · obtain ⟨rfl, rfl⟩ := e
      refine exs_cons (S := fun _ O' ds O'' => ds = [hw] ∧ O'' = O') (ex_pick (p := p) (P := fun ds => ds = [.none, .none, .int 2]) (ex_lst0 m4.pool (ev_lst (ea_cons ev_non (ea_cons ev_non (ea_cons ev_int ea_nil))) (by simp))) (by rintro ds rfl; rfl) rfl (by decide) (by decide)) (fun d B'' O'' _ _ => exs_cons (S := fun _ O' ds O'' => ds = [] ∧ O'' = O') (ex_pure (ev_var rfl)) (fun d B'' O'' _ _ => exs_nil) ?_) ?_
      · rintro d O2 ds O3 ⟨rfl, rfl⟩ ⟨rfl, rfl⟩
        exact ⟨rfl, rfl⟩
      · rintro d O2 ds O3 ⟨⟨ds', rfl, hz⟩, m⟩ ⟨rfl, rfl⟩
        refine ⟨d, ?_, rfl, m⟩
        have e : d = .none ∨ d = .none ∨ d = .int 2 := by simpa using hz
        rcases e with e | e | e
        · subst e; exact PT.good_none
        · subst e; exact PT.good_none
        · subst e; exact PT.good_int
    · rintro d O2 ds O3 ⟨rfl, rfl⟩ ⟨z, g, rfl, m⟩
      exact ⟨z, g, rfl, m⟩
  · rintro d O2 ds O3 ⟨rfl, rfl⟩ ⟨z, g, rfl, m⟩
    exact ⟨z, g, rfl, m⟩
  · rintro ds O2 ⟨z, _, rfl, _⟩
    simp
  · obtain ⟨ds, rfl, z, g, rfl, m⟩ := hR
    exact q v _ B5 O5 H5 ((((x1.trans x2).trans x3).trans x4).trans x5) ⟨.leaf "cell" [d4, z, hw], leaf_ok (by decide) (by simp) (by simp [g, g4, hgood]), rfl, (m1.trans m4).trans m⟩ w5 d5

end
end G
end Toy

set_option Elab.async false
set_option linter.all false
set_option maxRecDepth 100000
set_option maxHeartbeats 4000000
namespace Toy
namespace G
open PySem PySem.Spec PyProof.Rows L2 StX DL PT

section
variable {P : Program} {w : World} {K : PySem.W.Frag} {mg : Str → Option Value} {base : Heap} {AD : Ads}


def del (O : Hp) (l : Addr) : Hp := fun a => if a = l then none else O a
theorem del_same {O : Hp} {l : Addr} : del O l l = none := if_pos rfl
theorem del_ne {O : Hp} {l a : Addr} (h : a ≠ l) : del O l a = O a := if_neg h
theorem del_ex {O : Hp} {l : Addr} : Ex (del O l) O := fun a o e => by
  unfold del at e
  split at e
  · cases e
  · exact e
theorem W.sub {B O O' H : Hp} (w : W B O H) (e : Ex O' O) : W B O' H := ⟨w.b, fun a o h => w.o a o (e a o h), fun a => by
  rcases w.d a with q | q
  · exact .inl q
  · refine .inr ?_
    cases h : O' a with
    | none => rfl
    | some o => rw [e a o h] at q; cases q⟩
theorem upd_del {O : Hp} {l : Addr} {u : HO} (h : O l = some u) : O = upd (del O l) l u := by
  funext a
  by_cases e : a = l
  · subst e
    rw [h, upd_same]
  · rw [upd_ne e, del_ne e]
def psP : List Str := ["pool", "room", "depth", "limits", "told"]
def PreP (h : Nat) (gs : List SD) (_ O : Hp) (R : PyData → Hp → Prop) : Prop := ∃ p r limits told, (0 < h ∧ h ≤ 7) ∧ gs = [.val (.ref p), .val (.ref r), .dat (.int (7 - (h : Int))), .dat (.int limits), .dat (.bool told)] ∧ PoolAt O p ∧ RoomAt O r ∧ R = fun d O' => ∃ t, ok h t ∧ d = enc t ∧ Mv2 p r O O'
abbrev CalPart (P : Program) (w : World) (K : PySem.W.Frag) (mg : Str → Option Value) (base : Heap) (h : Nat) : Prop := Cal P w K mg base (2 * h + 12) "_law_part" ["pool", "room", "depth", "limits", "told"] (SpX K (PreP h))
def encO (o : Int × Part) : PyData := .tuple [.int o.1, enc o.2]
def PreO (h : Nat) (gs : List SD) (_ O : Hp) (R : PyData → Hp → Prop) : Prop := ∃ p r limits told, (0 < h ∧ h ≤ 7) ∧ gs = [.val (.ref p), .val (.ref r), .dat (.int (7 - (h : Int))), .dat (.int limits), .dat (.bool told)] ∧ PoolAt O p ∧ RoomAt O r ∧
  R = fun d O' => ∃ os : List (Int × Part), d = .tuple (os.map encO) ∧ 0 < os.length ∧ os.length ≤ 3 ∧ (∀ o, o ∈ os → ok h o.2) ∧ Mv2 p r O O'
theorem cut_to {ds : List PyData} {r : Int} (h : 0 ≤ r) : cutX ds none (some r) = ds.take r.toNat := by
  have e : HT.sIx ds.length ds.length (some r) = min r.toNat ds.length := by
    have := HT.sIx_nat ds.length ds.length r.toNat
    rwa [show ((r.toNat : Nat) : Int) = r by omega] at this
  unfold cutX
  rw [e, HT.sIx_none, List.drop_zero, Nat.sub_zero]
  by_cases hl : r.toNat ≤ ds.length
  · rw [Nat.min_eq_left hl]
  · rw [Nat.min_eq_right (by omega), List.take_length, List.take_of_length_le (by omega)]
theorem eqv_nilO {os : List (Int × Part)} : PyData.eqv (.list (os.map encO)) (.list []) = os.isEmpty := by
  cases os with
  | nil => rfl
  | cons n ns => simp [PyData.eqv, PyData.eqvAll]
def nums6 : List PyData := [.int 0, .int 2, .int 3]
theorem ok_law_options {h : Nat} {f fr : Addr} {fd fdr : FuncData} (T : Txt K mg AD) (a : At K mg "_law_options" s_law_options ["pool", "room", "depth", "limits", "told"] f fd) (ad : At K mg "_law_draw" s_law_draw ["pool", "count"] fr fdr) (C_law_part : CalPart P w K mg base h) :
    FnOk P w K mg base CX0 (2 * h + 13) f fd ["pool", "room", "depth", "limits", "told"] (SpX K (PreO h)) := by
  have C_law_draw := ad.cal (ok_law_draw (P := P) (w := w) (base := base) T ad)
  refine ok_fnX a.fn sc_law_options (by rintro gs B O R ⟨p, r, lm, told, _, rfl, _⟩; rfl) fun cdv A outer s H0 E hr => ?_
  refine ⟨_, (pss_cons (ps_set (i := 5) sc_law_options.nd rfl (Or.inl rfl) (pe_lst pa_nil))
    (pss_cons (ps_for PassesOwn.never rfl (pi_listK K (pe_slice (sl_listK K) (pe_lst (pa_cons pe_int (pa_cons pe_int (pa_cons pe_int pa_nil)))) po_none (po_some (pe_op op_add pe_int (pe_cal C_law_draw hr (by omega) (by rfl) (pa_cons (pv 0) (pa_cons pe_int pa_nil))))))) (pg_name (i := 6) sc_law_options.nd rfl (Or.inl rfl)) (pss_one (ps_if (PW.pt (pw_or (pt_cmpR (op_eqDK K hr.units) (pv 5) (pe_lst pa_nil) (nomark _)) (pw_or1 (pt_cmpR op_gt (pe_ix (ix_listK K) (pv 1) pe_int (fun _ _ => rfl)) pe_int (nomark _))))) (pss_one (ps_expr (pe_bm PySem.F.plainAttrs_list PySem.F.slot_list_append PySem.F.type_list_append mt_append (pv 5) (pa_cons (pe_tup (pa_cons (pv 6) (pa_cons (pe_cal C_law_part hr (by omega) (by rfl) (pa_cons (pv 0) (pa_cons (pv 1) (pa_cons (pv 2) (pa_cons (pv 3) (pa_cons (pv 4) pa_nil)))))) pa_nil))) pa_nil)))) pss_nil)))
    (pss_one (ps_ret (pe_callTy (call_tupleK K) (by rfl) T.b_tuple (by decide +kernel) (pa_cons (pv 5) pa_nil)))))), ?_⟩
  rintro gs B O R σ H Q ⟨p, r, lm, told, hh, rfl, hp, hrm, rfl⟩ st q
  refine q_asgL st (el_lst ea_nil (by simp)) fun l vs0 B1 H1 x1 nl dv0 st => ?_
  have e0 : vs0 = [] := by cases dv0; rfl
  subst e0
  have lp : l ≠ p := by
    obtain ⟨_, _, e, _⟩ := hp
    intro z
    subst z
    rw [nl] at e
    cases e
  have lr : l ≠ r := by
    obtain ⟨_, e⟩ := hrm
    intro z
    subst z
    rw [nl] at e
    cases e
  have hp1 : PoolAt (upd O l (.lst [])) p := by
    obtain ⟨x, y, e, hy⟩ := hp
    exact ⟨x, y, by rw [upd_ne lp.symm]; exact e, hy⟩
  have hr1 : RoomAt (upd O l (.lst [])) r := by
    obtain ⟨z, e⟩ := hrm
    exact ⟨z, by rw [upd_ne lr.symm]; exact e⟩
  refine qx_for st (T := fun es O' => (∃ m : Nat, 0 < m ∧ es = nums6.take m) ∧ Mv p (upd O l (.lst [])) O') (eix_list (ex_imp (ex_slL (P := fun rr O' => 0 < rr ∧ Mv p (upd O l (.lst [])) O') (ev_lst (ea_cons ev_int (ea_cons ev_int (ea_cons ev_int ea_nil))) (by simp))
      (ex_op (ex_pure ev_int) (R2' := fun _ O' d2 O'' => ∃ r, d2 = .int r ∧ 0 ≤ r ∧ r < 3 ∧ Mv p O' O'') (fun d1 B' O' _ e => ?_) ?_)) ?_))
    (fun es i B' O' G' => (∃ m : Nat, 0 < m ∧ es = nums6.take m) ∧ ∃ (vs : List V) (os : List (Int × Part)), O' l = some (.lst vs) ∧ DtAll K B' vs (os.map encO) ∧ (∀ o, o ∈ os → ok h o.2) ∧ os.length ≤ i ∧ (0 < i → 0 < os.length) ∧ PoolAt O' p ∧ RoomAt O' r ∧ (∀ a, a ≠ p → a ≠ r → a ≠ l → O' a = O a) ∧
      ∃ g6 : SD, G' = [.val (.ref p), .val (.ref r), .dat (.int (7 - (h : Int))), .dat (.int lm), .dat (.bool told), .val (.ref l), g6])
    ?_ ?_ ?_ ?_
  · obtain ⟨rfl, rfl⟩ := e
    exact ex_draw rfl hp1 (by decide) (by decide)
  · rintro d1 O2 d2 O3 ⟨rfl, rfl⟩ ⟨rr, rfl, r0, r1, m⟩
    exact ⟨_, rd_I0, _, rfl, by omega, m⟩
  · rintro d O' ⟨rr, rfl, r0, m⟩
    exact ⟨_, rfl, ⟨rr.toNat, by omega, cut_to (by omega)⟩, m⟩
  · rintro es i B2 B3 O2 G2 e ⟨hm, vs, os, a1, a2, a3⟩
    exact ⟨hm, vs, os, a1, dps_ex e _ _ a2, a3⟩
  · rintro es O' B2 e ⟨hm, m⟩
    refine ⟨hm, [], [], ?_, .nil, by simp, by simp, by simp, m.pool, (m.two hp1 hr1).room, fun a h1 h2 h3 => ?_, _, rfl⟩
    · rw [m.fr l lp, upd_same]
    · rw [m.fr a h1, upd_ne h3]
  · rintro es i e B2 O2 G2 σ2 H2 v hie x2 ⟨⟨m, hm0, rfl⟩, vs, os, hl, dvs, hok, hlen, hpos, hp2, hr2, hfr, g6, rfl⟩ st dv N hN
    have hmem : e ∈ nums6 := List.mem_of_mem_take (List.mem_of_getElem? hie)
    have hi6 : i < 3 := by
      have := (List.getElem?_eq_some_iff.mp hie).1
      rw [List.length_take] at this
      have h6 : nums6.length = 3 := rfl
      omega
    obtain ⟨n, rfl⟩ : ∃ n, e = .int n := by
      have e' : e = .int 0 ∨ e = .int 2 ∨ e = .int 3 := by simpa [nums6] using hmem
      rcases e' with e' | e' | e' <;> exact ⟨_, e'⟩
    obtain ⟨z, hz⟩ := id hr2
    refine eg_name B2 _ σ2 H2 v st dv _ fun σ3 st _ => ?_
    have hvl := dps_len dvs
    rw [List.length_map] at hvl
    refine s_if st (et_or (et_test (ev_eqO rfl hl dvs (ev_lst ea_nil (by simp)) ((lay_opts fun o ho => ok_pt (hok o ho)).sh (by omega)) sh_nilL eqv_nilO)) fun _ => et_test (ev_op (ev_ixO rfl hz (ints_dps [z]) ev_int at0) ev_int rd_B0)) (fun h1 B3 H3 x3 st => ?_) (fun h1 B3 H3 x3 st => ?_)
    · refine sx_app st rfl hl (by omega) (ex_tup (T := fun ds O'' => ∃ t, ok h t ∧ ds = [.int n, enc t] ∧ Mv2 p r O2 O'') (exs_cons (S := fun _ O' ds O'' => ∃ t, ok h t ∧ ds = [enc t] ∧ Mv2 p r O' O'') (ex_pure (ev_var rfl)) (fun d B' O' _ e => ?_) ?_) ?_) ?_ fun v4 d4 B4 O4 H4 x4 hR d4' st => ?_
      · obtain ⟨rfl, rfl⟩ := e
        refine exs_cons (R := fun d O'' => ∃ t, ok h t ∧ d = enc t ∧ Mv2 p r O' O'') (S := fun _ O' ds O'' => ds = [] ∧ O'' = O') (ex_call (as_val (evV_var rfl) (as_val (evV_var rfl) (as_dat (ev_var rfl) (as_dat (ev_var rfl) (as_dat (ev_var rfl) as_nil))))) fun B'' _ => ⟨p, r, lm, told, hh, rfl, hp2, hr2, rfl⟩) (fun d B'' O'' _ _ => exs_nil) ?_
        rintro d O3 ds O4 ⟨t, ht, rfl, m2⟩ ⟨rfl, rfl⟩
        exact ⟨t, ht, rfl, m2⟩
      · rintro d O3 ds O4 ⟨rfl, rfl⟩ ⟨t, ht, rfl, m2⟩
        exact ⟨t, ht, rfl, m2⟩
      · rintro ds O3 ⟨t, _, rfl, _⟩
        simp
      · rintro d O3 ⟨ds, _, t, _, _, m2⟩
        rw [m2.fr l lp lr]
        exact hl
      · obtain ⟨ds, rfl, t, ht, rfl, m2⟩ := hR
        refine hN B4 _ _ _ _ (x3.trans x4) ⟨⟨m, hm0, rfl⟩, vs ++ [v4], os ++ [(n, t)], upd_same, ?_, fun o ho => ?_, ?_, ?_, ?_, ?_, fun a h1 h2 h3 => ?_, _, rfl⟩ st
        · rw [List.map_append]
          exact dps_app (dps_ex (x3.trans x4) _ _ dvs) (dps_one d4')
        · rcases List.mem_append.mp ho with ho | ho
          · exact hok o ho
          · have : o = (n, t) := by simpa using ho
            subst this
            exact ht
        · simp
          omega
        · simp
        · obtain ⟨x, y, e, hy⟩ := m2.pool
          exact ⟨x, y, by rw [upd_ne lp.symm]; exact e, hy⟩
        · obtain ⟨zz, e⟩ := m2.room
          exact ⟨zz, by rw [upd_ne lr.symm]; exact e⟩
        · rw [upd_ne h3, m2.fr a h1 h2]
          exact hfr a h1 h2 h3
    · have hne : os ≠ [] := by
        intro e
        subst e
        simp at h1
      exact hN B3 _ _ _ _ x3 ⟨⟨m, hm0, rfl⟩, vs, os, hl, dps_ex x3 _ _ dvs, hok, by omega, fun _ => List.length_pos_iff.mpr hne, hp2, hr2, hfr, _, rfl⟩ st
  · rintro es B2 O2 G2 σ2 H2 x2 ⟨⟨m, hm0, rfl⟩, vs, os, hl, dvs, hok, hlen, hpos, hp2, hr2, hfr, g6, rfl⟩ st
    have h6 : (nums6.take m).length ≤ 3 := List.length_take_le' m nums6
    have h1 : 0 < (nums6.take m).length := by
      rw [List.length_take]
      have : nums6.length = 3 := rfl
      omega
    refine s_ret st (ev_tupO rfl hl dvs) fun v B3 H3 x3 w3 d3 => ?_
    refine q v _ B3 (del O2 l) H3 ((x1.trans x2).trans x3) ⟨os, rfl, hpos h1, by omega, hok, ?_, ?_, fun a h1 h2 => ?_⟩ (W.sub w3 del_ex) d3
    · obtain ⟨x, y, e, hy⟩ := hp2
      exact ⟨x, y, by rw [del_ne lp.symm]; exact e, hy⟩
    · obtain ⟨zz, e⟩ := hr2
      exact ⟨zz, by rw [del_ne lr.symm]; exact e⟩
    · by_cases h3 : a = l
      · subst h3
        rw [del_same, nl]
      · rw [del_ne h3]
        exact hfr a h1 h2 h3

end
end G
end Toy

set_option Elab.async false
set_option linter.all false
set_option maxRecDepth 100000
set_option maxHeartbeats 4000000
namespace Toy
namespace G
open PySem PySem.Spec PyProof.Rows L2 StX DL PT

section
variable {P : Program} {w : World} {K : PySem.W.Frag} {mg : Str → Option Value} {base : Heap} {AD : Ads}


section
variable {B O : Hp} {G : List SD} {i : Nat} {p r : Addr} {n : Int} {E : XK}
theorem ex_nnd (hg : G[i]? = some (.val (.ref p))) (hp : PoolAt O p) (h0 : 0 < n) (h1 : n < 1000000) : EvX K B O G (tLst (tCons (tC .non) (tCons (tC .non) (tCons (tCall (SpX K PreDraw) [] E (tCons (tVar i) (tCons (tC (.int n)) tNil))) tNil)))) (fun d O' => ∃ ds, d = .list ds ∧ (∃ x, ds = [.none, .none, .int x]) ∧ Mv p O O') := by
  refine ex_imp (ex_lst (T := fun ds O' => ∃ x, ds = [.none, .none, .int x] ∧ Mv p O O') (exs_cons (S := fun _ O' ds O'' => ∃ x, ds = [.none, .int x] ∧ Mv p O' O'') (ex_pure ev_non) (fun d B' O' _ e => ?_) ?_) ?_) ?_
  · obtain ⟨rfl, rfl⟩ := e
    refine exs_cons (S := fun _ O' ds O'' => ∃ x, ds = [.int x] ∧ Mv p O' O'') (ex_pure ev_non) (fun d B' O' _ e => ?_) ?_
    · obtain ⟨rfl, rfl⟩ := e
      refine exs_cons (S := fun _ O' ds O'' => ds = [] ∧ O'' = O') (ex_draw hg hp h0 h1) (fun d B'' O'' _ _ => exs_nil) ?_
      rintro d O2 ds O3 ⟨x, rfl, _, _, m⟩ ⟨rfl, rfl⟩
      exact ⟨x, rfl, m⟩
    · rintro d O2 ds O3 ⟨rfl, rfl⟩ ⟨x, rfl, m⟩
      exact ⟨x, rfl, m⟩
  · rintro d O2 ds O3 ⟨rfl, rfl⟩ ⟨x, rfl, m⟩
    exact ⟨x, rfl, m⟩
  · rintro ds O2 ⟨x, rfl, _⟩
    simp
  · rintro d O2 ⟨ds, rfl, x, rfl, m⟩
    exact ⟨_, rfl, ⟨x, rfl⟩, m⟩
theorem ex_nd (hg : G[i]? = some (.val (.ref p))) (hp : PoolAt O p) (h0 : 0 < n) (h1 : n < 1000000) : EvX K B O G (tLst (tCons (tC .non) (tCons (tCall (SpX K PreDraw) [] E (tCons (tVar i) (tCons (tC (.int n)) tNil))) tNil))) (fun d O' => ∃ ds, d = .list ds ∧ (∃ x, ds = [.none, .int x]) ∧ Mv p O O') := by
  refine ex_imp (ex_lst (T := fun ds O' => ∃ x, ds = [.none, .int x] ∧ Mv p O O') (exs_cons (S := fun _ O' ds O'' => ∃ x, ds = [.int x] ∧ Mv p O' O'') (ex_pure ev_non) (fun d B' O' _ e => ?_) ?_) ?_) ?_
  · obtain ⟨rfl, rfl⟩ := e
    refine exs_cons (S := fun _ O' ds O'' => ds = [] ∧ O'' = O') (ex_draw hg hp h0 h1) (fun d B'' O'' _ _ => exs_nil) ?_
    rintro d O2 ds O3 ⟨x, rfl, _, _, m⟩ ⟨rfl, rfl⟩
    exact ⟨x, rfl, m⟩
  · rintro d O2 ds O3 ⟨rfl, rfl⟩ ⟨x, rfl, m⟩
    exact ⟨x, rfl, m⟩
  · rintro ds O2 ⟨x, rfl, _⟩
    simp
  · rintro d O2 ⟨ds, rfl, x, rfl, m⟩
    exact ⟨_, rfl, ⟨x, rfl⟩, m⟩
theorem ex_most (hg : G[i]? = some (.val (.ref p))) (hp : PoolAt O p) (h0 : 0 < n) (h1 : n < 1000000) : EvX K B O G (tOp (rIxL K) (tLst (tCons (tC .non) (tCons (tC .non) (tCons (tCall (SpX K PreDraw) [] E (tCons (tVar i) (tCons (tC (.int n)) tNil))) tNil)))) (tCall (SpX K PreDraw) [] E (tCons (tVar i) (tCons (tC (.int 3)) tNil)))) (fun d O' => good d = true ∧ Mv p O O') :=
  ex_imp (ex_pick (p := p) (P := fun ds => ∃ x, ds = [.none, .none, .int x]) (ex_nnd hg hp h0 h1) (by rintro ds ⟨x, rfl⟩; rfl) hg (by decide) (by decide)) fun d O' ⟨⟨ds, ⟨x, e⟩, hz⟩, m⟩ => by
    subst e
    have e : d = .none ∨ d = .none ∨ d = .int x := by simpa using hz
    rcases e with e | e | e
    · subst e; exact ⟨PT.good_none, m⟩
    · subst e; exact ⟨PT.good_none, m⟩
    · subst e; exact ⟨PT.good_int, m⟩
theorem ex_ahead (hg : G[i]? = some (.val (.ref p))) (hp : PoolAt O p) (h0 : 0 < n) (h1 : n < 1000000) : EvX K B O G (tOp (rIxL K) (tLst (tCons (tC .non) (tCons (tCall (SpX K PreDraw) [] E (tCons (tVar i) (tCons (tC (.int n)) tNil))) tNil))) (tCall (SpX K PreDraw) [] E (tCons (tVar i) (tCons (tC (.int 2)) tNil)))) (fun d O' => good d = true ∧ Mv p O O') :=
  ex_imp (ex_pick (p := p) (P := fun ds => ∃ x, ds = [.none, .int x]) (ex_nd hg hp h0 h1) (by rintro ds ⟨x, rfl⟩; rfl) hg (by decide) (by decide)) fun d O' ⟨⟨ds, ⟨x, e⟩, hz⟩, m⟩ => by
    subst e
    have e : d = .none ∨ d = .int x := by simpa using hz
    rcases e with e | e
    · subst e; exact ⟨PT.good_none, m⟩
    · subst e; exact ⟨PT.good_int, m⟩
/-- a word of a list, by a draw -/
theorem ex_word {ta : TE} {ws : List Str} (hp : PoolAt O p) (h : EvD K B O G ta (.list (ws.map .str))) (hl : (ws.length : Int) = n) (hw : ∀ w, w ∈ ws → PyData.strOk w = true) (hg : G[i]? = some (.val (.ref p))) (h0 : 0 < n) (h1 : n < 1000000) :
    EvX K B O G (tOp (rIxL K) ta (tCall (SpX K PreDraw) [] E (tCons (tVar i) (tCons (tC (.int n)) tNil)))) (fun d O' => ∃ w, w ∈ ws ∧ d = .str w ∧ Mv p O O') :=
  ex_imp (ex_pick (p := p) (P := fun ds => ds = ws.map .str) (ex_lst0 hp h) (by rintro ds rfl; rw [List.length_map]; exact hl) hg h0 h1) fun d O' ⟨⟨ds, e, hz⟩, m⟩ => by
    subst e
    obtain ⟨w, hw, rfl⟩ := List.mem_map.mp hz
    exact ⟨w, hw, rfl, m⟩
end
theorem Mv2.of {p r : Addr} {O O1 O2 : Hp} (a : Mv p O O1) (h : PoolAt O p) (h2 : RoomAt O r) (b : Mv2 p r O1 O2) : Mv2 p r O O2 := (a.two h h2).trans b
theorem ok_one {h : Nat} {w : Str} {fs : List PyData} {t : Part} (hw : isOneW w = true) (h1 : fs.length ≤ 4) (h2 : fs.all good = true) (h3 : w = "times" → ∃ n, fs = [.int n] ∧ 0 ≤ n ∧ n ≤ 6) (ht : ok h t) : ok (h + 1) (.one w fs t) := ⟨⟨hw, h1, h2, h3⟩, fun p hp => by
  have : p = t := by simpa [kids] using hp
  subst this
  exact ht⟩
def PreC (h : Nat) (gs : List SD) (_ O : Hp) (R : PyData → Hp → Prop) : Prop := ∃ p hw r limits told, (0 < h ∧ h ≤ 7) ∧ gs = [.val (.ref p), .dat hw, .val (.ref r), .dat (.int (7 - (h : Int))), .dat (.int limits), .dat (.bool told)] ∧ PoolAt O p ∧ RoomAt O r ∧ good hw = true ∧
  R = fun d O' => ∃ t, ok (h + 1) t ∧ d = enc t ∧ Mv2 p r O O'
theorem ok_law_counted {h : Nat} {f fr fs fp : Addr} {fd fdr fds fdp : FuncData} (T : Txt K mg AD) (a : At K mg "_law_counted" s_law_counted ["pool", "how", "room", "depth", "limits", "told"] f fd) (ad : At K mg "_law_draw" s_law_draw ["pool", "count"] fr fdr)
    (as : At K mg "_law_size" s_law_size ["part"] fs fds) (ap : At K mg "_law_children" s_law_children ["part"] fp fdp) (C_law_part : CalPart P w K mg base h) :
    FnOk P w K mg base CX0 (2 * h + 13) f fd ["pool", "how", "room", "depth", "limits", "told"] (SpX K (PreC h)) := by
  have C_law_draw := ad.cal (ok_law_draw (P := P) (w := w) (base := base) T ad)
  have C_law_size := as.cal (ok_law_size (P := P) (w := w) (base := base) T as ap h)
  refine ok_fnX a.fn sc_law_counted (by rintro gs B O R ⟨p, hw, r, lm, told, _, rfl, _⟩; rfl) fun cdv A outer s H0 E hr => ?_
  refine ⟨_, (pss_cons (ps_set (i := 6) sc_law_counted.nd rfl (Or.inl rfl) (pe_ix (ix_listK K) (pe_lst (pa_cons pe_non (pa_cons pe_non (pa_cons (pe_cal C_law_draw hr (by omega) (by rfl) (pa_cons (pv 0) (pa_cons pe_int pa_nil))) pa_nil)))) (pe_cal C_law_draw hr (by omega) (by rfl) (pa_cons (pv 0) (pa_cons pe_int pa_nil))) (fun _ _ => rfl)))
    (pss_cons (ps_set (i := 7) sc_law_counted.nd rfl (Or.inl rfl) (pe_ix (ix_listK K) (pe_lst (pa_cons pe_non (pa_cons (pe_cal C_law_draw hr (by omega) (by rfl) (pa_cons (pv 0) (pa_cons pe_int pa_nil))) pa_nil))) (pe_cal C_law_draw hr (by omega) (by rfl) (pa_cons (pv 0) (pa_cons pe_int pa_nil))) (fun _ _ => rfl)))
    (pss_cons (ps_set (i := 8) sc_law_counted.nd rfl (Or.inl rfl) (pe_cal C_law_part hr (by omega) (by rfl) (pa_cons (pv 0) (pa_cons (pv 2) (pa_cons (pv 3) (pa_cons (pv 4) (pa_cons (pv 5) pa_nil)))))))
    (Evl.pss_cut (ps_if (PW.pt (pw_or (pt_val (pv 5)) (pw_or1 (pt_cmpR op_isN (pe_cal C_law_size hr (by omega) (by rfl) (pa_cons (pv 8) pa_nil)) pe_non (nomark _))))) (pss_one (ps_set (i := 7) sc_law_counted.nd rfl (Or.inl rfl) pe_non)) pss_nil)
    (pss_one (ps_ret (pe_tup (pa_cons pe_str (pa_cons (pv 1) (pa_cons (pv 6) (pa_cons (pv 7) (pa_cons (pv 8) pa_nil)))))))))))), ?_⟩
  rintro gs B O R σ H Q ⟨p, hw, r, lm, told, hh, rfl, hp, hrm, hgood, rfl⟩ st q
  refine qx_asg st (ex_most rfl hp (by decide) (by decide)) fun v1 d1 B1 O1 H1 x1 ⟨g1, m1⟩ dv1 st => ?_
  have hr1 := (m1.two hp hrm).room
  refine qx_asg st (ex_ahead rfl m1.pool (by decide) (by decide)) fun v2 d2 B2 O2 H2 x2 ⟨g2, m2⟩ dv2 st => ?_
  have hr2 := (m2.two m1.pool hr1).room
  refine qx_asg st (R := fun d O' => ∃ t, ok h t ∧ d = enc t ∧ Mv2 p r O2 O') (ex_call (as_val (evV_var rfl) (as_val (evV_var rfl) (as_dat (ev_var rfl) (as_dat (ev_var rfl) (as_dat (ev_var rfl) as_nil))))) fun B'' _ => ⟨p, r, lm, told, hh, rfl, m2.pool, hr2, rfl⟩) fun v3 d3 B3 O3 H3 x3 ⟨t, ht, e3, m3⟩ dv3 st => ?_
  subst e3
  refine ⟨fun σ' H' => ∃ B' a', Ex B3 B' ∧ good a' = true ∧ Sta K B' O3 [.val (.ref p), .dat hw, .val (.ref r), .dat (.int (7 - (h : Int))), .dat (.int lm), .dat (.bool told), .dat d1, .dat a', .dat (enc t)] σ' H', ?_, ?_⟩
  · refine s_if st (et_or (et_B (ev_var rfl)) fun _ => et_test (ev_isNone (ev_call (ea_cons (ev_var rfl) ea_nil) ⟨t, ok_pt ht, rfl, rfl⟩) ev_non rfl)) (fun _ B4 H4 x4 st => ?_) (fun _ B4 H4 x4 st => ?_)
    · refine s_asg st ev_non fun v5 B5 H5 x5 d5 st => ?_
      exact ⟨B5, _, x4.trans x5, PT.good_none, st⟩
    · exact ⟨B4, d2, x4, g2, st⟩
  rintro σ4 H4 ⟨B4, a', x4, ga, st⟩
  refine s_ret st (ev_tup (ea_cons ev_str (ea_cons (ev_var rfl) (ea_cons (ev_var rfl) (ea_cons (ev_var rfl) (ea_cons (ev_var rfl) ea_nil))))) (by simp)) fun v B5 H5 x5 w5 d5 => ?_
  exact q v _ B5 O3 H5 ((((x1.trans x2).trans x3).trans x4).trans x5) ⟨.one "counted" [hw, d1, a'] t, ok_one (by decide) (by simp) (by simp [hgood, g1, ga]) (fun e => absurd e (by decide)) ht, rfl, Mv2.of m1 hp hrm (Mv2.of m2 m1.pool hr1 m3)⟩ w5 d5
def PreW (h : Nat) (gs : List SD) (_ O : Hp) (R : PyData → Hp → Prop) : Prop := ∃ p hw r limits, (0 < h ∧ h ≤ 7) ∧ gs = [.val (.ref p), .dat hw, .val (.ref r), .dat (.int (7 - (h : Int))), .dat (.int limits)] ∧ PoolAt O p ∧ RoomAt O r ∧ good hw = true ∧
  R = fun d O' => ∃ t, ok (h + 1) t ∧ d = enc t ∧ Mv2 p r O O'
theorem ok_law_within {h : Nat} {f fr : Addr} {fd fdr : FuncData} (T : Txt K mg AD) (a : At K mg "_law_within" s_law_within ["pool", "how", "room", "depth", "limits"] f fd) (ad : At K mg "_law_draw" s_law_draw ["pool", "count"] fr fdr) (C_law_part : CalPart P w K mg base h) :
    FnOk P w K mg base CX0 (2 * h + 13) f fd ["pool", "how", "room", "depth", "limits"] (SpX K (PreW h)) := by
  have C_law_draw := ad.cal (ok_law_draw (P := P) (w := w) (base := base) T ad)
  refine ok_fnX a.fn sc_law_within (by rintro gs B O R ⟨p, hw, r, lm, _, rfl, _⟩; rfl) fun cdv A outer s H0 E hr => ?_
  refine ⟨_, (pss_cons (ps_set (i := 5) sc_law_within.nd rfl (Or.inl rfl) (pe_ix (ix_listK K) (pe_lst (pa_cons pe_non (pa_cons pe_non (pa_cons (pe_cal C_law_draw hr (by omega) (by rfl) (pa_cons (pv 0) (pa_cons pe_int pa_nil))) pa_nil)))) (pe_cal C_law_draw hr (by omega) (by rfl) (pa_cons (pv 0) (pa_cons pe_int pa_nil))) (fun _ _ => rfl)))
    (pss_cons (ps_set (i := 6) sc_law_within.nd rfl (Or.inl rfl) (pe_ix (ix_listK K) (pe_lst (pa_cons pe_str (pa_cons pe_str (pa_cons pe_str (pa_cons pe_str pa_nil))))) (pe_cal C_law_draw hr (by omega) (by rfl) (pa_cons (pv 0) (pa_cons pe_int pa_nil))) (fun _ _ => rfl)))
    (pss_cons (ps_set (i := 7) sc_law_within.nd rfl (Or.inl rfl) (pe_ix (ix_listK K) (pe_lst (pa_cons pe_str (pa_cons pe_str pa_nil))) (pe_cal C_law_draw hr (by omega) (by rfl) (pa_cons (pv 0) (pa_cons pe_int pa_nil))) (fun _ _ => rfl)))
    (pss_one (ps_ret (pe_tup (pa_cons pe_str (pa_cons (pv 1) (pa_cons (pv 5) (pa_cons (pv 6) (pa_cons (pv 7) (pa_cons (pe_cal C_law_part hr (by omega) (by rfl) (pa_cons (pv 0) (pa_cons (pv 2) (pa_cons (pv 3) (pa_cons (pe_op op_add (pv 4) pe_int) (pa_cons (pe_cmpR op_eq (pv 6) pe_str (nomark _)) pa_nil)))))) pa_nil)))))))))))), ?_⟩
  rintro gs B O R σ H Q ⟨p, hw, r, lm, hh, rfl, hp, hrm, hgood, rfl⟩ st q
  refine qx_asg st (ex_most rfl hp (by decide) (by decide)) fun v1 d1 B1 O1 H1 x1 ⟨g1, m1⟩ dv1 st => ?_
  have hr1 := (m1.two hp hrm).room
  refine qx_asg st (ex_word (ws := ["nested", "nested", "cut", "told"]) m1.pool (ev_lst (ea_cons ev_str (ea_cons ev_str (ea_cons ev_str (ea_cons ev_str ea_nil)))) (by simp)) rfl (by decide +kernel) rfl (by decide) (by decide)) fun v2 d2 B2 O2 H2 x2 ⟨w2, hw2, e2, m2⟩ dv2 st => ?_
  subst e2
  have g2 : good (.str w2) = true := PT.good_str ((by decide +kernel : ∀ w, w ∈ (["nested", "nested", "cut", "told"] : List Str) → PyData.strOk w = true) w2 hw2)
  have hr2 := (m2.two m1.pool hr1).room
  refine qx_asg st (ex_word (ws := ["skip", "exact"]) m2.pool (ev_lst (ea_cons ev_str (ea_cons ev_str ea_nil)) (by simp)) rfl (by decide +kernel) rfl (by decide) (by decide)) fun v3 d3 B3 O3 H3 x3 ⟨w3, hw3, e3, m3⟩ dv3 st => ?_
  subst e3
  have g3 : good (.str w3) = true := PT.good_str ((by decide +kernel : ∀ w, w ∈ (["skip", "exact"] : List Str) → PyData.strOk w = true) w3 hw3)
  have hr3 := (m3.two m2.pool hr2).room
  have hc : EvX K B3 O3 [.val (.ref p), .dat hw, .val (.ref r), .dat (.int (7 - (h : Int))), .dat (.int lm), .dat d1, .dat (.str w2), .dat (.str w3)] (tCall (SpX K (PreP h)) [] E0 (tCons (tVar 0) (tCons (tVar 2) (tCons (tVar 3) (tCons (tOp (rI0 fun i j => .int (i + j)) (tVar 4) (tC (.int 1))) (tCons (tOp rEq (tVar 6) (tC (.str "told"))) tNil)))))) (fun d O' => ∃ t, ok h t ∧ d = enc t ∧ Mv2 p r O3 O') :=
    ex_call (as_val (evV_var rfl) (as_val (evV_var rfl) (as_dat (ev_var rfl) (as_dat (ev_op (ev_var rfl) ev_int rd_I0) (as_dat (ev_op (ev_var rfl) ev_str rd_eqStr) as_nil))))) fun B'' _ => ⟨p, r, lm + 1, w2 == "told", hh, rfl, m3.pool, hr3, rfl⟩
  refine sx_ret st (ex_tup (T := fun ds O' => ∃ t, ok h t ∧ ds = [.str "within", hw, d1, .str w2, .str w3, enc t] ∧ Mv2 p r O3 O') (exs_cons (S := fun _ O' ds O'' => ∃ t, ok h t ∧ ds = [hw, d1, .str w2, .str w3, enc t] ∧ Mv2 p r O' O'') (ex_pure ev_str) (fun d B' O' xb e => ?_) ?_) ?_) fun v d B5 O5 H5 x5 hR w5 d5 => ?_
  · obtain ⟨e1, e2⟩ := e
    subst e2
    refine exs_cons (S := fun _ O' ds O'' => ∃ t, ok h t ∧ ds = [d1, .str w2, .str w3, enc t] ∧ Mv2 p r O' O'') (ex_pure (ev_var rfl)) (fun d B'' O'' xb2 e => ?_) ?_
    · obtain ⟨e1, e2⟩ := e
      subst e2
      refine exs_cons (S := fun _ O' ds O'' => ∃ t, ok h t ∧ ds = [.str w2, .str w3, enc t] ∧ Mv2 p r O' O'') (ex_pure (ev_var rfl)) (fun d B3' O'' xb3 e => ?_) ?_
      · obtain ⟨e1, e2⟩ := e
        subst e2
        refine exs_cons (S := fun _ O' ds O'' => ∃ t, ok h t ∧ ds = [.str w3, enc t] ∧ Mv2 p r O' O'') (ex_pure (ev_var rfl)) (fun d B4' O'' xb4 e => ?_) ?_
        · obtain ⟨e1, e2⟩ := e
          subst e2
          refine exs_cons (S := fun _ O' ds O'' => ∃ t, ok h t ∧ ds = [enc t] ∧ Mv2 p r O' O'') (ex_pure (ev_var rfl)) (fun d B5' O'' xb5 e => ?_) ?_
          · obtain ⟨e1, e2⟩ := e
            subst e2
            refine exs_cons (S := fun _ O' ds O'' => ds = [] ∧ O'' = O') (hc.ex ((((xb.trans xb2).trans xb3).trans xb4).trans xb5)) (fun d B'' O'' _ _ => exs_nil) ?_
            rintro d O4 ds O5 ⟨t, ht, rfl, m⟩ ⟨rfl, rfl⟩
            exact ⟨t, ht, rfl, m⟩
          · rintro d O4 ds O5 ⟨rfl, rfl⟩ ⟨t, ht, rfl, m⟩
            exact ⟨t, ht, rfl, m⟩
        · rintro d O4 ds O5 ⟨rfl, rfl⟩ ⟨t, ht, rfl, m⟩
          exact ⟨t, ht, rfl, m⟩
      · rintro d O4 ds O5 ⟨rfl, rfl⟩ ⟨t, ht, rfl, m⟩
        exact ⟨t, ht, rfl, m⟩
    · rintro d O4 ds O5 ⟨rfl, rfl⟩ ⟨t, ht, rfl, m⟩
      exact ⟨t, ht, rfl, m⟩
  · rintro d O4 ds O5 ⟨rfl, rfl⟩ ⟨t, ht, rfl, m⟩
    exact ⟨t, ht, rfl, m⟩
  · rintro ds O4 ⟨t, _, rfl, _⟩
    simp
  · obtain ⟨ds, rfl, t, ht, rfl, m⟩ := hR
    exact q v _ B5 O5 H5 (((x1.trans x2).trans x3).trans x5) ⟨.one "within" [hw, d1, .str w2, .str w3] t, ok_one (by decide) (by simp) (by simp [hgood, g1, g2, g3]) (fun e => absurd e (by decide)) ht, rfl, Mv2.of m1 hp hrm (Mv2.of m2 m1.pool hr1 (Mv2.of m3 m2.pool hr2 m))⟩ w5 d5

end
end G
end Toy

set_option Elab.async false
set_option linter.all false
set_option maxRecDepth 100000
set_option maxHeartbeats 4000000
namespace Toy
namespace G
open PySem PySem.Spec PyProof.Rows L2 StX DL PT

section
variable {P : Program} {w : World} {K : PySem.W.Frag} {mg : Str → Option Value} {base : Heap} {AD : Ads}


theorem dep_eq {h : Nat} : (7 : Int) - ((h + 1 : Nat) : Int) + 1 = 7 - (h : Int) := by omega
/-- where the defs of the generator stand -/
structure Gens (K : PySem.W.Frag) (mg : Str → Option Value) (f1 f2 f3 f4 f5 f6 f7 f8 : Addr) (d1 d2 d3 d4 d5 d6 d7 d8 : FuncData) : Prop where
  dr : At K mg "_law_draw" s_law_draw ["pool", "count"] f1 d1
  ch : At K mg "_law_children" s_law_children ["part"] f2 d2
  sz : At K mg "_law_size" s_law_size ["part"] f3 d3
  lf : At K mg "_law_leaf" s_law_leaf ["pool", "how", "told"] f4 d4
  op : At K mg "_law_options" s_law_options ["pool", "room", "depth", "limits", "told"] f5 d5
  co : At K mg "_law_counted" s_law_counted ["pool", "how", "room", "depth", "limits", "told"] f6 d6
  wi : At K mg "_law_within" s_law_within ["pool", "how", "room", "depth", "limits"] f7 d7
  pa : At K mg "_law_part" s_law_part ["pool", "room", "depth", "limits", "told"] f8 d8
theorem ok_law_part {f1 f2 f3 f4 f5 f6 f7 f8 : Addr} {d1 d2 d3 d4 d5 d6 d7 d8 : FuncData} (T : Txt K mg AD) (Gn : Gens K mg f1 f2 f3 f4 f5 f6 f7 f8 d1 d2 d3 d4 d5 d6 d7 d8) : ∀ h, FnOk P w K mg base CX0 (2 * h + 12) f8 d8 ["pool", "room", "depth", "limits", "told"] (SpX K (PreP h))
  | 0 => SpX_false fun gs B O R ⟨p, r, lm, told, hh, _⟩ => absurd hh.1 (by decide)
  | h + 1 => by
    have C_law_part : CalPart P w K mg base h := Gn.pa.cal (ok_law_part T Gn h)
    have C_law_draw := Gn.dr.cal (ok_law_draw (P := P) (w := w) (base := base) T Gn.dr)
    have C_law_leaf := Gn.lf.cal (ok_law_leaf (P := P) (w := w) (base := base) T Gn.lf Gn.dr)
    have C_law_options := Gn.op.cal (ok_law_options (h := h) T Gn.op Gn.dr C_law_part)
    have C_law_counted := Gn.co.cal (ok_law_counted (h := h) T Gn.co Gn.dr Gn.sz Gn.ch C_law_part)
    have C_law_within := Gn.wi.cal (ok_law_within (h := h) T Gn.wi Gn.dr C_law_part)
    refine ok_fnX (k := 2 * h + 13) Gn.pa.fn sc_law_part (by rintro gs B O R ⟨p, r, lm, told, _, rfl, _⟩; rfl) fun cdv A outer s H0 E hr => ?_
    refine ⟨_, (pss_cons (ps_asg (pe_op op_sub (pe_ix (ix_listK K) (pv 1) pe_int (fun _ _ => rfl)) pe_int) (pg_sub (pv 1) pe_int set_list))
    (pss_cons (ps_set (i := 5) sc_law_part.nd rfl (Or.inl rfl) (pe_ix (ix_listK K) (pe_lst (pa_cons pe_str (pa_cons pe_str (pa_cons pe_str pa_nil)))) (pe_cal C_law_draw hr (by omega) (by rfl) (pa_cons (pv 0) (pa_cons pe_int pa_nil))) (fun _ _ => rfl)))
    (pss_cons (ps_set (i := 6) sc_law_part.nd rfl (Or.inl rfl) (pe_cal C_law_draw hr (by omega) (by rfl) (pa_cons (pv 0) (pa_cons pe_int pa_nil))))
    (pss_cons (ps_if (PW.pt (pw_or (pt_cmpR op_lt (pv 6) pe_int (nomark _)) (pw_or (pt_cmpR op_lt (pe_ix (ix_listK K) (pv 1) pe_int (fun _ _ => rfl)) pe_int (nomark _)) (pw_or1 (pt_cmpR op_gt (pv 2) pe_int (nomark _)))))) (pss_one (ps_ret (pe_cal C_law_leaf hr (by omega) (by rfl) (pa_cons (pv 0) (pa_cons (pv 5) (pa_cons (pv 4) pa_nil)))))) pss_nil)
    (pss_cons (ps_if (pt_cmpR op_lt (pv 6) pe_int (nomark _)) (pss_cons (ps_set (i := 7) sc_law_part.nd rfl (Or.inl rfl) (pe_lst pa_nil))
    (pss_cons (ps_for PassesOwn.never rfl (pi_range1 (by rfl) T.b_range (pa_cons (pe_cal C_law_draw hr (by omega) (by rfl) (pa_cons (pv 0) (pa_cons pe_int pa_nil))) pa_nil)) (pg_name (i := 8) sc_law_part.nd rfl (Or.inl rfl)) (pss_one (ps_if (pt_cmpR op_gt (pe_ix (ix_listK K) (pv 1) pe_int (fun _ _ => rfl)) pe_int (nomark _)) (pss_one (ps_expr (pe_bm PySem.F.plainAttrs_list PySem.F.slot_list_append PySem.F.type_list_append mt_append (pv 7) (pa_cons (pe_cal C_law_part hr (by omega) (by rfl) (pa_cons (pv 0) (pa_cons (pv 1) (pa_cons (pe_op op_add (pv 2) pe_int) (pa_cons (pv 3) (pa_cons (pv 4) pa_nil)))))) pa_nil)))) pss_nil)))
    (pss_one (ps_ret (pe_tup (pa_cons pe_str (pa_cons (pe_callTy (call_tupleK K) (by rfl) T.b_tuple (by decide +kernel) (pa_cons (pv 7) pa_nil)) pa_nil))))))) pss_nil)
    (pss_cons (ps_if (pt_cmpR op_eq (pv 6) pe_int (nomark _)) (pss_one (ps_ret (pe_tup (pa_cons pe_str (pa_cons (pv 5) (pa_cons (pe_cal C_law_options hr (by omega) (by rfl) (pa_cons (pv 0) (pa_cons (pv 1) (pa_cons (pe_op op_add (pv 2) pe_int) (pa_cons (pv 3) (pa_cons (pv 4) pa_nil)))))) pa_nil)))))) pss_nil)
    (pss_cons (ps_if (pt_cmpR op_eq (pv 6) pe_int (nomark _)) (pss_one (ps_ret (pe_tup (pa_cons pe_str (pa_cons (pe_cal C_law_draw hr (by omega) (by rfl) (pa_cons (pv 0) (pa_cons pe_int pa_nil))) (pa_cons (pe_cal C_law_part hr (by omega) (by rfl) (pa_cons (pv 0) (pa_cons (pv 1) (pa_cons (pe_op op_add (pv 2) pe_int) (pa_cons (pv 3) (pa_cons (pv 4) pa_nil)))))) pa_nil)))))) pss_nil)
    (pss_cons (ps_if (PW.pt (pw_or (pt_cmpR op_eq (pv 6) pe_int (nomark _)) (pw_or1 (PW.pt (pw_and (pt_cmpR op_eq (pv 6) pe_int (nomark _)) (pw_and1 (PW.pt (pw_or (pt_val (pv 4)) (pw_or1 (pt_cmpR op_gt (pv 3) pe_int (nomark _))))))))))) (pss_one (ps_ret (pe_cal C_law_counted hr (by omega) (by rfl) (pa_cons (pv 0) (pa_cons (pv 5) (pa_cons (pv 1) (pa_cons (pe_op op_add (pv 2) pe_int) (pa_cons (pv 3) (pa_cons (pv 4) pa_nil))))))))) pss_nil)
    (pss_cons (ps_if (pt_cmpR op_eq (pv 6) pe_int (nomark _)) (pss_one (ps_ret (pe_cal C_law_within hr (by omega) (by rfl) (pa_cons (pv 0) (pa_cons (pv 5) (pa_cons (pv 1) (pa_cons (pe_op op_add (pv 2) pe_int) (pa_cons (pv 3) pa_nil)))))))) pss_nil)
    (pss_one (ps_ret (pe_tup (pa_cons (pe_ix (ix_listK K) (pe_lst (pa_cons pe_str (pa_cons pe_str pa_nil))) (pe_op op_sub (pv 6) pe_int) (fun _ _ => rfl)) (pa_cons (pe_cal C_law_part hr (by omega) (by rfl) (pa_cons (pv 0) (pa_cons (pv 1) (pa_cons (pe_op op_add (pv 2) pe_int) (pa_cons (pv 3) (pa_cons (pv 4) pa_nil)))))) pa_nil)))))))))))))), ?_⟩
    rintro gs B O R σ H Q ⟨p, r, lm, told, hh, rfl, hp, ⟨z0, hz0⟩, rfl⟩ st q
    have rp : r ≠ p := hp.ne ⟨z0, hz0⟩
    -- room[0] = room[0] - 1
    refine q_setO st rfl hz0 (ev_op (ev_ixO rfl hz0 (ints_dps [z0]) ev_int at0) ev_int rd_I0) ev_int (j := 0) (by rfl) fun v0 B0 H0' x0 d0 st => ?_
    rw [dp_int d0] at st
    have st0 : Sta K B0 (upd O r (.lst [.int (z0 - 1)])) _ _ _ := st
    have hp0 : PoolAt (upd O r (.lst [.int (z0 - 1)])) p := by
      obtain ⟨x, y, e, hy⟩ := hp
      exact ⟨x, y, by rw [upd_ne rp.symm]; exact e, hy⟩
    have hr0 : RoomAt (upd O r (.lst [.int (z0 - 1)])) r := ⟨z0 - 1, upd_same⟩
    have M0 : Mv2 p r O (upd O r (.lst [.int (z0 - 1)])) := ⟨hp0, hr0, fun a h1 h2 => upd_ne h2⟩
    generalize upd O r (.lst [.int (z0 - 1)]) = Oa at st0 hp0 hr0 M0
    refine qx_asg st0 (ex_word (ws := ["checked", "checked", "bare"]) hp0 (ev_lst (ea_cons ev_str (ea_cons ev_str (ea_cons ev_str ea_nil))) (by simp)) rfl (by decide +kernel) rfl (by decide) (by decide)) fun v1 d1 B1 O1 H1 x1 ⟨w1, hw1, e1, m1⟩ dv1 st => ?_
    subst e1
    have g1 : good (.str w1) = true := PT.good_str ((by decide +kernel : ∀ w, w ∈ (["checked", "checked", "bare"] : List Str) → PyData.strOk w = true) w1 hw1)
    have hr1 := (m1.two hp0 hr0).room
    refine qx_asg st (ex_draw rfl m1.pool (by decide) (by decide)) fun v2 d2 B2 O2 H2 x2 ⟨k, e2, k0, k1, m2⟩ dv2 st => ?_
    subst e2
    obtain ⟨z2, hz2⟩ := (m2.two m1.pool hr1).room
    have hr2 : RoomAt O2 r := ⟨z2, hz2⟩
    have M2 : Mv2 p r O O2 := M0.trans (Mv2.of m1 hp0 hr0 (m2.two m1.pool hr1))
    have st2 : Sta K B2 O2 [.val (.ref p), .val (.ref r), .dat (.int (7 - ((h + 1 : Nat) : Int))), .dat (.int lm), .dat (.bool told), .dat (.str w1), .dat (.int k), .un, .un] _ _ := st
    have X2 : Ex B B2 := (x0.trans x1).trans x2
    clear dv1 dv2 st
    refine q_when st2 (et_or (et_test (ev_op (ev_var rfl) ev_int rd_B0)) fun _ => et_or (et_test (ev_op (ev_ixO rfl hz2 (ints_dps [z2]) ev_int at0) ev_int rd_B0)) fun _ => et_test (ev_op (ev_var rfl) ev_int rd_B0)) (fun h3 B3 H3 x3 st => ?_) (fun h3 B3 H3 x3 st => ?_)
    · refine sx_ret st (R := fun d O' => ∃ t, ok 1 t ∧ d = enc t ∧ Mv p O2 O') (ex_call (as_val (evV_var rfl) (as_dat (ev_var rfl) (as_dat (ev_var rfl) as_nil))) fun B'' _ => ⟨p, .str w1, told, rfl, m2.pool, g1, rfl⟩) fun v d B4 O4 H4 x4 ⟨t, ht, ed, m⟩ w4 d4 => ?_
      subst ed
      exact q v _ B4 O4 H4 ((X2.trans x3).trans x4) ⟨t, ok_mono (by omega) ht, rfl, M2.trans (m.two m2.pool hr2)⟩ w4 d4
    have hh1 : 0 < h ∧ h ≤ 7 := by
      simp only [Bool.or_eq_false_iff, decide_eq_false_iff_not] at h3
      omega
    have hdep : ∀ {B' O' : Hp} {g5 g6 g7 g8 : SD}, EvD K B' O' [.val (.ref p), .val (.ref r), .dat (.int (7 - ((h + 1 : Nat) : Int))), .dat (.int lm), .dat (.bool told), g5, g6, g7, g8] (tOp (rI0 fun i j => .int (i + j)) (tVar 2) (tC (.int 1))) (.int (7 - (h : Int))) :=
      fun {B' O' g5 g6 g7 g8} => ev_is (ev_op (ev_var rfl) ev_int rd_I0) (congrArg PyData.int dep_eq)
    have hpart : ∀ {B' O' : Hp} {g5 g6 g7 g8 : SD}, PoolAt O' p → RoomAt O' r → EvX K B' O' [.val (.ref p), .val (.ref r), .dat (.int (7 - ((h + 1 : Nat) : Int))), .dat (.int lm), .dat (.bool told), g5, g6, g7, g8]
        (tCall (SpX K (PreP h)) [] E0 (tCons (tVar 0) (tCons (tVar 1) (tCons (tOp (rI0 fun i j => .int (i + j)) (tVar 2) (tC (.int 1))) (tCons (tVar 3) (tCons (tVar 4) tNil)))))) (fun d O'' => ∃ t, ok h t ∧ d = enc t ∧ Mv2 p r O' O'') :=
      fun {B' O' g5 g6 g7 g8} hp' hr' => ex_call (as_val (evV_var rfl) (as_val (evV_var rfl) (as_dat hdep (as_dat (ev_var rfl) (as_dat (ev_var rfl) as_nil))))) fun B'' _ => ⟨p, r, lm, told, hh1, rfl, hp', hr', rfl⟩
    refine q_when st (et_test (ev_op (ev_var rfl) ev_int rd_B0)) (fun h4 B4 H4 x4 st => ?_) (fun h4 B4 H4 x4 st => ?_)
    · -- a row
      refine q_asgL st (el_lst ea_nil (by simp)) fun l vs0 B5 H5 x5 nl dv0 st => ?_
      have e0 : vs0 = [] := by cases dv0; rfl
      subst e0
      have lp : l ≠ p := by
        obtain ⟨_, _, e, _⟩ := m2.pool
        intro z
        subst z
        rw [nl] at e
        cases e
      have lr : l ≠ r := by
        intro z
        subst z
        rw [nl] at hz2
        cases hz2
      have hp5 : PoolAt (upd O2 l (.lst [])) p := by
        obtain ⟨x, y, e, hy⟩ := m2.pool
        exact ⟨x, y, by rw [upd_ne lp.symm]; exact e, hy⟩
      have hr5 : RoomAt (upd O2 l (.lst [])) r := ⟨z2, by rw [upd_ne lr.symm]; exact hz2⟩
      refine qx_for st (T := fun es O' => (∃ m : Nat, m ≤ 3 ∧ es = rangeD 0 m) ∧ Mv p (upd O2 l (.lst [])) O') (eix_range (exs_cons (S := fun _ O' ds O'' => ds = [] ∧ O'' = O') (ex_draw rfl hp5 (by decide) (by decide)) (fun d B'' O'' _ _ => exs_nil) ?_))
        (fun es i B' O' G' => (∃ m : Nat, m ≤ 3 ∧ es = rangeD 0 m) ∧ ∃ (vs : List V) (ts : List Part), O' l = some (.lst vs) ∧ DtAll K B' vs (ts.map enc) ∧ (∀ t, t ∈ ts → ok h t) ∧ ts.length ≤ i ∧ PoolAt O' p ∧ RoomAt O' r ∧ (∀ a, a ≠ p → a ≠ r → a ≠ l → O' a = O2 a) ∧
          ∃ g8 : SD, G' = [.val (.ref p), .val (.ref r), .dat (.int (7 - ((h + 1 : Nat) : Int))), .dat (.int lm), .dat (.bool told), .dat (.str w1), .dat (.int k), .val (.ref l), g8])
        ?_ ?_ ?_ ?_
      · rintro d O' ds O'' ⟨j, rfl, j0, j1, m⟩ ⟨rfl, rfl⟩
        exact ⟨j, rfl, by omega, ⟨j.toNat, by omega, rfl⟩, m⟩
      · rintro es i Ba Bb Oc Gc e ⟨hm, vs, ts, a1, a2, a3⟩
        exact ⟨hm, vs, ts, a1, dps_ex e _ _ a2, a3⟩
      · rintro es O' Ba e ⟨hm, m⟩
        refine ⟨hm, [], [], ?_, .nil, by simp, by simp, m.pool, (m.two hp5 hr5).room, fun a h1 h2 h3 => ?_, _, rfl⟩
        · rw [m.fr l lp, upd_same]
        · rw [m.fr a h1, upd_ne h3]
      · rintro es i e Ba Oa' Ga σa Ha v hie xa ⟨⟨m, hm3, rfl⟩, vs, ts, hl, dvs, hok, hlen, hpa, hra, hfr, g8, rfl⟩ st dv N hN
        obtain ⟨hi, rfl⟩ := range_inv hie
        obtain ⟨za, hza⟩ := id hra
        refine eg_name Ba _ σa Ha v st dv _ fun σb st _ => ?_
        have hvl := dps_len dvs
        rw [List.length_map] at hvl
        refine s_if st (et_test (ev_op (ev_ixO rfl hza (ints_dps [za]) ev_int at0) ev_int rd_B0)) (fun h1 Bb Hb xb st => ?_) (fun h1 Bb Hb xb st => ?_)
        · refine sx_app st rfl hl (by omega) (hpart hpa hra) ?_ fun v4 d4 Bc Oc Hc xc hR d4' st => ?_
          · rintro d Od ⟨t, _, _, m2⟩
            rw [m2.fr l lp lr]
            exact hl
          · obtain ⟨t, ht, ed, m4⟩ := hR
            subst ed
            refine hN Bc _ _ _ _ (xb.trans xc) ⟨⟨m, hm3, rfl⟩, vs ++ [v4], ts ++ [t], upd_same, ?_, fun o ho => ?_, ?_, ?_, ?_, fun a h1 h2 h3 => ?_, _, rfl⟩ st
            · rw [List.map_append]
              exact dps_app (dps_ex (xb.trans xc) _ _ dvs) (dps_one d4')
            · rcases List.mem_append.mp ho with ho | ho
              · exact hok o ho
              · have : o = t := by simpa using ho
                subst this
                exact ht
            · simp
              omega
            · obtain ⟨x, y, e, hy⟩ := m4.pool
              exact ⟨x, y, by rw [upd_ne lp.symm]; exact e, hy⟩
            · obtain ⟨zz, e⟩ := m4.room
              exact ⟨zz, by rw [upd_ne lr.symm]; exact e⟩
            · rw [upd_ne h3, m4.fr a h1 h2]
              exact hfr a h1 h2 h3
        · exact hN Bb _ _ _ _ xb ⟨⟨m, hm3, rfl⟩, vs, ts, hl, dps_ex xb _ _ dvs, hok, by omega, hpa, hra, hfr, _, rfl⟩ st
      · rintro es Ba Oa' Ga σa Ha xa ⟨⟨m, hm3, rfl⟩, vs, ts, hl, dvs, hok, hlen, hpa, hra, hfr, g8, rfl⟩ st
        rw [rangeD_len] at hlen
        refine s_ret st (ev_tup (ea_cons ev_str (ea_cons (ev_tupO rfl hl dvs) ea_nil)) (by simp)) fun v Bb Hb xb wb db => ?_
        have M : Mv2 p r O2 (del Oa' l) := by
          refine ⟨?_, ?_, fun a h1 h2 => ?_⟩
          · obtain ⟨x, y, e, hy⟩ := hpa
            exact ⟨x, y, by rw [del_ne lp.symm]; exact e, hy⟩
          · obtain ⟨zz, e⟩ := hra
            exact ⟨zz, by rw [del_ne lr.symm]; exact e⟩
          · by_cases h3 : a = l
            · subst h3
              rw [del_same, nl]
            · rw [del_ne h3]
              exact hfr a h1 h2 h3
        refine q v _ Bb (del Oa' l) Hb (((((X2.trans x3).trans x4).trans x5).trans xa).trans xb) ⟨.row ts, ⟨(by show ts.length ≤ 3; omega), hok⟩, rfl, M2.trans M⟩ (W.sub wb del_ex) ?_
        show Dt K Bb v (.tuple [.str "row", .tuple (encs ts)])
        rw [encs_eq]
        exact db
    refine q_when st (et_test (ev_op (ev_var rfl) ev_int rd_eqInt)) (fun h5 B5 H5 x5 st => ?_) (fun h5 B5 H5 x5 st => ?_)
    · -- a choice
      refine sx_ret st (ex_tup (T := fun ds O' => ∃ os : List (Int × Part), 0 < os.length ∧ os.length ≤ 3 ∧ (∀ o, o ∈ os → ok h o.2) ∧ ds = [.str "choice", .str w1, .tuple (os.map encO)] ∧ Mv2 p r O2 O') (exs_cons (S := fun _ O' ds O'' => ∃ os : List (Int × Part), 0 < os.length ∧ os.length ≤ 3 ∧ (∀ o, o ∈ os → ok h o.2) ∧ ds = [.str w1, .tuple (os.map encO)] ∧ Mv2 p r O' O'') (ex_pure ev_str) (fun d B' O' xb e => ?_) ?_) ?_) fun v d B6 O6 H6 x6 hR w6 d6 => ?_
      · obtain ⟨e1, e2⟩ := e
        subst e2
        refine exs_cons (S := fun _ O' ds O'' => ∃ os : List (Int × Part), 0 < os.length ∧ os.length ≤ 3 ∧ (∀ o, o ∈ os → ok h o.2) ∧ ds = [.tuple (os.map encO)] ∧ Mv2 p r O' O'') (ex_pure (ev_var rfl)) (fun d B' O' xb e => ?_) ?_
        · obtain ⟨e1, e2⟩ := e
          subst e2
          refine exs_cons (R := fun d O'' => ∃ os : List (Int × Part), d = .tuple (os.map encO) ∧ 0 < os.length ∧ os.length ≤ 3 ∧ (∀ o, o ∈ os → ok h o.2) ∧ Mv2 p r O' O'') (S := fun _ O' ds O'' => ds = [] ∧ O'' = O') (ex_call (as_val (evV_var rfl) (as_val (evV_var rfl) (as_dat hdep (as_dat (ev_var rfl) (as_dat (ev_var rfl) as_nil))))) fun B'' _ => ⟨p, r, lm, told, hh1, rfl, m2.pool, hr2, rfl⟩) (fun d B'' O'' _ _ => exs_nil) ?_
          rintro d O4 ds O5 ⟨os, rfl, a1, a2, a3, m⟩ ⟨rfl, rfl⟩
          exact ⟨os, a1, a2, a3, rfl, m⟩
        · rintro d O4 ds O5 ⟨rfl, rfl⟩ ⟨os, a1, a2, a3, rfl, m⟩
          exact ⟨os, a1, a2, a3, rfl, m⟩
      · rintro d O4 ds O5 ⟨rfl, rfl⟩ ⟨os, a1, a2, a3, rfl, m⟩
        exact ⟨os, a1, a2, a3, rfl, m⟩
      · rintro ds O4 ⟨os, _, _, _, rfl, _⟩
        simp
      · obtain ⟨ds, rfl, os, a1, a2, a3, rfl, m⟩ := hR
        refine q v _ B6 O6 H6 ((((X2.trans x3).trans x4).trans x5).trans x6) ⟨.choice (.str w1) os, ⟨⟨g1, a1, a2⟩, fun t ht => ?_⟩, rfl, M2.trans m⟩ w6 ?_
        · obtain ⟨o, ho, rfl⟩ := List.mem_map.mp ht
          exact a3 o ho
        · show Dt K B6 v (.tuple [.str "choice", .str w1, .tuple (enco os)])
          rw [enco_eq]
          exact d6
    refine q_when st (et_test (ev_op (ev_var rfl) ev_int rd_eqInt)) (fun h6 B6 H6 x6 st => ?_) (fun h6 B6 H6 x6 st => ?_)
    · -- times
      refine sx_ret st (ex_tup (T := fun ds O' => ∃ n t, 0 ≤ n ∧ n < 3 ∧ ok h t ∧ ds = [.str "times", .int n, enc t] ∧ Mv2 p r O2 O') (exs_cons (S := fun _ O' ds O'' => ∃ n t, 0 ≤ n ∧ n < 3 ∧ ok h t ∧ ds = [.int n, enc t] ∧ Mv2 p r O' O'') (ex_pure ev_str) (fun d B' O' xb e => ?_) ?_) ?_) fun v d B7 O7 H7 x7 hR w7 d7 => ?_
      · obtain ⟨e1, e2⟩ := e
        subst e2
        refine exs_cons (S := fun _ O' ds O'' => ∃ t, ok h t ∧ ds = [enc t] ∧ Mv2 p r O' O'') (ex_draw rfl m2.pool (by decide) (by decide)) (fun d B'' O'' xb e => ?_) ?_
        · obtain ⟨n, e1, n0, n1, mn⟩ := e
          refine exs_cons (S := fun _ O' ds O'' => ds = [] ∧ O'' = O') (hpart mn.pool (mn.two m2.pool hr2).room) (fun d B'' O'' _ _ => exs_nil) ?_
          rintro d O4 ds O5 ⟨t, ht, rfl, m⟩ ⟨rfl, rfl⟩
          exact ⟨t, ht, rfl, m⟩
        · rintro d O4 ds O5 ⟨n, rfl, n0, n1, mn⟩ ⟨t, ht, rfl, m⟩
          exact ⟨n, t, n0, n1, ht, rfl, Mv2.of mn m2.pool hr2 m⟩
      · rintro d O4 ds O5 ⟨rfl, rfl⟩ ⟨n, t, n0, n1, ht, rfl, m⟩
        exact ⟨n, t, n0, n1, ht, rfl, m⟩
      · rintro ds O4 ⟨n, t, _, _, _, rfl, _⟩
        simp
      · obtain ⟨ds, rfl, n, t, n0, n1, ht, rfl, m⟩ := hR
        exact q v _ B7 O7 H7 (((((X2.trans x3).trans x4).trans x5).trans x6).trans x7) ⟨.one "times" [.int n] t, ok_one (by decide) (by simp) (by simp [PT.good_int]) (fun _ => ⟨n, rfl, n0, by omega⟩) ht, rfl, M2.trans m⟩ w7 d7
    refine q_when st (et_or (et_test (ev_op (ev_var rfl) ev_int rd_eqInt)) fun _ => et_and (et_test (ev_op (ev_var rfl) ev_int rd_eqInt)) fun _ => et_or (et_B (ev_var rfl)) fun _ => et_test (ev_op (ev_var rfl) ev_int rd_B0)) (fun h7 B7 H7 x7 st => ?_) (fun h7 B7 H7 x7 st => ?_)
    · refine sx_ret st (R := fun d O' => ∃ t, ok (h + 1) t ∧ d = enc t ∧ Mv2 p r O2 O') (ex_call (as_val (evV_var rfl) (as_dat (ev_var rfl) (as_val (evV_var rfl) (as_dat hdep (as_dat (ev_var rfl) (as_dat (ev_var rfl) as_nil)))))) fun B'' _ => ⟨p, .str w1, r, lm, told, hh1, rfl, m2.pool, hr2, g1, rfl⟩) fun v d B8 O8 H8 x8 ⟨t, ht, ed, m⟩ w8 d8 => ?_
      subst ed
      exact q v _ B8 O8 H8 ((((((X2.trans x3).trans x4).trans x5).trans x6).trans x7).trans x8) ⟨t, ht, rfl, M2.trans m⟩ w8 d8
    refine q_when st (et_test (ev_op (ev_var rfl) ev_int rd_eqInt)) (fun h8 B8 H8 x8 st => ?_) (fun h8 B8 H8 x8 st => ?_)
    · refine sx_ret st (R := fun d O' => ∃ t, ok (h + 1) t ∧ d = enc t ∧ Mv2 p r O2 O') (ex_call (as_val (evV_var rfl) (as_dat (ev_var rfl) (as_val (evV_var rfl) (as_dat hdep (as_dat (ev_var rfl) as_nil))))) fun B'' _ => ⟨p, .str w1, r, lm, hh1, rfl, m2.pool, hr2, g1, rfl⟩) fun v d B9 O9 H9 x9 ⟨t, ht, ed, m⟩ w9 d9 => ?_
      subst ed
      exact q v _ B9 O9 H9 (((((((X2.trans x3).trans x4).trans x5).trans x6).trans x7).trans x8).trans x9) ⟨t, ht, rfl, M2.trans m⟩ w9 d9
    have hk9 : k = 9 ∨ k = 10 := by
      simp only [Bool.or_eq_false_iff, decide_eq_false_iff_not, beq_eq_false_iff_ne] at h3 h4 h5 h6 h7 h8
      omega
    obtain ⟨wd, hwd, hat⟩ : ∃ wd : Str, (wd = "fill" ∨ wd = "if left") ∧ atI [PyData.str "fill", PyData.str "if left"] (k - 9) = some (.str wd) := by
      rcases hk9 with e | e
      · subst e; exact ⟨"fill", .inl rfl, at0⟩
      · subst e; exact ⟨"if left", .inr rfl, at1⟩
    refine sx_ret st (ex_tup (T := fun ds O' => ∃ t, ok h t ∧ ds = [.str wd, enc t] ∧ Mv2 p r O2 O') (exs_cons (S := fun _ O' ds O'' => ∃ t, ok h t ∧ ds = [enc t] ∧ Mv2 p r O' O'') (ex_pure (ev_op (ev_lst (ea_cons ev_str (ea_cons ev_str ea_nil)) (by simp)) (ev_op (ev_var rfl) ev_int rd_I0) (rd_ixL hat))) (fun d B' O' xb e => ?_) ?_) ?_) fun v d B9 O9 H9 x9 hR w9 d9 => ?_
    · obtain ⟨e1, e2⟩ := e
      subst e2
      refine exs_cons (S := fun _ O' ds O'' => ds = [] ∧ O'' = O') (hpart m2.pool hr2) (fun d B'' O'' _ _ => exs_nil) ?_
      rintro d O4 ds O5 ⟨t, ht, rfl, m⟩ ⟨rfl, rfl⟩
      exact ⟨t, ht, rfl, m⟩
    · rintro d O4 ds O5 ⟨rfl, rfl⟩ ⟨t, ht, rfl, m⟩
      exact ⟨t, ht, rfl, m⟩
    · rintro ds O4 ⟨t, _, rfl, _⟩
      simp
    · obtain ⟨ds, rfl, t, ht, rfl, m⟩ := hR
      refine q v _ B9 O9 H9 (((((((X2.trans x3).trans x4).trans x5).trans x6).trans x7).trans x8).trans x9) ⟨.one wd [] t, ok_one ?_ (by simp) (by simp) ?_ ht, rfl, M2.trans m⟩ w9 d9
      · rcases hwd with e | e <;> (subst e; decide)
      · rcases hwd with e | e <;> (subst e; exact fun z => absurd z (by decide))

end
end G
end Toy

set_option Elab.async false
set_option linter.all false
set_option maxRecDepth 100000
set_option maxHeartbeats 4000000
namespace Toy
open PySem PySem.Spec PyProof.Rows L2 StX DL PT


theorem holder_of {wd : Str} {fs : List PyData} (h : PD.Form (.tuple (.str wd :: fs))) (h1 : wd ≠ "row") (h2 : wd ≠ "choice") (h3 : ¬ (wd = "cell" ∨ wd = "need" ∨ wd = "pad")) : PD.HOLDERS.any (wd == ·) = true := by
  cases h with
  | cell => exact absurd (.inl rfl) h3
  | row => exact absurd rfl h1
  | choice => exact absurd rfl h2
  | times => decide
  | counted => decide
  | within => decide
  | fill => decide
  | left => decide
  | need => exact absurd (.inr (.inl rfl)) h3
  | pad => exact absurd (.inr (.inr rfl)) h3
theorem leaf_parts {wd : Str} {fs : List PyData} (h3 : wd = "cell" ∨ wd = "need" ∨ wd = "pad") : PD.partsOf (.tuple (.str wd :: fs)) = [] := by
  rcases h3 with rfl | rfl | rfl <;> exact PD.parts_none (by decide) (by decide) (by decide)
theorem sizeK_none {wd : Str} {fs : List PyData} {ss : List (Option Int)} (hss : (wd = "cell" ∨ wd = "need" ∨ wd = "pad") → ss = []) (w5 : (wd = "counted" ∨ wd = "within" ∨ wd = "fill" ∨ wd = "if left" ∨ wd = "pad") ∨ none ∈ ss) : PD.sizeK (.tuple (.str wd :: fs)) ss = none := by
  have hw : PD.wordOf (.tuple (.str wd :: fs)) = wd := rfl
  unfold PD.sizeK
  rw [hw]
  rcases w5 with w5 | hn
  · rcases w5 with rfl | rfl | rfl | rfl | rfl <;> rfl
  · have hw1 : ¬ wd = "cell" := fun e => by rw [hss (.inl e)] at hn; cases hn
    have hw2 : ¬ wd = "need" := fun e => by rw [hss (.inr (.inl e))] at hn; cases hn
    rw [if_neg hw1, if_neg hw2]
    by_cases hr : wd = "row" ∨ wd = "choice" ∨ wd = "times"
    · rw [if_pos hr, if_pos hn]
    · rw [if_neg hr]
theorem sizeK_row {wd : Str} {fs : List PyData} {ss : List (Option Int)} (h : PD.Form (.tuple (.str wd :: fs))) (hss : (wd = "cell" ∨ wd = "need" ∨ wd = "pad") → ss = []) (w1 : ¬ wd = "cell") (w3 : ¬ wd = "choice") (w4 : ¬ wd = "times") (w5 : ¬ (wd = "counted" ∨ wd = "within" ∨ wd = "fill" ∨ wd = "if left" ∨ wd = "pad")) (hn : ¬ none ∈ ss) :
    PD.sizeK (.tuple (.str wd :: fs)) ss = some ((ss.map fun s => s.getD 0).sum) := by
  have hw : PD.wordOf (.tuple (.str wd :: fs)) = wd := rfl
  unfold PD.sizeK
  rw [hw, if_neg w1]
  by_cases w2 : wd = "need"
  · rw [if_pos w2, hss (.inr (.inl w2))]
    rfl
  · have hr : wd = "row" := by
      cases h with
      | cell => exact absurd rfl w1
      | row => rfl
      | choice => exact absurd rfl w3
      | times => exact absurd rfl w4
      | counted => exact absurd (.inl rfl) w5
      | within => exact absurd (.inr (.inl rfl)) w5
      | fill => exact absurd (.inr (.inr (.inl rfl))) w5
      | left => exact absurd (.inr (.inr (.inr (.inl rfl)))) w5
      | need => exact absurd rfl w2
      | pad => exact absurd (.inr (.inr (.inr (.inr rfl)))) w5
    rw [if_neg w2, if_pos (.inl hr), if_neg hn, if_pos hr]
theorem asks_subs {h : Nat} {t : PyData} : ((PD.subsD (h + 1) t).any fun q => PD.barred q.2) = (PD.barred t || (PD.partsOf t).any fun c => (PD.subsD h c).any fun q => PD.barred q.2) := by
  rw [Bool.eq_iff_iff, List.any_eq_true, Bool.or_eq_true, List.any_eq_true]
  constructor
  · rintro ⟨q, hq, hb⟩
    rcases PD.mem_subs.mp hq with rfl | ⟨i, c, r, hc, hr, rfl⟩
    · exact .inl hb
    · exact .inr ⟨c, List.mem_of_getElem? hc, List.any_eq_true.mpr ⟨r, hr, hb⟩⟩
  · rintro (hb | ⟨c, hc, hb⟩)
    · exact ⟨([], t), PD.mem_subs.mpr (.inl rfl), hb⟩
    · obtain ⟨r, hr, hb⟩ := List.any_eq_true.mp hb
      obtain ⟨i, hi⟩ := List.mem_iff_getElem?.mp hc
      exact ⟨_, PD.mem_subs.mpr (.inr ⟨i, c, r, hi, hr, rfl⟩), hb⟩
theorem at3 {a b c d : PyData} {r : List PyData} : atI (a :: b :: c :: d :: r) 3 = some d := by
  have h : (3 : Int) < (r.length : Int) + 1 + 1 + 1 + 1 := by omega
  simp [atI, ixN, h]
theorem sh_intsL {ns : List Int} : SeqAt.shaped (.list (ns.map .int)) = true := G.sh_ints
def R_asks (h : Nat) (ds : List PyData) (d : PyData) : Prop := ∃ t, PD.okB h t = true ∧ ds = [t] ∧ d = .bool ((PD.subsD h t).any fun q => PD.barred q.2)
def manyD (u : Bool) (h : Nat) (t : PyData) : Int := if u then PD.counted h t else (PD.npart h t : Int)
def R_many (h : Nat) (ds : List PyData) (d : PyData) : Prop := ∃ t u, PD.okB h t = true ∧ ds = [t, .bool u] ∧ d = .int (manyD u h t)
theorem many_succ {u : Bool} {h : Nat} {t : PyData} : manyD u (h + 1) t = 1 + ((PD.partsOf t).map (manyD u h)).sum * (if u = true ∧ PD.wordOf t = "times" then PD.numOf t else 1) := by
  cases u with
  | true =>
    have e : (PD.partsOf t).map (manyD true h) = (PD.partsOf t).map (PD.counted h) := rfl
    rw [e]
    show PD.counted (h + 1) t = _
    unfold PD.counted
    by_cases hw : PD.wordOf t = "times"
    · rw [if_pos hw, if_pos ⟨rfl, hw⟩, Int.mul_comm]
    · rw [if_neg hw, if_neg (fun z => hw z.2), Int.mul_one]
  | false =>
    have e : (PD.partsOf t).map (manyD false h) = (PD.partsOf t).map fun c => (PD.npart h c : Int) := rfl
    rw [e, if_neg (fun z => Bool.noConfusion z.1), Int.mul_one]
    show ((1 + ((PD.partsOf t).map (PD.npart h)).sum : Nat) : Int) = _
    have key : ∀ l : List PyData, (((l.map (PD.npart h)).sum : Nat) : Int) = (l.map fun c => (PD.npart h c : Int)).sum := fun l => by
      induction l with
      | nil => rfl
      | cons x l ih =>
        rw [List.map_cons, List.map_cons, List.sum_cons, List.sum_cons, ← ih]
        omega
    rw [← key]
    omega
section
variable {P : Program} {w : World} {K : PySem.W.Frag} {mg : Str → Option Value} {base : Heap} {AD : Ads}

theorem ok_law_children {f : Addr} {fd : FuncData} (T : Txt K mg AD) (a : At K mg "_law_children" s_law_children ["part"] f fd) : FnOk P w K mg base CX0 2 f fd ["part"] (SpL K R_parts) := by
  refine ok_fnL a.fn sc_law_children (by rintro ds d ⟨t, _, rfl, _⟩; rfl) fun cdv A outer s H0 E hr ds d ⟨t, ht, e1, e2⟩ => ?_
  subst e1 e2
  refine ⟨_, (pss_cons (ps_if (pt_cmpR op_eq (pe_ix (ix_tupK K) (pv 0) pe_int (fun _ _ => rfl)) pe_str (nomark _)) (pss_one (ps_ret (pe_callTy (call_listK K) (by rfl) T.b_list (by decide +kernel) (pa_cons (pe_ix (ix_tupK K) (pv 0) pe_int (fun _ _ => rfl)) pa_nil)))) pss_nil)
    (pss_cons (ps_if (pt_cmpR op_eq (pe_ix (ix_tupK K) (pv 0) pe_int (fun _ _ => rfl)) pe_str (nomark _)) (pss_one (ps_ret (pe_lc (own := [("option", 1)]) (by rfl) sc_law_children.nd (pi_tupK K (pe_ix (ix_tupK K) (pv 0) pe_int (fun _ _ => rfl))) (blkOk_by (own := [("option", 1)]) (N := N_sc_law_children) (sc := defScope s_law_children) (by decide +kernel)) (fun _ _ _ _ _ => (pg_name (i := 1) sc_law_children.nd rfl (Or.inl rfl))) (fun _ _ _ _ _ => pts_nil) (fun _ _ _ _ _ => (pe_ix (ix_tupK K) (pv 1) pe_int (fun _ _ => rfl)))))) pss_nil)
    (pss_cons (ps_if (pt_cmpR (op_inK K) (pe_ix (ix_tupK K) (pv 0) pe_int (fun _ _ => rfl)) (pe_lst (pa_cons pe_str (pa_cons pe_str (pa_cons pe_str pa_nil)))) (by rfl)) (pss_one (ps_ret (pe_lst pa_nil))) pss_nil)
    (pss_one (ps_ret (pe_lst (pa_cons (pe_ix (ix_tupK K) (pv 0) (pe_un un_neg pe_int) (fun _ _ => rfl)) pa_nil))))))), fun B O σ H Q st q => ?_⟩
  have ho := PD.form_of ht
  obtain ⟨wd, fs, rfl⟩ := ho.head
  refine q_when st (et_test (ev_op (ev_op (ev_var rfl) ev_int (rd_ixT at0)) ev_str rd_eqStr)) (fun h1 B1 H1 x1 st => ?_) (fun h1 B1 H1 x1 st => ?_)
  · have ew := eq_of_beq h1
    obtain ⟨ps, rfl, hl⟩ := ho.row_of h1
    subst ew
    refine s_retL st (el_listT (ev_op (ev_var rfl) ev_int (rd_ixT at1))) fun p ws B2 H2 x2 n2 w2 d2 => ?_
    rw [PD.parts_row] at q
    exact q p ws B2 H2 (x1.trans x2) n2 w2 d2
  refine q_when st (et_test (ev_op (ev_op (ev_var rfl) ev_int (rd_ixT at0)) ev_str rd_eqStr)) (fun h2 B2 H2 x2 st => ?_) (fun h2 B2 H2 x2 st => ?_)
  · have ew := eq_of_beq h2
    obtain ⟨m, os, rfl, hc⟩ := ho.choice_of h2
    subst ew
    have ops := PD.choice_opts hc
    rw [PD.parts_choice] at q
    refine s_retL st (el_map os id PD.second (fun o => [.dat (.tuple [.str "choice", m, .tuple os]), .dat o]) (by rw [List.map_id]; exact ei_tup (ev_op (ev_var rfl) ev_int (rd_ixT at2))) (by have := ops.2.2.1; omega)
      (fun o _ => eg_nameW (by decide)) (fun o h3 => ?_)) fun p ws B3 H3 x3 n3 w3 d3 => q p ws B3 H3 ((x1.trans x2).trans x3) n3 w3 d3
    obtain ⟨n, p, rfl⟩ := PD.opts_at ops.2.2.2 o h3
    exact ev_op (ev_var rfl) ev_int (rd_ixT at1)
  have h1' : wd ≠ "row" := fun e => by subst e; exact absurd h1 (by decide)
  have h2' : wd ≠ "choice" := fun e => by subst e; exact absurd h2 (by decide)
  have hb : inV (.str wd) (([("cell" : Str), "need", "pad"]).map V.str) = decide (wd = "cell" ∨ wd = "need" ∨ wd = "pad") := by
    rw [in_strs, Bool.eq_iff_iff, decide_eq_true_eq]
    simp
  refine q_when st (et_test (ev_op (ev_op (ev_var rfl) ev_int (rd_ixT at0)) (ev_lst (ea_cons ev_str (ea_cons ev_str (ea_cons ev_str ea_nil))) (by decide)) (rd_inL rfl rfl hb))) (fun h3 B3 H3 x3 st => ?_) (fun h3 B3 H3 x3 st => ?_)
  · rw [leaf_parts (of_decide_eq_true h3)] at q
    refine s_retL st (el_lst ea_nil (by simp)) fun pp ws B4 H4 x4 n4 w4 d4 => q pp ws B4 H4 (((x1.trans x2).trans x3).trans x4) n4 w4 d4
  · obtain ⟨gs, x, rfl, hp, hl⟩ := ho.one_of (holder_of ho h1' h2' (of_decide_eq_false h3))
    rw [hp] at q
    refine s_retL st (el_lst (ea_cons (ev_op (ev_var rfl) (ev_un ev_int) (rd_ixT at_last')) ea_nil) (by simp)) fun pp ws B4 H4 x4 n4 w4 d4 => q pp ws B4 H4 (((x1.trans x2).trans x3).trans x4) n4 w4 d4
theorem ok_law_size {f fp : Addr} {fd fdp : FuncData} (T : Txt K mg AD) (a : At K mg "_law_size" s_law_size ["part"] f fd) (ap : At K mg "_law_children" s_law_children ["part"] fp fdp) : ∀ h, FnOk P w K mg base CX0 (h + 3) f fd ["part"] (SpR K (R_size h))
  | 0 => SpR_false fun ds d ⟨t, o, _⟩ => Bool.noConfusion o
  | h + 1 => by
    have C_law_children := ap.cal (ok_law_children (P := P) (w := w) (base := base) T ap)
    have C_law_size := a.cal (ok_law_size T a ap h)
    refine ok_fn a.fn sc_law_size (by rintro ds d ⟨t, _, rfl, _⟩; rfl) fun cdv A outer s H0 E hr ds d ⟨t, ho, e1, e2⟩ => ?_
    subst e1
    refine ⟨_, (pss_cons (ps_set (i := 1) sc_law_size.nd rfl (Or.inr rfl) (pe_lc (own := [("inner", 2)]) (by rfl) sc_law_size.nd (pi_listK K (pe_cal C_law_children hr (by omega) (by rfl) (pa_cons (pv 0) pa_nil))) (blkOk_by (own := [("inner", 2)]) (N := N_sc_law_size) (sc := defScope s_law_size) (by decide +kernel)) (fun _ _ _ _ _ => (pg_name (i := 2) sc_law_size.nd rfl (Or.inl rfl))) (fun _ _ _ _ _ => pts_nil) (fun _ _ _ _ _ => (pe_cal C_law_size hr (by omega) (by rfl) (pa_cons (pv 2) pa_nil)))))
    (pss_cons (ps_if (PW.pt (pw_or (pt_cmpR (op_inK K) (pe_ix (ix_tupK K) (pv 0) pe_int (fun _ _ => rfl)) (pe_lst (pa_cons pe_str (pa_cons pe_str (pa_cons pe_str (pa_cons pe_str (pa_cons pe_str pa_nil)))))) (by rfl)) (pw_or1 (pt_cmpR (op_inK K) pe_non (pv 1) (by rfl))))) (pss_one (ps_ret pe_non)) pss_nil)
    (pss_cons (ps_if (pt_cmpR op_eq (pe_ix (ix_tupK K) (pv 0) pe_int (fun _ _ => rfl)) pe_str (nomark _)) (pss_one (ps_ret pe_int)) pss_nil)
    (pss_cons (ps_if (pt_cmpR op_eq (pe_ix (ix_tupK K) (pv 0) pe_int (fun _ _ => rfl)) pe_str (nomark _)) (pss_one (ps_ret (pe_ifExp (pt_cmpR (op_eqDK K hr.units) (pe_lc (own := [("size", 3)]) (by rfl) sc_law_size.nd (pi_listK K (pv 1)) (blkOk_by (own := [("size", 3)]) (N := N_sc_law_size) (sc := defScope s_law_size) (by decide +kernel)) (fun _ _ _ _ _ => (pg_name (i := 3) sc_law_size.nd rfl (Or.inl rfl))) (fun _ _ _ _ _ => (pts_one (pt_cmpR op_ne (pv 3) (pe_ix (ix_listK K) (pv 1) pe_int (fun _ _ => rfl)) (nomark _)))) (fun _ _ _ _ _ => (pv 3))) (pe_lst pa_nil) (nomark _)) (pe_op op_add pe_int (pe_ix (ix_listK K) (pv 1) pe_int (fun _ _ => rfl))) pe_non))) pss_nil)
    (pss_cons (ps_if (pt_cmpR op_eq (pe_ix (ix_tupK K) (pv 0) pe_int (fun _ _ => rfl)) pe_str (nomark _)) (pss_one (ps_ret (pe_op op_mul (pe_ix (ix_tupK K) (pv 0) pe_int (fun _ _ => rfl)) (pe_ix (ix_listK K) (pv 1) pe_int (fun _ _ => rfl))))) pss_nil)
    (pss_one (ps_ret (pe_callB (cr_sumK K rfl) (by rfl) T.b_sum (by decide +kernel) (pa_cons (pv 1) pa_nil))))))))), fun B O σ H Q st q => ?_⟩
    obtain ⟨hf, hkids⟩ := PD.ok_succ ho
    have fm := PD.form_of hf
    have hk := fm.kids
    obtain ⟨wd, fs, rfl⟩ := fm.head
    have es : PD.sizeD (h + 1) (.tuple (.str wd :: fs)) = PD.sizeK (.tuple (.str wd :: fs)) ((PD.partsOf (.tuple (.str wd :: fs))).map (PD.sizeD h)) := rfl
    have hw : PD.wordOf (.tuple (.str wd :: fs)) = wd := rfl
    refine q_asg st (d := .list (((PD.partsOf (.tuple (.str wd :: fs))).map (PD.sizeD h)).map PD.encN)) ?_ fun v4 B4 H4 x4 d4 st => ?_
    · rw [List.map_map]
      exact ev_map (PD.partsOf (.tuple (.str wd :: fs))) id (PD.encN ∘ PD.sizeD h) (fun c => [.dat (.tuple (.str wd :: fs)), .un, .dat c, .un]) (ei_list (by rw [List.map_id]; exact (el_call (ea_cons (ev_var rfl) ea_nil) ⟨_, hf, rfl, rfl⟩).d)) (by omega) (fun c _ => eg_nameW (by decide))
        (fun c hc => ev_call (ea_cons (ev_var rfl) ea_nil) ⟨c, hkids c hc, rfl, rfl⟩)
    have hnil : (wd = "cell" ∨ wd = "need" ∨ wd = "pad") → (PD.partsOf (.tuple (.str wd :: fs))).map (PD.sizeD h) = [] := fun e => by rw [leaf_parts e]; rfl
    have hkid : (PD.partsOf (.tuple (.str wd :: fs))).length = ((PD.partsOf (.tuple (.str wd :: fs))).map (PD.sizeD h)).length := by rw [List.length_map]
    generalize hss : (PD.partsOf (.tuple (.str wd :: fs))).map (PD.sizeD h) = ss at es st d4 hnil hkid
    refine q_when st (et_or (et_test (ev_op (ev_op (ev_var rfl) ev_int (rd_ixT at0)) (ev_lst (ea_cons ev_str (ea_cons ev_str (ea_cons ev_str (ea_cons ev_str (ea_cons ev_str ea_nil))))) (by decide)) (rd_inL rfl rfl rfl))) (fun _ => et_test (ev_op ev_non (ev_var rfl) (rd_inL rfl flat_encN in_none)))) (fun h4 B5 H5 x5 st => ?_) (fun h4 B5 H5 x5 st => ?_)
    · have z : ((inV (.str wd) (([("counted" : Str), "within", "fill", "if left", "pad"]).map V.str)) || decide (none ∈ ss)) = true := h4
      rw [in_strs] at z
      rw [es, sizeK_none hnil (by simpa [or_assoc] using z)] at e2
      subst e2
      refine s_ret st ev_non fun v B6 H6 x6 w6 d6 => ?_
      exact q v B6 H6 ((x4.trans x5).trans x6) w6 d6
    have hzz : ((inV (.str wd) (([("counted" : Str), "within", "fill", "if left", "pad"]).map V.str)) || decide (none ∈ ss)) = false := h4
    rw [in_strs, Bool.or_eq_false_iff] at hzz
    have hnn : ¬ none ∈ ss := of_decide_eq_false hzz.2
    have w5 : ¬ (wd = "counted" ∨ wd = "within" ∨ wd = "fill" ∨ wd = "if left" ∨ wd = "pad") := by
      have z1 := hzz.1
      simp at z1
      rintro (e | e | e | e | e)
      · exact z1.1 e
      · exact z1.2.1 e
      · exact z1.2.2.1 e
      · exact z1.2.2.2.1 e
      · exact z1.2.2.2.2 e
    refine q_when st (et_test (ev_op (ev_op (ev_var rfl) ev_int (rd_ixT at0)) ev_str rd_eqStr)) (fun h1 B1 H1 x1 st => ?_) (fun h1 B1 H1 x1 st => ?_)
    · refine s_ret st ev_int fun v B2 H2 x2 w2 d2 => ?_
      rw [e2, es, PD.sizeK, hw, if_pos (eq_of_beq h1)] at q
      exact q v B2 H2 (((x4.trans x5).trans x1).trans x2) w2 d2
    have w1 : ¬ wd = "cell" := by simpa using h1
    refine q_when st (et_test (ev_op (ev_op (ev_var rfl) ev_int (rd_ixT at0)) ev_str rd_eqStr)) (fun h2 B6 H6 x6 st => ?_) (fun h2 B6 H6 x6 st => ?_)
    · have hkk := choice_kids fm (eq_of_beq h2)
      obtain ⟨m, os, rfl, hc⟩ := fm.choice_of h2
      have hwd := eq_of_beq h2
      subst hwd
      obtain ⟨z, r, rfl⟩ := head_some hnn (by rw [← hkid]; exact hkk)
      have e2' : d = PD.encN (if ∀ s ∈ (some z :: r), s = some z then some (1 + z) else none) := by
        rw [e2, es]
        show PD.encN (if none ∈ (some z :: r) then _ else _) = _
        rw [if_neg hnn]
        rfl
      have hlen : (some z :: r).length ≤ 12 := by rw [← hkid]; exact hk
      have hf : ((some z :: r).filter fun s => !(decide (s = some z))).map PD.encN = ((((some z :: r).filter fun s => !(decide (s = some z)))).map fun s => s.getD 0).map PyData.int :=
        ints_of fun hm => hnn ((List.mem_filter.mp hm).1)
      have hb : ((((some z :: r).filter fun s => !(decide (s = some z)))).map fun s => s.getD 0).isEmpty = decide (∀ s ∈ (some z :: r), s = some z) := by
        rw [Bool.eq_iff_iff, List.isEmpty_iff, List.map_eq_nil_iff, List.filter_eq_nil_iff]
        simp
      refine s_ret (d := d) st (ev_if (b := decide (∀ s ∈ (some z :: r), s = some z)) (et_test ?_) (fun hall => ?_) (fun hall => ?_)) fun v B8 H8 x8 w8 d8 => ?_
      · refine ev_op (ev_is (ev_lcT (some z :: r) PD.encN (fun s => !(decide (s = some z))) PD.encN (fun s => [.dat (.tuple [.str "choice", m, .tuple os]), .dat (.list ((some z :: r).map PD.encN)), .un, .dat (PD.encN s)]) (ei_list (ev_var rfl)) (by omega) (fun s _ => eg_nameW (by decide)) (fun s hs => ?_) (fun s _ _ => ev_var rfl)) (congrArg PyData.list hf))
          (ev_lst ea_nil (by decide)) (rd_eq sh_intsL G.sh_nilL (by rw [G.eqv_nil, hb]))
        refine et_test (ev_op (ev_var rfl) (ev_op (ev_var rfl) ev_int (rd_ixL at0)) ?_)
        cases s with
        | none => exact absurd hs hnn
        | some y => exact rd_neS rfl rfl rfl (show (!decide (V.int y = V.int z)) = !decide (some y = some z) from congrArg _ (decide_eq_decide.mpr (by simp)))
      · rw [if_pos (of_decide_eq_true hall)] at e2'
        subst e2'
        exact ev_op ev_int (ev_op (ev_var rfl) ev_int (rd_ixL at0)) rd_I0
      · rw [if_neg (of_decide_eq_false hall)] at e2'
        subst e2'
        exact ev_non
      · exact q v B8 H8 ((((x4.trans x5).trans x1).trans x6).trans x8) w8 d8
    have w3 : ¬ wd = "choice" := by simpa using h2
    refine q_when st (et_test (ev_op (ev_op (ev_var rfl) ev_int (rd_ixT at0)) ev_str rd_eqStr)) (fun h6 B7 H7 x7 st => ?_) (fun h6 B7 H7 x7 st => ?_)
    · have hwd : wd = "times" := eq_of_beq h6
      obtain ⟨n, x, rfl, hn0, hn6⟩ := times_of fm hwd
      subst hwd
      obtain ⟨z, r, rfl⟩ := head_some hnn (by rw [← hkid, times_kids]; exact Nat.zero_lt_one)
      have e2' : d = .int (n * z) := by
        rw [e2, es]
        show PD.encN (if none ∈ (some z :: r) then _ else _) = _
        rw [if_neg hnn]
        rfl
      subst e2'
      refine s_ret st (ev_op (ev_op (ev_var rfl) ev_int (rd_ixT at1)) (ev_op (ev_var rfl) ev_int (rd_ixL at0)) (rd_I (.inl ⟨by omega, by omega⟩))) fun v B8 H8 x8 w8 d8 => ?_
      exact q v B8 H8 (((((x4.trans x5).trans x1).trans x6).trans x7).trans x8) w8 d8
    · have w4 : ¬ wd = "times" := by simpa using h6
      rw [es, sizeK_row fm hnil w1 w3 w4 w5 hnn] at e2
      subst e2
      refine s_ret st (ev_cb (ea_cons (ev_is (ev_var rfl) (congrArg PyData.list (ints_of hnn))) ea_nil) rc_sum) fun v B8 H8 x8 w8 d8 => ?_
      exact q v B8 H8 (((((x4.trans x5).trans x1).trans x6).trans x7).trans x8) w8 d8
theorem ok_law_asks {f fp : Addr} {fd fdp : FuncData} (T : Txt K mg AD) (a : At K mg "_law_asks" s_law_asks ["part"] f fd) (ap : At K mg "_law_children" s_law_children ["part"] fp fdp) : ∀ h, FnOk P w K mg base CX0 (h + 3) f fd ["part"] (SpR K (R_asks h))
  | 0 => SpR_false fun ds d ⟨t, o, _⟩ => Bool.noConfusion o
  | h + 1 => by
    have C_law_children := ap.cal (ok_law_children (P := P) (w := w) (base := base) T ap)
    have C_law_asks := a.cal (ok_law_asks T a ap h)
    refine ok_fn a.fn sc_law_asks (by rintro ds d ⟨t, _, rfl, _⟩; rfl) fun cdv A outer s H0 E hr ds d ⟨t, ho, e1, e2⟩ => ?_
    subst e1 e2
    refine ⟨_, (pss_cons (ps_if (PW.pt (pw_or (pt_cmpR (op_inK K) (pe_ix (ix_tupK K) (pv 0) pe_int (fun _ _ => rfl)) (pe_lst (pa_cons pe_str (pa_cons pe_str pa_nil))) (by rfl)) (pw_or1 (PW.pt (pw_and (pt_cmpR op_eq (pe_ix (ix_tupK K) (pv 0) pe_int (fun _ _ => rfl)) pe_str (nomark _)) (pw_and1 (pt_cmpR op_notN (pe_ix (ix_tupK K) (pv 0) pe_int (fun _ _ => rfl)) pe_non (nomark _)))))))) (pss_one (ps_ret pe_bl)) pss_nil)
    (pss_one (ps_ret (pe_callB (cr_anyK K rfl) (by rfl) T.b_any (by decide +kernel) (pa_cons (pe_lc (own := [("inner", 1)]) (by rfl) sc_law_asks.nd (pi_listK K (pe_cal C_law_children hr (by omega) (by rfl) (pa_cons (pv 0) pa_nil))) (blkOk_by (own := [("inner", 1)]) (N := N_sc_law_asks) (sc := defScope s_law_asks) (by decide +kernel)) (fun _ _ _ _ _ => (pg_name (i := 1) sc_law_asks.nd rfl (Or.inl rfl))) (fun _ _ _ _ _ => pts_nil) (fun _ _ _ _ _ => (pe_cal C_law_asks hr (by omega) (by rfl) (pa_cons (pv 1) pa_nil)))) pa_nil))))), fun B O σ H Q st q => ?_⟩
    obtain ⟨hf, hkids⟩ := PD.ok_succ ho
    have fm := PD.form_of hf
    have hk := fm.kids
    obtain ⟨wd, fs, rfl⟩ := fm.head
    have hb : inV (.str wd) (([("within" : Str), "need"]).map V.str) = decide (wd = "within" ∨ wd = "need") := by
      rw [in_strs, Bool.eq_iff_iff, decide_eq_true_eq]
      simp
    have eb : PD.barred (.tuple (.str wd :: fs)) = (decide (wd = "within" ∨ wd = "need") || ((wd == "counted") && !PD.isNoneD (PD.field (.tuple (.str wd :: fs)) 3))) := by
      show ((wd == "within") || (wd == "need") || ((wd == "counted") && _)) = _
      congr 1
      rw [Bool.eq_iff_iff, decide_eq_true_eq]
      simp
    rw [asks_subs] at q
    refine q_when st (b := PD.barred (.tuple (.str wd :: fs))) (et_is (et_or (et_test (ev_op (ev_op (ev_var rfl) ev_int (rd_ixT at0)) (ev_lst (ea_cons ev_str (ea_cons ev_str ea_nil)) (by decide)) (rd_inL rfl rfl hb))) (fun _ => et_and (a := wd == "counted") (b := !PD.isNoneD (PD.field (.tuple (.str wd :: fs)) 3)) (et_test (ev_op (ev_op (ev_var rfl) ev_int (rd_ixT at0)) ev_str rd_eqStr)) fun hc => ?_)) eb.symm) (fun h1 B1 H1 x1 st => ?_) (fun h1 B1 H1 x1 st => ?_)
    · obtain ⟨m, mo, ah, x, rfl⟩ := counted_of fm (eq_of_beq hc)
      exact et_test (not_none (ev_op (ev_var rfl) ev_int (rd_ixT at3)) ev_non (by show (!PD.isNoneD ah) = _; cases ah <;> rfl))
    · rw [h1] at q
      exact s_ret st ev_bl fun v B2 H2 x2 w2 d2 => q v B2 H2 (x1.trans x2) w2 d2
    · rw [h1, Bool.false_or] at q
      have he : ((PD.partsOf (.tuple (.str wd :: fs))).map fun c => (PD.subsD h c).any fun q => PD.barred q.2).any id = (PD.partsOf (.tuple (.str wd :: fs))).any fun c => (PD.subsD h c).any fun q => PD.barred q.2 := by
        rw [List.any_map]
        rfl
      rw [← he] at q
      refine s_ret st (ev_cb (ea_cons (d := .list (((PD.partsOf (.tuple (.str wd :: fs))).map fun c => (PD.subsD h c).any fun q => PD.barred q.2).map .bool)) ?_ ea_nil) rc_any) fun v B2 H2 x2 w2 d2 => q v B2 H2 (x1.trans x2) w2 d2
      rw [List.map_map]
      exact ev_map (PD.partsOf (.tuple (.str wd :: fs))) id (fun c => .bool ((PD.subsD h c).any fun q => PD.barred q.2)) (fun c => [.dat (.tuple (.str wd :: fs)), .dat c]) (ei_list (by rw [List.map_id]; exact (el_call (ea_cons (ev_var rfl) ea_nil) ⟨_, hf, rfl, rfl⟩).d)) (by omega) (fun c _ => eg_nameW (by decide))
        (fun c hc => ev_call (ea_cons (ev_var rfl) ea_nil) ⟨c, hkids c hc, rfl, rfl⟩)
theorem ok_law_many {f fp : Addr} {fd fdp : FuncData} (T : Txt K mg AD) (a : At K mg "_law_many" s_law_many ["part", "is_unrolled"] f fd) (ap : At K mg "_law_children" s_law_children ["part"] fp fdp) : ∀ h, FnOk P w K mg base CX0 (h + 3) f fd ["part", "is_unrolled"] (SpR K (R_many h))
  | 0 => SpR_false fun ds d ⟨t, _, o, _⟩ => Bool.noConfusion o
  | h + 1 => by
    have C_law_children := ap.cal (ok_law_children (P := P) (w := w) (base := base) T ap)
    have C_law_many := a.cal (ok_law_many T a ap h)
    refine ok_fn a.fn sc_law_many (by rintro ds d ⟨t, _, _, rfl, _⟩; rfl) fun cdv A outer s H0 E hr ds d ⟨t, u, ho, e1, e2⟩ => ?_
    subst e1 e2
    refine ⟨_, (pss_cons (ps_set (i := 2) sc_law_many.nd rfl (Or.inl rfl) (pe_callB (cr_sumK K rfl) (by rfl) T.b_sum (by decide +kernel) (pa_cons (pe_lc (own := [("inner", 3)]) (by rfl) sc_law_many.nd (pi_listK K (pe_cal C_law_children hr (by omega) (by rfl) (pa_cons (pv 0) pa_nil))) (blkOk_by (own := [("inner", 3)]) (N := N_sc_law_many) (sc := defScope s_law_many) (by decide +kernel)) (fun _ _ _ _ _ => (pg_name (i := 3) sc_law_many.nd rfl (Or.inl rfl))) (fun _ _ _ _ _ => pts_nil) (fun _ _ _ _ _ => (pe_cal C_law_many hr (by omega) (by rfl) (pa_cons (pv 3) (pa_cons (pv 1) pa_nil))))) pa_nil)))
    (pss_one (ps_ret (pe_op op_add pe_int (pe_op op_mul (pv 2) (pe_ifExp (PW.pt (pw_and (pt_val (pv 1)) (pw_and1 (pt_cmpR op_eq (pe_ix (ix_tupK K) (pv 0) pe_int (fun _ _ => rfl)) pe_str (nomark _))))) (pe_ix (ix_tupK K) (pv 0) pe_int (fun _ _ => rfl)) pe_int)))))), fun B O σ H Q st q => ?_⟩
    obtain ⟨hf, hkids⟩ := PD.ok_succ ho
    have fm := PD.form_of hf
    have hk := fm.kids
    obtain ⟨wd, fs, rfl⟩ := fm.head
    rw [many_succ] at q
    refine q_asg st (d := .int (((PD.partsOf (.tuple (.str wd :: fs))).map (manyD u h)).sum)) (ev_cb (ea_cons (d := .list (((PD.partsOf (.tuple (.str wd :: fs))).map (manyD u h)).map .int)) ?_ ea_nil) rc_sum) fun v1 B1 H1 x1 d1 st => ?_
    · rw [List.map_map]
      exact ev_map (PD.partsOf (.tuple (.str wd :: fs))) id (fun c => .int (manyD u h c)) (fun c => [.dat (.tuple (.str wd :: fs)), .dat (.bool u), .un, .dat c]) (ei_list (by rw [List.map_id]; exact (el_call (ea_cons (ev_var rfl) ea_nil) ⟨_, hf, rfl, rfl⟩).d)) (by omega) (fun c _ => eg_nameW (by decide))
        (fun c hc => ev_call (ea_cons (ev_var rfl) (ea_cons (ev_var rfl) ea_nil)) ⟨c, u, hkids c hc, rfl, rfl⟩)
    refine s_ret st (ev_op ev_int (ev_op (ev_var rfl) (ev_if (d := .int (if u = true ∧ PD.wordOf (.tuple (.str wd :: fs)) = "times" then PD.numOf (.tuple (.str wd :: fs)) else 1)) (b := u && (wd == "times")) (et_and (et_B (ev_var rfl)) fun _ => et_test (ev_op (ev_op (ev_var rfl) ev_int (rd_ixT at0)) ev_str rd_eqStr)) (fun hb => ?_) (fun hb => ?_)) (rd_I (.inr ?_))) rd_I0) fun v2 B2 H2 x2 w2 d2 => q v2 B2 H2 (x1.trans x2) w2 d2
    · rw [Bool.and_eq_true] at hb
      have hwd := eq_of_beq hb.2
      obtain ⟨n, x, rfl, hn0, hn6⟩ := times_of fm hwd
      rw [if_pos ⟨hb.1, hwd⟩]
      exact ev_op (ev_var rfl) ev_int (rd_ixT at1)
    · rw [if_neg (fun z => by rw [z.1, Bool.true_and] at hb; have : (wd == "times") = true := by rw [show wd = "times" from z.2]; decide
                              rw [this] at hb; cases hb)]
      exact ev_int
    · split
      · rename_i hh
        obtain ⟨n, x, rfl, hn0, hn6⟩ := times_of fm hh.2
        show -(2 ^ 64 : Int) < n ∧ n < 2 ^ 64
        omega
      · decide
end
end Toy

set_option Elab.async false
set_option linter.all false
set_option maxRecDepth 100000
set_option maxHeartbeats 4000000
namespace Toy
open PySem PySem.Spec PyProof.Rows L2 StX DL PT


def R_whole (ds : List PyData) (d : PyData) : Prop := ∃ x lo hi, ds = [x, .int lo, .int hi] ∧ d = .bool (PD.inFrom x lo (some hi))
def R_bound (ds : List PyData) (d : PyData) : Prop := ∃ x hi, ds = [x, .int hi] ∧ d = .bool (PD.orNone x 0 (some hi))
def optsB : PyData → Bool
  | .tuple os => decide (1 ≤ os.length ∧ os.length ≤ 6) && PD.optsOk 0 os
  | _ => false
def R_good (ds : List PyData) (d : PyData) : Prop := ∃ x, ds = [x] ∧ d = .bool (optsB x)
abbrev CalWhole (P : Program) (w : World) (K : PySem.W.Frag) (mg : Str → Option Value) (base : Heap) : Prop := Cal P w K mg base 2 "_law_whole" ["thing", "low", "high"] (SpR K R_whole)
abbrev CalBound (P : Program) (w : World) (K : PySem.W.Frag) (mg : Str → Option Value) (base : Heap) : Prop := Cal P w K mg base 4 "_law_bound" ["thing", "high"] (SpR K R_bound)
abbrev CalGood (P : Program) (w : World) (K : PySem.W.Frag) (mg : Str → Option Value) (base : Heap) : Prop := Cal P w K mg base 4 "_law_options_good" ["thing"] (SpR K R_good)
section
variable {K : PySem.W.Frag} {B O : Hp} {G : List SD} {ta tb tc : TE} {x y : PyData} {E : XK}
theorem ev_whole {lo hi : Int} (h1 : EvD K B O G ta x) (h2 : EvD K B O G tb (.int lo)) (h3 : EvD K B O G tc (.int hi)) : EvD K B O G (tCall (SpR K R_whole) [] E (tCons ta (tCons tb (tCons tc tNil)))) (.bool (PD.inFrom x lo (some hi))) := ev_call (ea_cons h1 (ea_cons h2 (ea_cons h3 ea_nil))) ⟨x, lo, hi, rfl, rfl⟩
theorem ev_bound {hi : Int} (h1 : EvD K B O G ta x) (h2 : EvD K B O G tb (.int hi)) : EvD K B O G (tCall (SpR K R_bound) [] E (tCons ta (tCons tb tNil))) (.bool (PD.orNone x 0 (some hi))) := ev_call (ea_cons h1 (ea_cons h2 ea_nil)) ⟨x, hi, rfl, rfl⟩
end
section
variable {P : Program} {w : World} {K : PySem.W.Frag} {mg : Str → Option Value} {base : Heap} {AD : Ads}

theorem ok_law_whole {f : Addr} {fd : FuncData} (T : Txt K mg AD) (a : At K mg "_law_whole" s_law_whole ["thing", "low", "high"] f fd) : FnOk P w K mg base CX0 2 f fd ["thing", "low", "high"] (SpR K R_whole) := by
  refine ok_fn a.fn sc_law_whole (by rintro ds d ⟨x, lo, hi, rfl, _⟩; rfl) fun cdv A outer s H0 E hr ds d ⟨x, lo, hi, e1, e2⟩ => ?_
  subst e1 e2
  refine ⟨_, (pss_one (ps_ret (pe_and (pe_callB (call_isiK' K) (by rfl) T.b_isinstance (by decide +kernel) (pa_cons (pv 0) (pa_cons (pe_bltn (v := .ty "int") (by rfl) T.b_int (by decide +kernel) rfl) pa_nil))) (pe_and (pe_not (pe_callB (call_isiK' K) (by rfl) T.b_isinstance (by decide +kernel) (pa_cons (pv 0) (pa_cons (pe_bltn (v := .ty "bool") (by rfl) T.b_bool (by decide +kernel) rfl) pa_nil)))) (pe_one (pe_chain op_le op_le (pv 1) (pv 0) (pv 2))))))), fun B O σ H Q st q => ?_⟩
  cases hw : PD.isWhole x with
  | false =>
    rw [PD.inFrom_not hw] at q
    cases hi : isIntD x with
    | false => exact s_ret st (ev_andV (a := false) (b := true) (ev_isi (ev_var rfl) (by rw [← hi]; exact kit_int x)) (fun z => Bool.noConfusion z)) fun v B' H' e w d => q v B' H' e w d
    | true => exact s_ret st (ev_andV (a := true) (b := false) (ev_isi (ev_var rfl) (by rw [← hi]; exact kit_int x)) fun _ => ev_andV (a := false) (b := true) (ev_is (ev_notV (ev_isi (ev_var rfl) (kit_bool x))) (by cases x <;> first | rfl | (cases hi; done) | (cases hw; done))) (fun z => Bool.noConfusion z)) fun v B' H' e w d => q v B' H' e w d
  | true =>
    obtain ⟨i, rfl⟩ := PD.whole_cases hw
    have e3 : PD.inFrom (.int i) lo (some hi) = (decide (lo ≤ i) && decide (i ≤ hi)) := rfl
    rw [e3] at q
    exact s_ret st (ev_andV (a := true) (ev_isi (ev_var rfl) (kit_int _)) fun _ => ev_andV (a := true) (ev_is (ev_notV (ev_isi (ev_var rfl) (kit_bool _))) rfl) fun _ => ev_chain (ev_var rfl) (ev_var rfl) (fun _ => ev_var rfl) rd_B0 fun _ => rd_B0) fun v B' H' e w d => q v B' H' e w d
theorem ok_law_bound {f : Addr} {fd : FuncData} (T : Txt K mg AD) (C_law_whole : CalWhole P w K mg base) (a : At K mg "_law_bound" s_law_bound ["thing", "high"] f fd) : FnOk P w K mg base CX0 4 f fd ["thing", "high"] (SpR K R_bound) := by
  refine ok_fn a.fn sc_law_bound (by rintro ds d ⟨x, hi, rfl, _⟩; rfl) fun cdv A outer s H0 E hr ds d ⟨x, hi, e1, e2⟩ => ?_
  subst e1 e2
  refine ⟨_, (pss_one (ps_ret (pe_or (pe_cmpR op_isN (pv 0) pe_non (nomark _)) (pe_one (pe_cal C_law_whole hr (by omega) (by rfl) (pa_cons (pv 0) (pa_cons pe_int (pa_cons (pv 1) pa_nil)))))))), fun B O σ H Q st q => ?_⟩
  have e : PD.orNone x 0 (some hi) = (PD.isNoneD x || PD.inFrom x 0 (some hi)) := by cases x <;> rfl
  rw [e] at q
  exact s_ret st (ev_orV (a := PD.isNoneD x) (ev_isNone (ev_var rfl) ev_non (by cases x <;> rfl)) fun _ => ev_whole (ev_var rfl) ev_int (ev_var rfl)) fun v B' H' e w d => q v B' H' e w d
theorem ok_law_options_good {f : Addr} {fd : FuncData} (T : Txt K mg AD) (C_law_whole : CalWhole P w K mg base) (a : At K mg "_law_options_good" s_law_options_good ["thing"] f fd) : FnOk P w K mg base CX0 4 f fd ["thing"] (SpR K R_good) := by
  refine ok_fn a.fn sc_law_options_good (by rintro ds d ⟨x, rfl, _⟩; rfl) fun cdv A outer s H0 E hr ds d ⟨x, e1, e2⟩ => ?_
  subst e1 e2
  refine ⟨_, (pss_cons (ps_if (PW.pt (pw_or (pt_not (pt_val (pe_callB (call_isiK' K) (by rfl) T.b_isinstance (by decide +kernel) (pa_cons (pv 0) (pa_cons (pe_bltn (v := .ty "tuple") (by rfl) T.b_tuple (by decide +kernel) rfl) pa_nil))))) (pw_or1 (pt_not (pt_chain op_le op_le pe_int (pe_callB (call_lenK K) (by rfl) T.b_len PySem.boot_len (pa_cons (pv 0) pa_nil)) pe_int))))) (pss_one (ps_ret pe_bl)) pss_nil)
    (pss_cons (ps_set (i := 1) sc_law_options_good.nd rfl (Or.inl rfl) (pe_un un_neg pe_int))
    (pss_cons (ps_for PassesOwn.never rfl (pi_tupK K (pv 0)) (pg_name (i := 2) sc_law_options_good.nd rfl (Or.inl rfl)) (pss_cons (ps_if (PW.pt (pw_or (pt_not (pt_val (pe_callB (call_isiK' K) (by rfl) T.b_isinstance (by decide +kernel) (pa_cons (pv 2) (pa_cons (pe_bltn (v := .ty "tuple") (by rfl) T.b_tuple (by decide +kernel) rfl) pa_nil))))) (pw_or (pt_cmpR op_ne (pe_callB (call_lenK K) (by rfl) T.b_len PySem.boot_len (pa_cons (pv 2) pa_nil)) pe_int (nomark _)) (pw_or1 (pt_not (pt_val (pe_cal C_law_whole hr (by omega) (by rfl) (pa_cons (pe_ix (ix_tupK K) (pv 2) pe_int (fun _ _ => rfl)) (pa_cons (pe_op op_add (pv 1) pe_int) (pa_cons pe_int pa_nil)))))))))) (pss_one (ps_ret pe_bl)) pss_nil)
    (pss_one (ps_set (i := 1) sc_law_options_good.nd rfl (Or.inl rfl) (pe_ix (ix_tupK K) (pv 2) pe_int (fun _ _ => rfl))))))
    (pss_one (ps_ret pe_bl))))), fun B O σ H Q st q => ?_⟩
  have no : ∀ {B2 H2 σ2 G2}, optsB x = false → Ex B B2 → Sta K B2 O G2 σ2 H2 → tRet (tC (.bl false)) { nx := fun _ H' => Q .non H', rt := Q } σ2 H2 := fun {B2 H2 σ2 G2} e x2 st => by
    rw [e] at q
    exact s_ret st ev_bl fun v B3 H3 x3 w3 d3 => q v B3 H3 (x2.trans x3) w3 d3
  cases ht : isTupD x with
  | false =>
    refine q_whenT st (et_is (et_or (a := true) (b := true) (et_is (et_not (et_test (ev_isTup (ev_var rfl) ht))) rfl) fun z => Bool.noConfusion z) rfl) fun B2 H2 x2 st => ?_
    exact no (by cases x <;> first | rfl | cases ht) x2 st
  | true =>
  obtain ⟨os, rfl⟩ : ∃ ps, x = .tuple ps := by cases x <;> first | exact ⟨_, rfl⟩ | cases ht
  have hch : optsB (.tuple os) = (decide (1 ≤ os.length ∧ os.length ≤ 6) && PD.optsOk 0 os) := rfl
  refine q_when st (b := !(decide ((1 : Int) ≤ (os.length : Int)) && decide ((os.length : Int) ≤ 6))) (et_is (et_or (a := false) (et_is (et_not (et_test (ev_isi (ev_var rfl) (kit_tup _)))) rfl) fun _ =>
    et_not (et_test (ev_chain ev_int (ev_cb (ea_cons (ev_var rfl) ea_nil) rc_lenT) (fun _ => ev_int) rd_B0 (fun _ => rd_B0)))) rfl) (fun h2 B2 H2 x2 st => ?_) (fun h2 B2 H2 x2 st => ?_)
  · refine no ?_ x2 st
    rw [hch, decide_eq_false, Bool.false_and]
    rintro ⟨a1, a2⟩
    rw [decide_eq_true (show (1 : Int) ≤ (os.length : Int) by omega), decide_eq_true (show (os.length : Int) ≤ 6 by omega)] at h2
    cases h2
  · have hn : 1 ≤ os.length ∧ os.length ≤ 6 := by
      have h3 : (decide ((1 : Int) ≤ (os.length : Int)) && decide ((os.length : Int) ≤ 6)) = true := by
        cases h4 : (decide ((1 : Int) ≤ (os.length : Int)) && decide ((os.length : Int) ≤ 6)) with
        | true => rfl
        | false => rw [h4] at h2; cases h2
      rw [Bool.and_eq_true, decide_eq_true_eq, decide_eq_true_eq] at h3
      omega
    rw [decide_eq_true hn, Bool.true_and] at hch
    refine q_asg st (d := .int (0 - 1)) (ev_is (ev_un ev_int) (by rfl)) fun v3 B3 H3 x3 d3 st => ?_
    refine q_for st (es := os) (ei_tup (ev_var rfl)) (fun i B' O' G' => O' = O ∧ ∃ (lo : Int) (g5 : SD), PD.optsOk 0 os = PD.optsOk lo (os.drop i) ∧ G' = [.dat (.tuple os), .dat (.int (lo - 1)), g5]) (fun i B1 B2 O1 G1 e x => x) ⟨rfl, 0, _, rfl, rfl⟩ ?_ ?_
    · rintro i e B4 O4 G4 σ4 H4 v hie x4 ⟨rfl, lo, g5, ho, rfl⟩ st dv N hN
      refine eg_name B4 _ σ4 H4 v st dv _ fun σ5 st _ => ?_
      have hd : os.drop i = e :: os.drop (i + 1) := by
        rw [List.drop_eq_getElem_cons (List.getElem?_eq_some_iff.mp hie).1, (List.getElem?_eq_some_iff.mp hie).2]
      rw [hd] at ho
      have nn : ∀ {B2 H2 σ2 G2}, PD.optsOk lo (e :: os.drop (i + 1)) = false → Ex B B2 → Sta K B2 O4 G2 σ2 H2 → tRet (tC (.bl false)) { nx := N, rt := Q } σ2 H2 := fun {B2 H2 σ2 G2} ef x2 st => by
        rw [hch, ho, ef] at q
        exact s_ret st ev_bl fun v B3 H3 x3 w3 d3 => q v B3 H3 (x2.trans x3) w3 d3
      have xx := ((x2.trans x3).trans x4)
      cases he : isTupD e with
      | false =>
        refine q_whenT st (et_or (a := true) (b := true) (et_is (et_not (et_test (ev_isTup (ev_var rfl) he))) rfl) fun z => Bool.noConfusion z) fun B5 H5 x5 st => ?_
        exact nn (by cases e <;> first | rfl | cases he) (xx.trans x5) st
      | true =>
      obtain ⟨ds, rfl⟩ : ∃ ps, e = .tuple ps := by cases e <;> first | exact ⟨_, rfl⟩ | cases he
      by_cases h2 : ds.length = 2
      · obtain ⟨n, p, rfl⟩ : ∃ n p, ds = [n, p] := by
          match ds, h2 with
          | [n, p], _ => exact ⟨n, p, rfl⟩
        refine q_when st (b := !PD.inFrom n lo (some 99)) (et_is (et_or (a := false) (et_is (et_not (et_test (ev_isi (ev_var rfl) (kit_tup _)))) rfl) fun _ => et_or (a := false) (et_test (ev_op (ev_cb (ea_cons (ev_var rfl) ea_nil) rc_lenT) ev_int rd_neInt)) fun _ => et_not (et_test (ev_whole (ev_op (ev_var rfl) ev_int (rd_ixT at0)) (ev_is (ev_op (ev_var rfl) ev_int rd_I0) (show PyData.int (lo - 1 + 1) = .int lo from congrArg PyData.int (by omega))) ev_int))) rfl) (fun h5 B5 H5 x5 st => ?_) (fun h5 B5 H5 x5 st => ?_)
        · refine nn ?_ (xx.trans x5) st
          show (PD.inFrom n lo (some 99) && _) = false
          rw [show PD.inFrom n lo (some 99) = false by simpa using h5]
          rfl
        · have h6 : PD.inFrom n lo (some 99) = true := by simpa using h5
          obtain ⟨z, rfl, _, _⟩ := PD.from_int h6
          refine s_asg st (ev_is (ev_op (ev_var rfl) ev_int (rd_ixT at0)) (show PyData.int z = .int (z + 1 - 1) from congrArg PyData.int (by omega))) fun v6 B6 H6 x6 d6 st => ?_
          refine hN B6 _ _ _ _ (x5.trans x6) ⟨rfl, z + 1, _, ?_, rfl⟩ st
          rw [ho]
          show (PD.inFrom (.int z) lo (some 99) && _) = _
          rw [h6]
          rfl
      · refine q_whenT st (et_is (et_or (a := false) (b := true) (et_is (et_not (et_test (ev_isi (ev_var rfl) (kit_tup _)))) rfl) fun _ => et_is (et_or (a := true) (b := true) (et_is (et_test (ev_op (ev_cb (ea_cons (ev_var rfl) ea_nil) rc_lenT) ev_int rd_neInt)) (by
          have : ¬ (ds.length : Int) = 2 := by omega
          simp [this])) fun z => Bool.noConfusion z) rfl) rfl) fun B5 H5 x5 st => ?_
        refine nn ?_ (xx.trans x5) st
        match ds, h2 with
        | [], _ => rfl
        | [_], _ => rfl
        | _ :: _ :: _ :: _, _ => rfl
        | [_, _], h => exact absurd rfl h
    · rintro B4 O4 G4 σ4 H4 x4 ⟨rfl, lo, g5, ho, rfl⟩ st
      rw [List.drop_length] at ho
      rw [hch, ho] at q
      exact s_ret st ev_bl fun v B5 H5 x5 w5 d5 => q v B5 H5 (((x2.trans x3).trans x4).trans x5) w5 d5
end
end Toy

set_option Elab.async false
set_option linter.all false
set_option maxRecDepth 100000
set_option maxHeartbeats 4000000
namespace Toy
open PySem PySem.Spec PyProof.Rows L2 StX DL PT


theorem op_inDK (K : PySem.W.Frag) {X : Cx} (hu : X.A.units + 65 < cLine) (h : X.K = K := by rfl) : OpR X (compareOp .In) (rInD K) := h ▸ op_inD hu
theorem units1 {k : Nat} {A : Around} (r : Room k A) : A.units + 1 < cLine := by
  have := r.un
  omega
theorem units65 {k : Nat} {A : Around} (r : Room k A) : A.units + 65 < cLine := by
  have := r.un
  omega
/-! a dict of words, written out -/
def lk : List (Str × Int) → Str → Option Int
  | [], _ => none
  | (k, n) :: r, x => if x = k then some n else lk r x
def kvsV (kvs : List (Str × Int)) : List (Key × V) := kvs.map fun p => ((.inr p.1 : Key), V.int p.2)
theorem valV_str {x : Str} : ∀ {kvs : List (Str × Int)}, valV (kvsV kvs) (.inr x : Key) = (lk kvs x).map V.int
  | [] => rfl
  | (k, n) :: r => by
    have ih := valV_str (x := x) (kvs := r)
    unfold valV at ih ⊢
    show (((((.inr k : Key), V.int n) :: kvsV r).find? fun kv => decide (kv.1 = (.inr x : Key))).map (·.2)) = (if x = k then some n else lk r x).map V.int
    rw [List.find?_cons]
    by_cases e : x = k
    · subst e
      rw [if_pos rfl]
      simp
    · rw [if_neg e]
      have : decide ((Sum.inr k : Key) = Sum.inr x) = false := decide_eq_false fun z => e (Sum.inr.inj z).symm
      rw [show decide ((((.inr k : Key), V.int n) : Key × V).1 = (.inr x : Key)) = false from this]
      exact ih
def IsW (kvs : List (Str × Int)) (B : Hp) (v : V) : Prop := ∃ a, v = .ref a ∧ B a = some (.dK (kvsV kvs))
theorem pairs_c {σ : L2.St} {Q : List (V × V) → Hp → Prop} : ∀ {kvs : List (Str × Int)} {H : Hp} {Q : List (V × V) → Hp → Prop}, tPairs (kvs.map fun p => ((tC (.str p.1), tC (.int p.2)) : TE × TE)) σ H Q = Q (kvs.map fun p => (V.str p.1, V.int p.2)) H
  | [], _, _ => rfl
  | (k, n) :: r, H, Q => by
    show tPairs (r.map fun p => ((tC (.str p.1), tC (.int p.2)) : TE × TE)) σ H (fun ps H3 => Q ((V.str k, V.int n) :: ps) H3) = _
    rw [pairs_c (Q := fun ps H3 => Q ((V.str k, V.int n) :: ps) H3)]
    rfl
section
variable {K : PySem.W.Frag} {B O : Hp} {G : List SD} {ta tb td ty tx : TE} {x : PyData} {i : Nat} {v : V}
theorem evp_disp {kvs : List (Str × Int)} (hn : mergeK [] (kvsV kvs) = kvsV kvs) (hl : kvs.length ≤ 15) : EvP K B O G (tDisp (kvs.map fun p => ((tC (.str p.1), tC (.int p.2)) : TE × TE))) (IsW kvs) := fun B1 O1 σ H e o s Q q p hp => by
  rw [pairs_c (Q := fun _ _ => True)]
  refine ⟨upd_same, kvsV kvs, ?_, by unfold kvsV; rw [List.length_map]; exact hl, ?_⟩
  · unfold kvsV
    rw [List.map_map]
    rfl
  · rw [upd_upd, hn]
    exact q _ _ _ (Ex.new (s.w.fb hp)) (s.w.newB hp) ⟨p, rfl, upd_same⟩
theorem evp_valW {kvs : List (Str × Int)} (hg : G[i]? = some (.val v)) (h : IsW kvs B v) : EvP K B O G (tVar i) (IsW kvs) := fun B1 O1 σ H e o s Q q => by
  obtain ⟨sv, h1, h2⟩ := s.s.get hg
  have h3 : sv = some v := h2
  subst h3
  obtain ⟨a, ea, hb⟩ := h
  exact ⟨_, h1, q _ B1 H (Ex.refl _) s.w ⟨a, ea, e _ _ hb⟩⟩
theorem ev_dget2 {kvs : List (Str × Int)} {x : Str} {z : Int} (h1 : EvP K B O G td (IsW kvs)) (h2 : EvD K B O G ty (.str x)) (h3 : EvD K B O G tx (.int z)) : EvD K B O G (tDGet2 td ty tx) (.int ((lk kvs x).getD z)) := fun B1 O1 σ H e o s Q q =>
  h1 B1 O1 σ H e o s _ fun v B2 H2 e2 w2 ⟨a, ev, ea⟩ => ⟨a, ev, .inl ⟨_, .inl (w2.b _ _ ea)⟩, h2 B2 O1 σ H2 (e.trans e2) o (s.ex e2 w2) _ fun u B3 H3 e3 w3 d3 => h3 B3 O1 σ H3 ((e.trans e2).trans e3) o (s.ex (e2.trans e3) w3) _ fun t B4 H4 e4 w4 d4 =>
    ⟨(lk kvs x).map V.int, .inl ⟨kvsV kvs, .inr x, .inl (w4.b _ _ (e4 _ _ (e3 _ _ ea))), dp_str (dp_ex e4 _ _ d3), valV_str.symm⟩, by
      rw [dp_int d4]
      have q' := q _ B4 H4 ((e2.trans e3).trans e4) w4 (.int ((lk kvs x).getD z))
      cases hl : lk kvs x with
      | none => rw [hl] at q'; exact q'
      | some n => rw [hl] at q'; exact q'⟩⟩
theorem oneOf_any {ws : List Str} : ((ws.map PyData.str).any fun z => PyData.eqv z x) = PD.oneOf ws x := by
  rw [List.any_map]
  cases x with
  | str y =>
    show ws.any ((fun z => PyData.eqv z (.str y)) ∘ PyData.str) = ws.any (y == ·)
    congr 1
    funext z
    show PyData.eqv (.str z) (.str y) = (y == z)
    rw [show PyData.eqv (.str z) (.str y) = (z == y) from rfl]
    rw [Bool.eq_iff_iff]
    constructor <;> (intro h; rw [eq_of_beq h]; exact beq_self_eq_true _)
  | _ => show ws.any _ = false; rw [List.any_eq_false]; intro z _; exact fun h => nomatch (show false = true from h)
theorem ev_inD {ws : List Str} (h : EvD K B O G ta x) (h2 : EvD K B O G tb (.list (ws.map .str))) (sx : SeqAt.shaped x = true) (hs : SeqAt.shaped (.list (ws.map .str)) = true) : EvD K B O G (tOp (rInD K) ta tb) (.bool (PD.oneOf ws x)) :=
  ev_op h h2 fun B1 O1 H v w hw hv hx Q q => ⟨x, ws.map .str, dt_dp _ _ (SeqAt.canLay_of_shaped sx) (dp_ex hw.b _ _ hv), dt_dp _ _ (SeqAt.canLay_of_shaped hs) (dp_ex hw.b _ _ hx), sx, hs, by rw [oneOf_any]; exact q _ B1 H (Ex.refl _) hw (.bl _)⟩
theorem ev_pow6 : EvD K B O G (tOp (rI CPow fun i j => .int (i ^ j.toNat)) (tC (.int 10)) (tC (.int 6))) (.int 1000000) := ev_is (ev_op ev_int ev_int (rd_I (f := fun i j => i ^ j.toNat) (show CPow 10 6 from ⟨by decide, by decide, by decide⟩))) rfl
theorem at4 {a b c d e : PyData} {r : List PyData} : atI (a :: b :: c :: d :: e :: r) 4 = some e := by
  have h : (4 : Int) < (r.length : Int) + 1 + 1 + 1 + 1 + 1 := by omega
  simp [atI, ixN, h]
theorem at5 {a b c d e f : PyData} {r : List PyData} : atI (a :: b :: c :: d :: e :: f :: r) 5 = some f := by
  have h : (5 : Int) < (r.length : Int) + 1 + 1 + 1 + 1 + 1 + 1 := by omega
  simp [atI, ixN, h]
end
/-! the lengths -/
def D1 : List (Str × Int) := [("cell", 4), ("row", 2), ("choice", 3), ("times", 3), ("counted", 5), ("within", 6), ("fill", 2), ("if left", 2)]
def D2 : List (Str × Int) := [("need", 2), ("pad", 3)]
def lenOf (wd : Str) : Nat := match PD.formAt wd with
  | some (n, _) => n
  | none => 0
theorem lens_eq (wd : Str) : (lk D2 wd).getD ((lk D1 wd).getD 0) = (lenOf wd : Int) := by
  by_cases e0 : wd = "cell"
  · subst e0; rfl
  by_cases e1 : wd = "row"
  · subst e1; rfl
  by_cases e2 : wd = "choice"
  · subst e2; rfl
  by_cases e3 : wd = "times"
  · subst e3; rfl
  by_cases e4 : wd = "counted"
  · subst e4; rfl
  by_cases e5 : wd = "within"
  · subst e5; rfl
  by_cases e6 : wd = "fill"
  · subst e6; rfl
  by_cases e7 : wd = "if left"
  · subst e7; rfl
  by_cases e8 : wd = "need"
  · subst e8; rfl
  by_cases e9 : wd = "pad"
  · subst e9; rfl
  simp [lk, D1, D2, lenOf, PD.formAt, e0, e1, e2, e3, e4, e5, e6, e7, e8, e9]
/-- what of a datum is compared with words can be compared -/
def Fld (d : PyData) : Prop := PD.hasForm d = true ∨ ∀ xs, d = .tuple xs → ∀ x, x ∈ xs → SeqAt.shaped x = true
theorem one_sh {ws : List Str} {x : PyData} (hw : ∀ y, y ∈ ws → PyData.strOk y = true) (h : PD.oneOf ws x = true) : SeqAt.shaped x = true := by
  cases x with
  | str y =>
    have h' : ws.any (y == ·) = true := h
    obtain ⟨z, hz, e⟩ := List.any_eq_true.mp h'
    have e' : y = z := eq_of_beq e
    subst e'
    exact (PT.lay_good (n := 1) (PT.good_str (hw y hz))).sh (by decide)
  | _ => cases h
theorem ok_man : ∀ y, y ∈ PD.MANNERS → PyData.strOk y = true := by decide +kernel
theorem ok_lim : ∀ y, y ∈ PD.LIMITS → PyData.strOk y = true := by decide +kernel
theorem ok_res : ∀ y, y ∈ PD.RESTS → PyData.strOk y = true := by decide +kernel
theorem fld_one {xs : List PyData} {m : PyData} {ws : List Str} (hF : Fld (.tuple xs)) (hm : m ∈ xs) (hw : ∀ y, y ∈ ws → PyData.strOk y = true) (hh : PD.hasForm (.tuple xs) = true → PD.oneOf ws m = true) : SeqAt.shaped m = true := by
  rcases hF with h | h
  · exact one_sh hw (hh h)
  · exact h xs rfl m hm
def R_lform (ds : List PyData) (d : PyData) : Prop := ∃ x, Fld x ∧ ds = [x] ∧ d = .bool (PD.hasForm x)
theorem form1 {a : PyData} : PD.hasForm (.tuple [a]) = false := by
  cases h : PD.hasForm (.tuple [a]) with
  | false => rfl
  | true => exact nomatch PD.form_of h
theorem sh_man : SeqAt.shaped (.list (PD.MANNERS.map .str)) = true := by decide +kernel
theorem sh_lim : SeqAt.shaped (.list (PD.LIMITS.map .str)) = true := by decide +kernel
theorem sh_res : SeqAt.shaped (.list (PD.RESTS.map .str)) = true := by decide +kernel
section
variable {P : Program} {w : World} {K : PySem.W.Frag} {mg : Str → Option Value} {base : Heap} {AD : Ads}

theorem ok_law_form {f : Addr} {fd : FuncData} (T : Txt K mg AD) (C_law_whole : CalWhole P w K mg base) (C_law_bound : CalBound P w K mg base) (C_law_options_good : CalGood P w K mg base) (a : At K mg "_law_form" s_law_form ["part"] f fd) : FnOk P w K mg base CX0 6 f fd ["part"] (SpR K R_lform) := by
  refine ok_fn a.fn sc_law_form (by rintro ds d ⟨x, _, rfl, _⟩; rfl) fun cdv A outer s H0 E hr ds d ⟨x, hF, e1, e2⟩ => ?_
  subst e1 e2
  refine ⟨_, (pss_cons (ps_set (i := 1) sc_law_form.nd rfl (Or.inl rfl) (pe_disp (pps_cons pe_str pe_int (pps_cons pe_str pe_int (pps_cons pe_str pe_int (pps_cons pe_str pe_int (pps_cons pe_str pe_int (pps_cons pe_str pe_int (pps_cons pe_str pe_int (pps_cons pe_str pe_int pps_nil)))))))) rfl rfl (by simp) (by decide)))
    (pss_cons (ps_if (PW.pt (pw_or (pt_not (pt_val (pe_callB (call_isiK' K) (by rfl) T.b_isinstance (by decide +kernel) (pa_cons (pv 0) (pa_cons (pe_bltn (v := .ty "tuple") (by rfl) T.b_tuple (by decide +kernel) rfl) pa_nil))))) (pw_or (pt_cmpR op_lt (pe_callB (call_lenK K) (by rfl) T.b_len PySem.boot_len (pa_cons (pv 0) pa_nil)) pe_int (nomark _)) (pw_or1 (pt_not (pt_val (pe_callB (call_isiK' K) (by rfl) T.b_isinstance (by decide +kernel) (pa_cons (pe_ix (ix_tupK K) (pv 0) pe_int (fun _ _ => rfl)) (pa_cons (pe_bltn (v := .ty "str") (by rfl) T.b_str (by decide +kernel) rfl) pa_nil))))))))) (pss_one (ps_ret pe_bl)) pss_nil)
    (pss_cons (ps_if (pt_cmpR op_ne (pe_dget2 (units1 hr) (pe_disp (pps_cons pe_str pe_int (pps_cons pe_str pe_int pps_nil)) rfl rfl (by simp) (by decide)) (pe_ix (ix_tupK K) (pv 0) pe_int (fun _ _ => rfl)) (pe_dget2 (units1 hr) (pv 1) (pe_ix (ix_tupK K) (pv 0) pe_int (fun _ _ => rfl)) pe_int ⟨by rfl, by rfl, by rfl, by rfl⟩) ⟨by rfl, by rfl, by rfl, by rfl⟩) (pe_callB (call_lenK K) (by rfl) T.b_len PySem.boot_len (pa_cons (pv 0) pa_nil)) (nomark _)) (pss_one (ps_ret pe_bl)) pss_nil)
    (pss_cons (ps_set (i := 2) sc_law_form.nd rfl (Or.inl rfl) (pe_lst (pa_cons pe_str (pa_cons pe_str pa_nil))))
    (pss_cons (ps_if (pt_cmpR op_eq (pe_ix (ix_tupK K) (pv 0) pe_int (fun _ _ => rfl)) pe_str (nomark _)) (pss_cons (ps_set (i := 3) sc_law_form.nd rfl (Or.inl rfl) (pe_or (pe_cmpR op_isN (pe_ix (ix_tupK K) (pv 0) pe_int (fun _ _ => rfl)) pe_non (nomark _)) (pe_one (pe_and (pe_cal C_law_whole hr (by omega) (by rfl) (pa_cons (pe_ix (ix_tupK K) (pv 0) pe_int (fun _ _ => rfl)) (pa_cons pe_int (pa_cons (pe_op op_pow pe_int pe_int) pa_nil)))) (pe_one (pe_cal C_law_whole hr (by omega) (by rfl) (pa_cons (pe_ix (ix_tupK K) (pv 0) pe_int (fun _ _ => rfl)) (pa_cons pe_int (pa_cons (pe_ix (ix_tupK K) (pv 0) pe_int (fun _ _ => rfl)) pa_nil)))))))))
    (pss_one (ps_ret (pe_and (pe_cal C_law_whole hr (by omega) (by rfl) (pa_cons (pe_ix (ix_tupK K) (pv 0) pe_int (fun _ _ => rfl)) (pa_cons pe_int (pa_cons (pe_op op_pow pe_int pe_int) pa_nil)))) (pe_and (pv 3) (pe_one (pe_cmpR (op_inDK K (units65 hr)) (pe_ix (ix_tupK K) (pv 0) pe_int (fun _ _ => rfl)) (pv 2) (by rfl)))))))) pss_nil)
    (pss_cons (ps_if (pt_cmpR op_eq (pe_ix (ix_tupK K) (pv 0) pe_int (fun _ _ => rfl)) pe_str (nomark _)) (pss_one (ps_ret (pe_and (pe_callB (call_isiK' K) (by rfl) T.b_isinstance (by decide +kernel) (pa_cons (pe_ix (ix_tupK K) (pv 0) pe_int (fun _ _ => rfl)) (pa_cons (pe_bltn (v := .ty "tuple") (by rfl) T.b_tuple (by decide +kernel) rfl) pa_nil))) (pe_one (pe_cmpR op_lt (pe_callB (call_lenK K) (by rfl) T.b_len PySem.boot_len (pa_cons (pe_ix (ix_tupK K) (pv 0) pe_int (fun _ _ => rfl)) pa_nil)) pe_int (nomark _)))))) pss_nil)
    (pss_cons (ps_if (pt_cmpR op_eq (pe_ix (ix_tupK K) (pv 0) pe_int (fun _ _ => rfl)) pe_str (nomark _)) (pss_one (ps_ret (pe_and (pe_cmpR (op_inDK K (units65 hr)) (pe_ix (ix_tupK K) (pv 0) pe_int (fun _ _ => rfl)) (pv 2) (by rfl)) (pe_one (pe_cal C_law_options_good hr (by omega) (by rfl) (pa_cons (pe_ix (ix_tupK K) (pv 0) pe_int (fun _ _ => rfl)) pa_nil)))))) pss_nil)
    (pss_cons (ps_if (pt_cmpR op_eq (pe_ix (ix_tupK K) (pv 0) pe_int (fun _ _ => rfl)) pe_str (nomark _)) (pss_one (ps_ret (pe_cal C_law_whole hr (by omega) (by rfl) (pa_cons (pe_ix (ix_tupK K) (pv 0) pe_int (fun _ _ => rfl)) (pa_cons pe_int (pa_cons pe_int pa_nil)))))) pss_nil)
    (pss_cons (ps_if (pt_cmpR op_eq (pe_ix (ix_tupK K) (pv 0) pe_int (fun _ _ => rfl)) pe_str (nomark _)) (pss_one (ps_ret (pe_and (pe_cmpR (op_inDK K (units65 hr)) (pe_ix (ix_tupK K) (pv 0) pe_int (fun _ _ => rfl)) (pv 2) (by rfl)) (pe_and (pe_cal C_law_bound hr (by omega) (by rfl) (pa_cons (pe_ix (ix_tupK K) (pv 0) pe_int (fun _ _ => rfl)) (pa_cons pe_int pa_nil))) (pe_one (pe_cal C_law_bound hr (by omega) (by rfl) (pa_cons (pe_ix (ix_tupK K) (pv 0) pe_int (fun _ _ => rfl)) (pa_cons pe_int pa_nil)))))))) pss_nil)
    (pss_cons (ps_if (pt_cmpR op_eq (pe_ix (ix_tupK K) (pv 0) pe_int (fun _ _ => rfl)) pe_str (nomark _)) (pss_cons (ps_set (i := 4) sc_law_form.nd rfl (Or.inl rfl) (pe_and (pe_cmpR (op_inDK K (units65 hr)) (pe_ix (ix_tupK K) (pv 0) pe_int (fun _ _ => rfl)) (pv 2) (by rfl)) (pe_and (pe_cmpR (op_inDK K (units65 hr)) (pe_ix (ix_tupK K) (pv 0) pe_int (fun _ _ => rfl)) (pe_lst (pa_cons pe_str (pa_cons pe_str (pa_cons pe_str pa_nil)))) (by rfl)) (pe_one (pe_cmpR (op_inDK K (units65 hr)) (pe_ix (ix_tupK K) (pv 0) pe_int (fun _ _ => rfl)) (pe_lst (pa_cons pe_str (pa_cons pe_str pa_nil))) (by rfl))))))
    (pss_one (ps_ret (pe_and (pv 4) (pe_one (pe_cal C_law_bound hr (by omega) (by rfl) (pa_cons (pe_ix (ix_tupK K) (pv 0) pe_int (fun _ _ => rfl)) (pa_cons pe_int pa_nil)))))))) pss_nil)
    (pss_cons (ps_if (pt_cmpR op_eq (pe_ix (ix_tupK K) (pv 0) pe_int (fun _ _ => rfl)) pe_str (nomark _)) (pss_one (ps_ret (pe_cal C_law_whole hr (by omega) (by rfl) (pa_cons (pe_ix (ix_tupK K) (pv 0) pe_int (fun _ _ => rfl)) (pa_cons pe_int (pa_cons pe_int pa_nil)))))) pss_nil)
    (pss_one (ps_ret (pe_or (pe_cmpR op_ne (pe_ix (ix_tupK K) (pv 0) pe_int (fun _ _ => rfl)) pe_str (nomark _)) (pe_one (pe_and (pe_cal C_law_whole hr (by omega) (by rfl) (pa_cons (pe_ix (ix_tupK K) (pv 0) pe_int (fun _ _ => rfl)) (pa_cons pe_int (pa_cons pe_int pa_nil)))) (pe_one (pe_cmpR (op_inDK K (units65 hr)) (pe_ix (ix_tupK K) (pv 0) pe_int (fun _ _ => rfl)) (pv 2) (by rfl))))))))))))))))))), fun B O σ H Q st q => ?_⟩
  refine q_asgP st (evp_disp (kvs := D1) rfl (by decide)) fun v0 B0 H0 x0 hv0 st => ?_
  have no : ∀ {B2 H2 σ2 G2}, PD.hasForm x = false → Ex B0 B2 → Sta K B2 O G2 σ2 H2 → tRet (tC (.bl false)) { nx := fun _ H' => Q .non H', rt := Q } σ2 H2 := fun {B2 H2 σ2 G2} e x2 st => by
    rw [e] at q
    exact s_ret st ev_bl fun v B3 H3 x3 w3 d3 => q v B3 H3 ((x0.trans x2).trans x3) w3 d3
  cases ht : isTupD x with
  | false =>
    refine q_whenT st (et_or (a := true) (b := true) (et_is (et_not (et_test (ev_isTup (ev_var rfl) ht))) rfl) fun z => Bool.noConfusion z) fun B1 H1 x1 st => ?_
    exact no (by cases x <;> first | rfl | cases ht) x1 st
  | true =>
  obtain ⟨ds, rfl⟩ : ∃ ps, x = .tuple ps := by cases x <;> first | exact ⟨_, rfl⟩ | cases ht
  match ds with
  | [] =>
    refine q_whenT st (et_or (a := false) (b := true) (et_is (et_not (et_test (ev_isTup (ev_var rfl) rfl))) rfl) fun _ => et_or (a := true) (b := true) (et_test (ev_op (ev_cb (ea_cons (ev_var rfl) ea_nil) rc_lenT) ev_int rd_B0)) fun z => Bool.noConfusion z) fun B1 H1 x1 st => ?_
    exact no rfl x1 st
  | [a1] =>
    refine q_whenT st (et_or (a := false) (b := true) (et_is (et_not (et_test (ev_isTup (ev_var rfl) rfl))) rfl) fun _ => et_or (a := true) (b := true) (et_test (ev_op (ev_cb (ea_cons (ev_var rfl) ea_nil) rc_lenT) ev_int rd_B0)) fun z => Bool.noConfusion z) fun B1 H1 x1 st => ?_
    exact no form1 x1 st
  | hd :: a1 :: fs =>
  have hlen : decide ((((hd :: a1 :: fs).length : Nat) : Int) < 2) = false := decide_eq_false (by rw [List.length_cons, List.length_cons]; omega)
  cases hs : isStrD hd with
  | false =>
    refine q_whenT st (et_or (a := false) (b := true) (et_is (et_not (et_test (ev_isTup (ev_var rfl) rfl))) rfl) fun _ => et_or (a := false) (b := true) (et_is (et_test (ev_op (ev_cb (ea_cons (ev_var rfl) ea_nil) rc_lenT) ev_int rd_B0)) hlen) fun _ => et_is (et_not (et_test (ev_isi (ev_op (ev_var rfl) ev_int (rd_ixT at0)) (by have := kit_str hd; rw [hs] at this; exact this)))) rfl) fun B1 H1 x1 st => ?_
    exact no (by cases hd <;> first | rfl | cases hs) x1 st
  | true =>
  obtain ⟨wd, rfl⟩ : ∃ y, hd = .str y := by cases hd <;> first | exact ⟨_, rfl⟩ | cases hs
  refine q_whenF st (et_is (et_or (a := false) (b := false) (et_is (et_not (et_test (ev_isTup (ev_var rfl) rfl))) rfl) fun _ => et_or (a := false) (b := false) (et_is (et_test (ev_op (ev_cb (ea_cons (ev_var rfl) ea_nil) rc_lenT) ev_int rd_B0)) hlen) fun _ => et_is (et_not (et_test (ev_isi (ev_op (ev_var rfl) ev_int (rd_ixT at0)) (kit_str _)))) rfl) rfl) fun B1 H1 x1 st => ?_
  have p0 : ∀ {B O : Hp} {G : List SD}, G[0]? = some (.dat (.tuple (.str wd :: a1 :: fs))) → EvD K B O G (tOp (rIxT K) (tVar 0) (tC (.int 0))) (.str wd) := fun hg => ev_op (ev_var hg) ev_int (rd_ixT at0)
  refine q_when st (b := !((lenOf wd : Int) == (((PyData.str wd :: a1 :: fs).length : Nat) : Int))) (et_test (ev_op (ev_is (ev_dget2 (evp_disp (kvs := D2) rfl (by decide)) (p0 rfl) (ev_dget2 (evp_valW rfl ⟨_, hv0.choose_spec.1, x1 _ _ hv0.choose_spec.2⟩) (p0 rfl) ev_int)) (congrArg PyData.int (lens_eq wd))) (ev_cb (ea_cons (ev_var rfl) ea_nil) rc_lenT) rd_neInt)) (fun h2 B2 H2 x2 st => ?_) (fun h2 B2 H2 x2 st => ?_)
  · refine no ?_ (x1.trans x2) st
    have hne : ¬ lenOf wd = fs.length + 2 := fun e => by
      rw [show ((lenOf wd : Int) == (((PyData.str wd :: a1 :: fs).length : Nat) : Int)) = true by rw [e, List.length_cons, List.length_cons]; exact beq_iff_eq.mpr (by omega)] at h2
      cases h2
    cases hf : PD.formAt wd with
    | none => exact form_none hf
    | some np =>
      obtain ⟨n, p⟩ := np
      rw [form_some hf, decide_eq_false, Bool.false_and]
      intro e
      refine hne ?_
      unfold lenOf
      rw [hf]
      exact e.symm
  have hl : lenOf wd = fs.length + 2 := by
    have h3 : ((lenOf wd : Int) == (((PyData.str wd :: a1 :: fs).length : Nat) : Int)) = true := by
      cases h5 : ((lenOf wd : Int) == (((PyData.str wd :: a1 :: fs).length : Nat) : Int)) with
      | true => rfl
      | false => rw [h5] at h2; cases h2
    have h6 := eq_of_beq h3
    rw [List.length_cons, List.length_cons] at h6
    omega
  refine q_asg st (d := .list (PD.MANNERS.map .str)) (ev_lst (ea_cons ev_str (ea_cons ev_str ea_nil)) (by decide)) fun v3 B3 H3 x3 d3 st => ?_
  have xx := ((x0.trans x1).trans x2).trans x3
  have fin : ∀ {te : TE} {b : Bool} {B4 H4 σ4 G4}, Ex B3 B4 → Sta K B4 O G4 σ4 H4 → EvD K B4 O G4 te (.bool b) → PD.hasForm (.tuple (.str wd :: a1 :: fs)) = b → tRet te { nx := fun _ H' => Q .non H', rt := Q } σ4 H4 := fun {te b B4 H4 σ4 G4} x4 st h e => by
    rw [e] at q
    exact s_ret st h fun v B5 H5 x5 w5 d5 => q v B5 H5 ((xx.trans x4).trans x5) w5 d5
  -- cell
  refine q_when st (et_test (ev_op (p0 rfl) ev_str rd_eqStr)) (fun h4 B4 H4 x4 st => ?_) (fun h4 B4 H4 x4 st => ?_)
  · have ew := eq_of_beq h4
    subst ew
    obtain ⟨hi, m, rfl⟩ : ∃ hi m, fs = [hi, m] := by
      match fs, hl with
      | [hi, m], _ => exact ⟨hi, m, rfl⟩
    have e : PD.hasForm (.tuple [.str "cell", a1, hi, m]) = (PD.inFrom a1 0 (some 1000000) && (PD.orNone hi (PD.intOf a1) (some 1000000) && PD.oneOf PD.MANNERS m)) := rfl
    have sm := fld_one (m := m) hF (by simp) ok_man fun h => by rw [e] at h; simp only [Bool.and_eq_true] at h; exact h.2.2
    refine q_asg st (d := .bool (PD.isNoneD hi || (PD.inFrom hi 0 (some 1000000) && PD.inFrom a1 0 (some (PD.intOf hi))))) (ev_orV (a := PD.isNoneD hi) (ev_isNone (ev_op (ev_var rfl) ev_int (rd_ixT at2)) ev_non (by cases hi <;> rfl)) fun _ => ev_andV (ev_whole (ev_op (ev_var rfl) ev_int (rd_ixT at2)) ev_int ev_pow6) fun hh => ?_) fun v5 B5 H5 x5 d5 st => ?_
    · obtain ⟨z, rfl, _, _⟩ := PD.from_int hh
      exact ev_whole (ev_op (ev_var rfl) ev_int (rd_ixT at1)) ev_int (ev_op (ev_var rfl) ev_int (rd_ixT at2))
    · refine fin (x4.trans x5) st (ev_andV (ev_whole (ev_op (ev_var rfl) ev_int (rd_ixT at1)) ev_int ev_pow6) fun _ => ev_andV (ev_var rfl) fun _ => ev_inD (ev_op (ev_var rfl) ev_int (rd_ixT at3)) (ev_var rfl) sm sh_man) ?_
      rw [e]
      cases ha : PD.inFrom a1 0 (some 1000000) with
      | false => rfl
      | true =>
        obtain ⟨z, rfl, hz0, hz1⟩ := PD.from_int ha
        have hz1 := of_decide_eq_true hz1
        congr 2
        cases hi with
        | int y =>
          show (decide (z ≤ y) && decide (y ≤ 1000000)) = (false || ((decide (0 ≤ y) && decide (y ≤ 1000000)) && (decide (0 ≤ z) && decide (z ≤ y))))
          rw [Bool.eq_iff_iff]
          simp
          omega
        | _ => rfl
  have n4 : wd ≠ "cell" := fun e => by subst e; exact absurd h4 (by decide)
  -- row
  refine q_when st (et_test (ev_op (p0 rfl) ev_str rd_eqStr)) (fun h5 B5 H5 x5 st => ?_) (fun h5 B5 H5 x5 st => ?_)
  · have ew := eq_of_beq h5
    subst ew
    obtain rfl : fs = [] := by
      match fs, hl with
      | [], _ => rfl
    cases hi : isTupD a1 with
    | false =>
      refine fin (x4.trans x5) st (ev_andV (a := false) (b := true) (ev_isTup (ev_op (ev_var rfl) ev_int (rd_ixT at1)) hi) fun z => Bool.noConfusion z) ?_
      cases a1 <;> first | rfl | cases hi
    | true =>
      obtain ⟨ps, rfl⟩ : ∃ ps, a1 = .tuple ps := by cases a1 <;> first | exact ⟨_, rfl⟩ | cases hi
      refine fin (x4.trans x5) st (ev_andV (a := true) (ev_isTup (ev_op (ev_var rfl) ev_int (rd_ixT at1)) rfl) fun _ => ev_op (ev_cb (ea_cons (ev_op (ev_var rfl) ev_int (rd_ixT at1)) ea_nil) rc_lenT) ev_int rd_B0) ?_
      show decide (ps.length ≤ 12) = decide ((ps.length : Int) < 13)
      exact decide_eq_decide.mpr (by omega)
  have n5 : wd ≠ "row" := fun e => by subst e; exact absurd h5 (by decide)
  -- choice
  refine q_when st (et_test (ev_op (p0 rfl) ev_str rd_eqStr)) (fun h6 B6 H6 x6 st => ?_) (fun h6 B6 H6 x6 st => ?_)
  · have ew := eq_of_beq h6
    subst ew
    obtain ⟨y, rfl⟩ : ∃ y, fs = [y] := by
      match fs, hl with
      | [y], _ => exact ⟨y, rfl⟩
    have e : PD.hasForm (.tuple [.str "choice", a1, y]) = (PD.oneOf PD.MANNERS a1 && optsB y) := by
      show (true && PD.isChoice [a1, y]) = _
      rw [Bool.true_and]
      cases y <;> first | rfl | (show false = (_ && false); rw [Bool.and_false])
    have sm := fld_one (m := a1) hF (by simp) ok_man fun h => by rw [e] at h; simp only [Bool.and_eq_true] at h; exact h.1
    exact fin ((x4.trans x5).trans x6) st (ev_andV (ev_inD (ev_op (ev_var rfl) ev_int (rd_ixT at1)) (ev_var rfl) sm sh_man) fun _ => ev_call (ea_cons (ev_op (ev_var rfl) ev_int (rd_ixT at2)) ea_nil) ⟨y, rfl, rfl⟩) e
  have n6 : wd ≠ "choice" := fun e => by subst e; exact absurd h6 (by decide)
  -- times
  refine q_when st (et_test (ev_op (p0 rfl) ev_str rd_eqStr)) (fun h7 B7 H7 x7 st => ?_) (fun h7 B7 H7 x7 st => ?_)
  · have ew := eq_of_beq h7
    subst ew
    obtain ⟨y, rfl⟩ : ∃ y, fs = [y] := by
      match fs, hl with
      | [y], _ => exact ⟨y, rfl⟩
    exact fin (((x4.trans x5).trans x6).trans x7) st (ev_whole (ev_op (ev_var rfl) ev_int (rd_ixT at1)) ev_int ev_int) (by show (true && PD.inFrom a1 0 (some 6)) = _; rw [Bool.true_and])
  have n7 : wd ≠ "times" := fun e => by subst e; exact absurd h7 (by decide)
  -- counted
  refine q_when st (et_test (ev_op (p0 rfl) ev_str rd_eqStr)) (fun h8 B8 H8 x8 st => ?_) (fun h8 B8 H8 x8 st => ?_)
  · have ew := eq_of_beq h8
    subst ew
    obtain ⟨mo, ah, y, rfl⟩ : ∃ mo ah y, fs = [mo, ah, y] := by
      match fs, hl with
      | [mo, ah, y], _ => exact ⟨mo, ah, y, rfl⟩
    have e : PD.hasForm (.tuple [.str "counted", a1, mo, ah, y]) = (PD.oneOf PD.MANNERS a1 && (PD.orNone mo 0 (some 9) && PD.orNone ah 0 (some 9))) := rfl
    have sm := fld_one (m := a1) hF (by simp) ok_man fun h => by rw [e] at h; simp only [Bool.and_eq_true] at h; exact h.1
    exact fin ((((x4.trans x5).trans x6).trans x7).trans x8) st (ev_andV (ev_inD (ev_op (ev_var rfl) ev_int (rd_ixT at1)) (ev_var rfl) sm sh_man) fun _ => ev_andV (ev_bound (ev_op (ev_var rfl) ev_int (rd_ixT at2)) ev_int) fun _ => ev_bound (ev_op (ev_var rfl) ev_int (rd_ixT at3)) ev_int) e
  have n8 : wd ≠ "counted" := fun e => by subst e; exact absurd h8 (by decide)
  -- within
  refine q_when st (et_test (ev_op (p0 rfl) ev_str rd_eqStr)) (fun h9 B9 H9 x9 st => ?_) (fun h9 B9 H9 x9 st => ?_)
  · have ew := eq_of_beq h9
    subst ew
    obtain ⟨mo, l, r, y, rfl⟩ : ∃ mo l r y, fs = [mo, l, r, y] := by
      match fs, hl with
      | [mo, l, r, y], _ => exact ⟨mo, l, r, y, rfl⟩
    have e : PD.hasForm (.tuple [.str "within", a1, mo, l, r, y]) = (PD.oneOf PD.MANNERS a1 && (PD.orNone mo 0 (some 20) && (PD.oneOf PD.LIMITS l && PD.oneOf PD.RESTS r))) := rfl
    have sm := fld_one (m := a1) hF (by simp) ok_man fun h => by rw [e] at h; simp only [Bool.and_eq_true] at h; exact h.1
    have sl := fld_one (m := l) hF (by simp) ok_lim fun h => by rw [e] at h; simp only [Bool.and_eq_true] at h; exact h.2.2.1
    have sr := fld_one (m := r) hF (by simp) ok_res fun h => by rw [e] at h; simp only [Bool.and_eq_true] at h; exact h.2.2.2
    refine q_asg st (d := .bool (PD.oneOf PD.MANNERS a1 && (PD.oneOf PD.LIMITS l && PD.oneOf PD.RESTS r))) (ev_andV (ev_inD (ev_op (ev_var rfl) ev_int (rd_ixT at1)) (ev_var rfl) sm sh_man) fun _ => ev_andV (ev_inD (ws := PD.LIMITS) (ev_op (ev_var rfl) ev_int (rd_ixT at3)) (ev_lst (ea_cons ev_str (ea_cons ev_str (ea_cons ev_str ea_nil))) (by decide)) sl sh_lim) fun _ => ev_inD (ws := PD.RESTS) (ev_op (ev_var rfl) ev_int (rd_ixT at4)) (ev_lst (ea_cons ev_str (ea_cons ev_str ea_nil)) (by decide)) sr sh_res) fun va Ba Ha xa da st => ?_
    refine fin (((((x4.trans x5).trans x6).trans x7).trans x8).trans (x9.trans xa)) st (ev_andV (ev_var rfl) fun _ => ev_bound (ev_op (ev_var rfl) ev_int (rd_ixT at2)) ev_int) ?_
    rw [e]
    cases PD.oneOf PD.MANNERS a1 <;> cases PD.orNone mo 0 (some 20) <;> cases PD.oneOf PD.LIMITS l <;> cases PD.oneOf PD.RESTS r <;> rfl
  have n9 : wd ≠ "within" := fun e => by subst e; exact absurd h9 (by decide)
  -- need
  refine q_when st (et_test (ev_op (p0 rfl) ev_str rd_eqStr)) (fun ha Ba Ha xa st => ?_) (fun ha Ba Ha xa st => ?_)
  · have ew := eq_of_beq ha
    subst ew
    obtain rfl : fs = [] := by
      match fs, hl with
      | [], _ => rfl
    exact fin (((((x4.trans x5).trans x6).trans x7).trans x8).trans (x9.trans xa)) st (ev_whole (ev_op (ev_var rfl) ev_int (rd_ixT at1)) ev_int ev_int) (by show (true && PD.inFrom a1 1 (some 9)) = _; rw [Bool.true_and])
  have na : wd ≠ "need" := fun e => by subst e; exact absurd ha (by decide)
  -- pad, fill, if left
  by_cases ep : wd = "pad"
  · subst ep
    obtain ⟨m, rfl⟩ : ∃ m, fs = [m] := by
      match fs, hl with
      | [m], _ => exact ⟨m, rfl⟩
    have e : PD.hasForm (.tuple [.str "pad", a1, m]) = (PD.inFrom a1 2 (some 6) && PD.oneOf PD.MANNERS m) := rfl
    have sm := fld_one (m := m) hF (by simp) ok_man fun h => by rw [e] at h; simp only [Bool.and_eq_true] at h; exact h.2
    exact fin (((((x4.trans x5).trans x6).trans x7).trans x8).trans (x9.trans xa)) st (ev_orV (a := false) (ev_is (ev_op (p0 rfl) ev_str (rd_neS rfl rfl rfl rfl)) rfl) fun _ => ev_andV (ev_whole (ev_op (ev_var rfl) ev_int (rd_ixT at1)) ev_int ev_int) fun _ => ev_inD (ev_op (ev_var rfl) ev_int (rd_ixT at2)) (ev_var rfl) sm sh_man) e
  · have hfl : wd = "fill" ∨ wd = "if left" := by
      by_cases e1 : wd = "fill"
      · exact .inl e1
      by_cases e2 : wd = "if left"
      · exact .inr e2
      exfalso
      have hz : lenOf wd = 0 := by simp [lenOf, PD.formAt, n4, n5, n6, n7, n8, n9, na, ep, e1, e2]
      omega
    refine fin (((((x4.trans x5).trans x6).trans x7).trans x8).trans (x9.trans xa)) st (ev_orV (a := true) (b := true) (ev_is (ev_op (p0 rfl) ev_str (rd_neS rfl rfl rfl rfl)) ?_) fun z => Bool.noConfusion z) ?_
    · rcases hfl with rfl | rfl <;> rfl
    · have hfs : fs = [] := by
        rcases hfl with rfl | rfl <;> (match fs, hl with | [], _ => rfl)
      subst hfs
      rcases hfl with rfl | rfl <;> rfl
end
end Toy

set_option Elab.async false
set_option linter.all false
set_option maxRecDepth 100000
set_option maxHeartbeats 4000000
namespace Toy
open PySem PySem.Spec PyProof.Rows L2 StX DL PT


theorem lay_mem {n : Nat} {xs : List PyData} (h : Lay n (.tuple xs)) : ∀ x, x ∈ xs → Lay n x := by
  obtain ⟨h1, h2⟩ := h
  have key : ∀ l : List PyData, PyData.canLayAll0 l = true → ∀ x, x ∈ l → x.canLay0 = true ∧ x.depth ≤ PyData.depthAll l := fun l => by
    induction l with
    | nil => intro _ x hx; cases hx
    | cons y l ih =>
      intro c x hx
      have c' : (y.canLay0 && PyData.canLayAll0 l) = true := c
      rw [Bool.and_eq_true] at c'
      have e : PyData.depthAll (y :: l) = max y.depth (PyData.depthAll l) := rfl
      rcases List.mem_cons.mp hx with rfl | hx
      · exact ⟨c'.1, by rw [e]; exact Nat.le_max_left _ _⟩
      · obtain ⟨k1, k2⟩ := ih c'.2 x hx
        exact ⟨k1, Nat.le_trans k2 (by rw [e]; exact Nat.le_max_right _ _)⟩
  intro x hx
  obtain ⟨k1, k2⟩ := key xs h1 x hx
  have e : (PyData.tuple xs).depth = PyData.depthAll xs + 1 := by first | rfl | (show 1 + _ = _; omega)
  exact ⟨k1, by omega⟩
theorem lay_parts {n : Nat} {d c : PyData} (hf : PD.hasForm d = true) (h : Lay n d) (hc : c ∈ PD.partsOf d) : Lay n c := by
  have fm := PD.form_of hf
  cases fm with
  | row ps hp =>
    rw [PD.parts_row] at hc
    exact lay_mem (lay_mem h (.tuple ps) (by simp)) c hc
  | choice m os hp =>
    rw [PD.parts_choice] at hc
    obtain ⟨o, ho, rfl⟩ := List.mem_map.mp hc
    obtain ⟨k, p, rfl⟩ := PD.opts_at (PD.choice_opts hp).2.2.2 o ho
    exact lay_mem (lay_mem (lay_mem h (.tuple os) (by simp)) _ ho) p (by simp)
  | cell => cases hc
  | need => cases hc
  | pad => cases hc
  | times n x hp => rw [PD.parts_one (by decide)] at hc; exact lay_mem h c (by simp at hc; simp [hc])
  | counted m mo ah x hp => rw [PD.parts_one (by decide)] at hc; exact lay_mem h c (by simp at hc; simp [hc])
  | within m mo l r x hp => rw [PD.parts_one (by decide)] at hc; exact lay_mem h c (by simp at hc; simp [hc])
  | fill x => rw [PD.parts_one (by decide)] at hc; exact lay_mem h c (by simp at hc; simp [hc])
  | left x => rw [PD.parts_one (by decide)] at hc; exact lay_mem h c (by simp at hc; simp [hc])
/-- data in which the law's checks can compare what they compare -/
def Mild : Nat → PyData → Prop
  | 0, _ => True
  | h + 1, d => Fld d ∧ (PD.hasForm d = true → ∀ c, c ∈ PD.partsOf d → Mild h c)
theorem lay_mild : ∀ {h n : Nat} {d : PyData}, n ≤ 64 → Lay n d → Mild h d
  | 0, _, _, _, _ => trivial
  | h + 1, n, d, hn, hl => ⟨.inr fun xs e x hx => by subst e; exact (lay_mem hl x hx).sh hn, fun hf c hc => lay_mild hn (lay_parts hf hl hc)⟩
def R_lwrong (h : Nat) (ds : List PyData) (d : PyData) : Prop := ∃ t p, p.length + h = 8 ∧ Mild h t ∧ ds = [t, PD.encP p] ∧ d = encW (PD.fwrong h p t)
def R_where (ds : List PyData) (d : PyData) : Prop := ∃ t, Mild 8 t ∧ ds = [t] ∧ d = encW (PD.partErr t)
/-- what the law's checks call -/
structure Lws (P : Program) (w : World) (K : PySem.W.Frag) (mg : Str → Option Value) (base : Heap) : Prop where
  fo : Cal P w K mg base 6 "_law_form" ["part"] (SpR K R_lform)
  ch : Cal P w K mg base 2 "_law_children" ["part"] (SpL K R_parts)
  sz : ∀ h, Cal P w K mg base (h + 3) "_law_size" ["part"] (SpR K (R_size h))
  as_ : ∀ h, Cal P w K mg base (h + 3) "_law_asks" ["part"] (SpR K (R_asks h))
theorem ev_isNoneN {K : PySem.W.Frag} {B O : Hp} {G : List SD} {ta tb : TE} {s : Option Int} (h : EvD K B O G ta (PD.encN s)) (hb : EvD K B O G tb .none) : EvD K B O G (tOp (fun x y H Q => y = .non ∧ Q (.bl (decide (x = .non))) H) ta tb) (.bool s.isNone) := by
  cases s with
  | none => exact ev_isNone h hb rfl
  | some n => exact ev_isNone h hb rfl
theorem suits_counted {h : Nat} {m mo ah x : PyData} : PD.suits h (.tuple [.str "counted", m, mo, ah, x]) = !(!PD.isNoneD ah && (PD.sizeD h x).isNone) := by
  have e : PD.suits h (.tuple [.str "counted", m, mo, ah, x]) = if ("counted" : Str) = "counted" ∧ PD.isNoneD ah = false then (PD.sizeD h x).isSome
    else if ("counted" : Str) = "within" ∧ PD.isWord "told" ah = true then !((PD.subsD h (PD.field (.tuple [.str "counted", m, mo, ah, x]) 5)).any fun q => PD.barred q.2) else true := rfl
  have n2 : ¬ (("counted" : Str) = "within" ∧ PD.isWord "told" ah = true) := fun z => absurd z.1 (by decide)
  rw [e]
  cases hah : PD.isNoneD ah with
  | true =>
    rw [if_neg (fun z => Bool.noConfusion z.2), if_neg n2]
    rfl
  | false =>
    rw [if_pos ⟨rfl, rfl⟩]
    cases PD.sizeD h x <;> rfl
theorem suits_within {h : Nat} {m mo r x : PyData} {y : Str} : PD.suits h (.tuple [.str "within", m, mo, .str y, r, x]) = !((y == "told") && ((PD.subsD h x).any fun q => PD.barred q.2)) := by
  have e : PD.suits h (.tuple [.str "within", m, mo, .str y, r, x]) = if ("within" : Str) = "counted" ∧ PD.isNoneD (.str y) = false then (PD.sizeD h r).isSome
    else if ("within" : Str) = "within" ∧ (y == "told") = true then !((PD.subsD h x).any fun q => PD.barred q.2) else true := rfl
  have n1 : ¬ (("within" : Str) = "counted" ∧ PD.isNoneD (.str y) = false) := fun z => absurd z.1 (by decide)
  rw [e, if_neg n1]
  cases hy : y == "told" with
  | true =>
    rw [if_pos ⟨rfl, rfl⟩]
    rfl
  | false =>
    rw [if_neg (fun z => Bool.noConfusion z.2)]
    rfl
theorem suits_else {h : Nat} {wd : Str} {fs : List PyData} (h1 : ¬ wd = "counted") (h2 : ¬ wd = "within") : PD.suits h (.tuple (.str wd :: fs)) = true := by
  unfold PD.suits
  rw [if_neg (fun z => h1 z.1), if_neg (fun z => h2 z.1)]
section
variable {P : Program} {w : World} {K : PySem.W.Frag} {mg : Str → Option Value} {base : Heap} {AD : Ads}

theorem ok_law_wrong {f : Addr} {fd : FuncData} (T : Txt K mg AD) (Lw : Lws P w K mg base) (a : At K mg "_law_wrong" s_law_wrong ["part", "path"] f fd) : ∀ h, h ≤ 8 → FnOk P w K mg base CX0 (h + 12) f fd ["part", "path"] (SpR K (R_lwrong h))
  | 0, _ => by
    have C_law_form := Lw.fo
    have C_law_children := Lw.ch
    have C_law_size := Lw.sz 0
    have C_law_asks := Lw.as_ 0
    have C_law_wrong : Cal P w K mg base 0 "_law_wrong" ["part", "path"] (SpR K fun _ _ => False) := a.cal (SpR_false fun _ _ z => z)
    refine ok_fn a.fn sc_law_wrong (by rintro ds d ⟨t, p, _, _, rfl, _⟩; rfl) fun cdv A outer s H0 E hr ds d ⟨t, p, hp, hn, e1, e2⟩ => ?_
    subst e1 e2
    refine ⟨_, (pss_cons (ps_if (PW.pt (pw_or (pt_cmpR op_gt (pe_callB (call_lenK K) (by rfl) T.b_len PySem.boot_len (pa_cons (pv 1) pa_nil)) pe_int (nomark _)) (pw_or1 (pt_not (pt_val (pe_cal C_law_form hr (by omega) (by rfl) (pa_cons (pv 0) pa_nil))))))) (pss_one (ps_ret (pv 1))) pss_nil)
    (pss_cons (ps_set (i := 2) sc_law_wrong.nd rfl (Or.inl rfl) (pe_cal C_law_children hr (by omega) (by rfl) (pa_cons (pv 0) pa_nil)))
    (pss_cons (ps_for PassesOwn.never rfl (pi_range1 (by rfl) T.b_range (pa_cons (pe_callB (call_lenK K) (by rfl) T.b_len PySem.boot_len (pa_cons (pv 2) pa_nil)) pa_nil)) (pg_name (i := 3) sc_law_wrong.nd rfl (Or.inl rfl)) (pss_cons (ps_set (i := 4) sc_law_wrong.nd rfl (Or.inl rfl) (pe_cal C_law_wrong hr (by omega) (by rfl) (pa_cons (pe_ix (ix_listK K) (pv 2) (pv 3) (fun _ _ => rfl)) (pa_cons (pe_op (op_catAK K) (pv 1) (pe_tup (pa_cons (pv 3) pa_nil))) pa_nil))))
    (pss_one (ps_if (pt_cmpR op_notN (pv 4) pe_non (nomark _)) (pss_one (ps_ret (pv 4))) pss_nil))))
    (pss_cons (ps_if (PW.pt (pw_and (pt_cmpR op_eq (pe_ix (ix_tupK K) (pv 0) pe_int (fun _ _ => rfl)) pe_str (nomark _)) (pw_and (pt_cmpR op_notN (pe_ix (ix_tupK K) (pv 0) pe_int (fun _ _ => rfl)) pe_non (nomark _)) (pw_and1 (pt_cmpR op_isN (pe_cal C_law_size hr (by omega) (by rfl) (pa_cons (pe_ix (ix_tupK K) (pv 0) pe_int (fun _ _ => rfl)) pa_nil)) pe_non (nomark _)))))) (pss_one (ps_ret (pv 1))) pss_nil)
    (pss_cons (ps_if (PW.pt (pw_and (pt_cmpR op_eq (pe_ix (ix_tupK K) (pv 0) pe_int (fun _ _ => rfl)) pe_str (nomark _)) (pw_and (pt_cmpR op_eq (pe_ix (ix_tupK K) (pv 0) pe_int (fun _ _ => rfl)) pe_str (nomark _)) (pw_and1 (pt_val (pe_cal C_law_asks hr (by omega) (by rfl) (pa_cons (pe_ix (ix_tupK K) (pv 0) pe_int (fun _ _ => rfl)) pa_nil))))))) (pss_one (ps_ret (pv 1))) pss_nil)
    (pss_one (ps_ret pe_non))))))), fun B O σ H Q st q => ?_⟩
    refine q_whenT st (et_is (et_or (a := true) (b := true) (et_is (et_test (ev_op (ev_cb (ea_cons (ev_var rfl) ea_nil) rc_lenT) ev_int rd_B0)) (by rw [List.length_map]; exact decide_eq_true (by omega))) fun z => Bool.noConfusion z) rfl) fun B1 H1 x1 st => ?_
    exact s_ret st (ev_var rfl) fun v B2 H2 x2 w2 d2 => q v B2 H2 (x1.trans x2) w2 d2
  | h + 1, hh => by
    have C_law_form := Lw.fo
    have C_law_children := Lw.ch
    have C_law_size := Lw.sz h
    have C_law_asks := Lw.as_ h
    have C_law_wrong := a.cal (ok_law_wrong T Lw a h (by omega))
    refine ok_fn a.fn sc_law_wrong (by rintro ds d ⟨t, p, _, _, rfl, _⟩; rfl) fun cdv A outer s H0 E hr ds d ⟨t, p, hp, hn, e1, e2⟩ => ?_
    subst e1 e2
    refine ⟨_, (pss_cons (ps_if (PW.pt (pw_or (pt_cmpR op_gt (pe_callB (call_lenK K) (by rfl) T.b_len PySem.boot_len (pa_cons (pv 1) pa_nil)) pe_int (nomark _)) (pw_or1 (pt_not (pt_val (pe_cal C_law_form hr (by omega) (by rfl) (pa_cons (pv 0) pa_nil))))))) (pss_one (ps_ret (pv 1))) pss_nil)
    (pss_cons (ps_set (i := 2) sc_law_wrong.nd rfl (Or.inl rfl) (pe_cal C_law_children hr (by omega) (by rfl) (pa_cons (pv 0) pa_nil)))
    (pss_cons (ps_for PassesOwn.never rfl (pi_range1 (by rfl) T.b_range (pa_cons (pe_callB (call_lenK K) (by rfl) T.b_len PySem.boot_len (pa_cons (pv 2) pa_nil)) pa_nil)) (pg_name (i := 3) sc_law_wrong.nd rfl (Or.inl rfl)) (pss_cons (ps_set (i := 4) sc_law_wrong.nd rfl (Or.inl rfl) (pe_cal C_law_wrong hr (by omega) (by rfl) (pa_cons (pe_ix (ix_listK K) (pv 2) (pv 3) (fun _ _ => rfl)) (pa_cons (pe_op (op_catAK K) (pv 1) (pe_tup (pa_cons (pv 3) pa_nil))) pa_nil))))
    (pss_one (ps_if (pt_cmpR op_notN (pv 4) pe_non (nomark _)) (pss_one (ps_ret (pv 4))) pss_nil))))
    (pss_cons (ps_if (PW.pt (pw_and (pt_cmpR op_eq (pe_ix (ix_tupK K) (pv 0) pe_int (fun _ _ => rfl)) pe_str (nomark _)) (pw_and (pt_cmpR op_notN (pe_ix (ix_tupK K) (pv 0) pe_int (fun _ _ => rfl)) pe_non (nomark _)) (pw_and1 (pt_cmpR op_isN (pe_cal C_law_size hr (by omega) (by rfl) (pa_cons (pe_ix (ix_tupK K) (pv 0) pe_int (fun _ _ => rfl)) pa_nil)) pe_non (nomark _)))))) (pss_one (ps_ret (pv 1))) pss_nil)
    (pss_cons (ps_if (PW.pt (pw_and (pt_cmpR op_eq (pe_ix (ix_tupK K) (pv 0) pe_int (fun _ _ => rfl)) pe_str (nomark _)) (pw_and (pt_cmpR op_eq (pe_ix (ix_tupK K) (pv 0) pe_int (fun _ _ => rfl)) pe_str (nomark _)) (pw_and1 (pt_val (pe_cal C_law_asks hr (by omega) (by rfl) (pa_cons (pe_ix (ix_tupK K) (pv 0) pe_int (fun _ _ => rfl)) pa_nil))))))) (pss_one (ps_ret (pv 1))) pss_nil)
    (pss_one (ps_ret pe_non))))))), fun B O σ H Q st q => ?_⟩
    have ew : PD.fwrong (h + 1) p t = if PD.hasForm t = false then some p else match PD.firstOf (fun i x => PD.fwrong h (p ++ [(i : Int)]) x) 0 (PD.partsOf t) with
      | some p => some p
      | none => if PD.suits h t then none else some p := rfl
    have hge : decide ((7 : Int) < (((p.map PyData.int).length : Nat) : Int)) = false := by
      rw [List.length_map]
      exact decide_eq_false (by omega)
    refine q_when st (b := !PD.hasForm t) (et_is (et_or (a := false) (et_is (et_test (ev_op (ev_cb (ea_cons (ev_var rfl) ea_nil) rc_lenT) ev_int rd_B0)) hge) fun _ => et_not (et_test (ev_call (ea_cons (ev_var rfl) ea_nil) ⟨t, hn.1, rfl, rfl⟩))) (Bool.false_or _)) (fun h1 B1 H1 x1 st => ?_) (fun h1 B1 H1 x1 st => ?_)
    · rw [ew, if_pos (by simpa using h1)] at q
      exact s_ret st (ev_var rfl) fun v B2 H2 x2 w2 d2 => q v B2 H2 (x1.trans x2) w2 d2
    have hf : PD.hasForm t = true := by simpa using h1
    have hk := (PD.form_of hf).kids
    rw [ew, if_neg (by rw [hf]; exact fun z => Bool.noConfusion z)] at q
    refine q_asg st (d := .list (PD.partsOf t)) (el_call (ea_cons (ev_var rfl) ea_nil) ⟨t, hf, rfl, rfl⟩).d fun vi Bi Hi xi di st => ?_
    refine q_for st (es := rangeD 0 (PD.partsOf t).length) (by
        have h0 := ei_range1 (K := K) (B := Bi) (O := O) (G := [.dat t, .dat (PD.encP p), .dat (.list (PD.partsOf t)), .un, .un]) (ea_cons (ev_cb (ea_cons (ev_var (i := 2) rfl) ea_nil) rc_lenL) ea_nil) (by omega)
        rw [Int.toNat_natCast] at h0
        exact h0)
      (fun i B' O' G' => O' = O ∧ PD.firstOf (fun i x => PD.fwrong h (p ++ [(i : Int)]) x) 0 (PD.partsOf t) = PD.firstOf (fun i x => PD.fwrong h (p ++ [(i : Int)]) x) i ((PD.partsOf t).drop i) ∧ ∃ g3 g4, G' = [.dat t, .dat (PD.encP p), .dat (.list (PD.partsOf t)), g3, g4])
      (fun i B1 B2 O1 G1 e x => x) ⟨rfl, rfl, _, _, rfl⟩ ?_ ?_
    · rintro i e B2 O2 G2 σ2 H2 v hie x2 ⟨rfl, hfo, g3, g4, rfl⟩ st dv N hN
      obtain ⟨hi, rfl⟩ := range_inv hie
      obtain ⟨c, hc⟩ : ∃ c, (PD.partsOf t)[i]? = some c := ⟨_, List.getElem?_eq_getElem hi⟩
      have hcm : c ∈ PD.partsOf t := List.mem_of_getElem? hc
      have hd : (PD.partsOf t).drop i = c :: (PD.partsOf t).drop (i + 1) := by
        rw [List.drop_eq_getElem_cons (List.getElem?_eq_some_iff.mp hc).1, (List.getElem?_eq_some_iff.mp hc).2]
      rw [hd] at hfo
      refine eg_name B2 _ σ2 H2 v st dv _ fun σ3 st _ => ?_
      refine q_asg st (d := encW (PD.fwrong h (p ++ [(i : Int)]) c)) (ev_call (ea_cons (ev_op (ev_var rfl) (ev_var rfl) (rd_ixL (d := c) (at_nn (by omega) (by rw [show (0 + (i : Int)).toNat = i by omega]; exact hc)))) (ea_cons (ev_is (ev_op (ev_var rfl) (ev_tup (ea_cons (ev_var rfl) ea_nil) (by simp)) (rd_catT (by simp; omega))) (show PyData.tuple (p.map .int ++ [.int (0 + (i : Int))]) = PD.encP (p ++ [(i : Int)]) by unfold PD.encP; rw [List.map_append, Int.zero_add]; rfl)) ea_nil)) ⟨c, p ++ [(i : Int)], by simp; omega, hn.2 hf c hcm, rfl, rfl⟩) fun v3 B3 H3 x3 d3 st => ?_
      cases hw : PD.fwrong h (p ++ [(i : Int)]) c with
      | some pp =>
        rw [hw] at st
        refine s_if st (b := true) (et_test (not_none (d := encW (some pp)) (ev_var (i := 4) rfl) ev_non rfl)) (fun _ B4 H4 x4 st => ?_) (fun z => Bool.noConfusion z)
        refine s_ret st (ev_var rfl) fun v5 B5 H5 x5 w5 d5 => ?_
        rw [hfo, first_cons, hw] at q
        exact q v5 B5 H5 (((((x1.trans xi).trans x2).trans x3).trans x4).trans x5) w5 d5
      | none =>
        rw [hw] at st
        refine s_if st (b := false) (et_test (not_none (d := encW none) (ev_var (i := 4) rfl) ev_non rfl)) (fun z => Bool.noConfusion z) fun _ B4 H4 x4 st => ?_
        refine hN B4 _ _ _ _ (x3.trans x4) ⟨rfl, ?_, _, _, rfl⟩ st
        rw [hfo, first_cons, hw]
    · rintro B2 O2 G2 σ2 H2 x2 ⟨rfl, hfo, g3, g4, rfl⟩ st
      rw [rangeD_len, List.drop_length] at hfo
      rw [hfo] at q
      have hkids : ∀ c, c ∈ PD.partsOf t → PD.okB h c = true := fun c hc => by
        obtain ⟨j, hj⟩ := List.mem_iff_getElem?.mp hc
        exact PD.ok_of_fwrong (PD.firstOf_none hfo j c hj)
      have fk := PD.field_kid hf
      have xx := (x1.trans xi).trans x2
      have q' : ∀ v B' H', Ex B B' → W B' O2 H' → Dt K B' v (encW (if PD.suits h t then none else some p)) → Q v H' := q
      have ry : ∀ {B4 H4 σ4 G4}, PD.suits h t = true → Ex B2 B4 → Sta K B4 O2 G4 σ4 H4 → tRet (tC .non) { nx := fun _ H' => Q .non H', rt := Q } σ4 H4 := fun {B4 H4 σ4 G4} e x4 st => by
        rw [if_pos e] at q'
        exact s_ret st ev_non fun v5 B5 H5 x5 w5 d5 => q' v5 B5 H5 ((xx.trans x4).trans x5) w5 d5
      have rn : ∀ {B4 H4 σ4 G4} {i : Nat}, PD.suits h t = false → Ex B2 B4 → G4[i]? = some (.dat (PD.encP p)) → Sta K B4 O2 G4 σ4 H4 → tRet (tVar i) { nx := fun _ H' => Q .non H', rt := Q } σ4 H4 := fun {B4 H4 σ4 G4 i} e x4 hg st => by
        rw [if_neg (by rw [e]; exact fun z => Bool.noConfusion z)] at q'
        exact s_ret st (ev_var hg) fun v5 B5 H5 x5 w5 d5 => q' v5 B5 H5 ((xx.trans x4).trans x5) w5 d5
      have fm := PD.form_of hf
      obtain ⟨wd, fs, rfl⟩ := fm.head
      by_cases hc : wd = "counted"
      · obtain ⟨m, mo, ah, x, rfl⟩ := counted_of fm hc
        subst hc
        have hx : PD.okB h x = true := hkids _ (fk.1 rfl)
        have es := suits_counted (h := h) (m := m) (mo := mo) (ah := ah) (x := x)
        refine q_when st (b := !PD.isNoneD ah && (PD.sizeD h x).isNone) (et_is (et_and (a := true) (et_is (et_test (ev_op (ev_op (ev_var rfl) ev_int (rd_ixT at0)) ev_str rd_eqStr)) rfl) fun _ => et_and (et_test (not_none (ev_op (ev_var rfl) ev_int (rd_ixT at3)) ev_non rfl)) fun _ => et_test (ev_isNoneN (ev_call (ea_cons (ev_op (ev_var rfl) ev_int (rd_ixT at4)) ea_nil) ⟨x, hx, rfl, rfl⟩) ev_non)) (Bool.true_and _)) (fun h2 B3 H3 x3 st => ?_) (fun h2 B3 H3 x3 st => ?_)
        · exact rn (by rw [es, h2]; rfl) x3 rfl st
        · refine q_whenF st (et_is (et_and (a := false) (b := true) (et_is (et_test (ev_op (ev_op (ev_var rfl) ev_int (rd_ixT at0)) ev_str rd_eqStr)) rfl) fun z => Bool.noConfusion z) rfl) fun B4 H4 x4 st => ?_
          exact ry (by rw [es, h2]; rfl) (x3.trans x4) st
      have hcb : (wd == ("counted" : Str)) = false := beq_eq_false_iff_ne.mpr hc
      refine q_whenF st (et_is (et_and (a := false) (b := true) (et_is (et_test (ev_op (ev_op (ev_var rfl) ev_int (rd_ixT at0)) ev_str rd_eqStr)) hcb) fun z => Bool.noConfusion z) rfl) fun B3 H3 x3 st => ?_
      by_cases hwi : wd = "within"
      · obtain ⟨m, mo, l, r, x, rfl, y, rfl⟩ := within_of fm hwi
        subst hwi
        have hx : PD.okB h x = true := hkids _ (fk.2 rfl)
        have es := suits_within (h := h) (m := m) (mo := mo) (y := y) (r := r) (x := x)
        refine q_when st (b := (y == "told") && ((PD.subsD h x).any fun q => PD.barred q.2)) (et_is (et_and (a := true) (et_is (et_test (ev_op (ev_op (ev_var rfl) ev_int (rd_ixT at0)) ev_str rd_eqStr)) rfl) fun _ => et_and (et_test (ev_op (ev_op (ev_var rfl) ev_int (rd_ixT at3)) ev_str rd_eqStr)) fun _ => et_test (ev_call (ea_cons (ev_op (ev_var rfl) ev_int (rd_ixT at5)) ea_nil) ⟨x, hx, rfl, rfl⟩)) (Bool.true_and _)) (fun h2 B4 H4 x4 st => ?_) (fun h2 B4 H4 x4 st => ?_)
        · exact rn (by rw [es, h2]; rfl) (x3.trans x4) rfl st
        · exact ry (by rw [es, h2]; rfl) (x3.trans x4) st
      have hwb : (wd == ("within" : Str)) = false := beq_eq_false_iff_ne.mpr hwi
      refine q_whenF st (et_is (et_and (a := false) (b := true) (et_is (et_test (ev_op (ev_op (ev_var rfl) ev_int (rd_ixT at0)) ev_str rd_eqStr)) hwb) fun z => Bool.noConfusion z) rfl) fun B4 H4 x4 st => ?_
      exact ry (suits_else hc hwi) (x3.trans x4) st
theorem ok_law_where {f : Addr} {fd : FuncData} (T : Txt K mg AD) (C_law_wrong : Cal P w K mg base 20 "_law_wrong" ["part", "path"] (SpR K (R_lwrong 8))) (C_law_many : Cal P w K mg base 11 "_law_many" ["part", "is_unrolled"] (SpR K (R_many 8))) (a : At K mg "_law_where" s_law_where ["part"] f fd) : FnOk P w K mg base CX0 22 f fd ["part"] (SpR K R_where) := by
  refine ok_fn a.fn sc_law_where (by rintro ds d ⟨t, _, rfl, _⟩; rfl) fun cdv A outer s H0 E hr ds d ⟨t, hm, e1, e2⟩ => ?_
  subst e1 e2
  refine ⟨_, (pss_cons (ps_set (i := 1) sc_law_where.nd rfl (Or.inl rfl) (pe_cal C_law_wrong hr (by omega) (by rfl) (pa_cons (pv 0) (pa_cons (pe_tup pa_nil) pa_nil))))
    (pss_cons (ps_if (PW.pt (pw_and (pt_cmpR op_isN (pv 1) pe_non (nomark _)) (pw_and1 (PW.pt (pw_or (pt_cmpR op_gt (pe_cal C_law_many hr (by omega) (by rfl) (pa_cons (pv 0) (pa_cons pe_bl pa_nil))) pe_int (nomark _)) (pw_or1 (pt_cmpR op_gt (pe_cal C_law_many hr (by omega) (by rfl) (pa_cons (pv 0) (pa_cons pe_bl pa_nil))) pe_int (nomark _)))))))) (pss_one (ps_ret (pe_tup pa_nil))) pss_nil)
    (pss_one (ps_ret (pv 1))))), fun B O σ H Q st q => ?_⟩
  refine q_asg st (d := encW (PD.fwrong 8 [] t)) (ev_call (ea_cons (ev_var rfl) (ea_cons (ev_is (ev_tup ea_nil (by simp)) (show PyData.tuple [] = PD.encP [] from rfl)) ea_nil)) ⟨t, [], rfl, hm, rfl, rfl⟩) fun v1 B1 H1 x1 d1 st => ?_
  cases hw : PD.fwrong 8 [] t with
  | some p =>
    have ep : PD.partErr t = some p := by
      unfold PD.partErr
      rw [hw]
    rw [hw] at st
    rw [ep] at q
    refine q_whenF st (et_is (et_and (a := false) (b := true) (et_test (ev_isNone (d := encW (some p)) (ev_var (i := 1) rfl) ev_non rfl)) fun z => Bool.noConfusion z) rfl) fun B2 H2 x2 st => ?_
    exact s_ret st (ev_var rfl) fun v B3 H3 x3 w3 d3 => q v B3 H3 ((x1.trans x2).trans x3) w3 d3
  | none =>
    have ho := PD.ok_of_fwrong hw
    have ep : PD.partErr t = if 60 < PD.npart 8 t ∨ 1000 < PD.counted 8 t then some [] else none := by
      unfold PD.partErr
      rw [hw]
    rw [hw] at st
    refine q_when st (b := decide ((60 : Int) < manyD false 8 t) || decide ((1000 : Int) < manyD true 8 t)) (et_is (et_and (a := true) (et_test (ev_isNone (d := encW none) (ev_var (i := 1) rfl) ev_non rfl)) fun _ => et_or (et_test (ev_op (ev_call (ea_cons (ev_var rfl) (ea_cons ev_bl ea_nil)) ⟨t, false, ho, rfl, rfl⟩) ev_int rd_B0)) fun _ => et_test (ev_op (ev_call (ea_cons (ev_var rfl) (ea_cons ev_bl ea_nil)) ⟨t, true, ho, rfl, rfl⟩) ev_int rd_B0)) (Bool.true_and _)) (fun h2 B2 H2 x2 st => ?_) (fun h2 B2 H2 x2 st => ?_)
    · have hb : 60 < PD.npart 8 t ∨ 1000 < PD.counted 8 t := by
        rw [Bool.or_eq_true, decide_eq_true_eq, decide_eq_true_eq] at h2
        rcases h2 with h2 | h2
        · exact .inl (by have h3 : (60 : Int) < (PD.npart 8 t : Int) := h2; omega)
        · exact .inr h2
      rw [ep, if_pos hb] at q
      exact s_ret st (ev_tup ea_nil (by simp)) fun v B3 H3 x3 w3 d3 => q v B3 H3 ((x1.trans x2).trans x3) w3 d3
    · have hb : ¬ (60 < PD.npart 8 t ∨ 1000 < PD.counted 8 t) := by
        rw [Bool.or_eq_false_iff, decide_eq_false_iff_not, decide_eq_false_iff_not] at h2
        rintro (z | z)
        · exact h2.1 (show (60 : Int) < (PD.npart 8 t : Int) by omega)
        · exact h2.2 z
      rw [ep, if_neg hb] at q
      exact s_ret st (ev_var rfl) fun v B3 H3 x3 w3 d3 => q v B3 H3 ((x1.trans x2).trans x3) w3 d3
end
end Toy

set_option Elab.async false
set_option linter.all false
set_option maxRecDepth 100000
set_option maxHeartbeats 4000000
namespace Toy
open PySem PySem.Spec PyProof.Rows L2 StX DL PT

theorem slots_upd {K : PySem.W.Frag} {B : Hp} {g g' : SD} (h : ∀ s, SlotOk K B s g → SlotOk K B s g') : ∀ {σ : L2.St} {G : List SD} {i : Nat}, Slots K B σ G → G[i]? = some g → Slots K B σ (G.set i g')
  | [], [], _, _, e => by simp at e
  | s :: _, x :: _, 0, q, e => by
    simp at e
    subst e
    exact ⟨h s q.1, q.2⟩
  | _ :: _, _ :: _, i + 1, q, e => by
    simp at e
    exact ⟨q.1, slots_upd h q.2 e⟩
  | [], _ :: _, _, q, _ => q.elim
  | _ :: _, [], _, q, _ => q.elim
theorem Sta.give {K : PySem.W.Frag} {B O0 : Hp} {G : List SD} {σ : L2.St} {H : Hp} {l : Addr} {vs : List V} {ds : List PyData} {i : Nat} (s : Sta K B (upd O0 l (.lst vs)) G σ H) (hg : G[i]? = some (.val (.ref l))) (hn : O0 l = none) (hv : DtAll K B vs ds) :
    Ex B (upd B l (.lst vs)) ∧ Sta K (upd B l (.lst vs)) O0 (G.set i (.dat (.list ds))) σ H := by
  have hb := s.w.bnone upd_same
  refine ⟨Ex.new hb, s.w.give hn, slots_upd (g := .val (.ref l)) (g' := .dat (.list ds)) (fun s' (e : s' = some (.ref l)) => ⟨.ref l, e, .lst upd_same (dps_ex (Ex.new hb) _ _ hv)⟩) (s.s.ex (Ex.new hb)) hg⟩


def head0 : PyData → PyData
  | .tuple (a :: _) => a
  | _ => .none
def optD (z : PyData × PyData) : PyData := .tuple [head0 z.1, z.2]
/-- t with other parts -/
def withD (t : PyData) (ks : List PyData) : PyData := match t with
  | .tuple (.str w :: fs) => if w = "row" then .tuple [.str "row", .tuple ks] else if w = "choice" then .tuple [.str "choice", fs.headD .none, .tuple (((PD.tupOf (fs.getD 1 .none)).zip ks).map optD)] else .tuple (.str w :: (fs.dropLast ++ ks))
  | d => d
def repD : List Int → PyData → PyData → PyData
  | [], _, o => o
  | i :: p, t, o => withD t ((PD.partsOf t).set i.toNat (repD p ((PD.partsOf t).getD i.toNat .none) o))
theorem opts_zip : ∀ {os ks : List PyData} {lo : Int}, PD.optsOk lo os = true → ks.length = os.length → PD.optsOk lo ((os.zip ks).map optD) = true ∧ ((os.zip ks).map optD).map PD.second = ks
  | [], [], _, _, _ => ⟨rfl, rfl⟩
  | o :: os, k :: ks, lo, h, hl => by
    obtain ⟨n, p, rfl⟩ := PD.opts_at h o (.head _)
    have h' : (PD.inFrom (.int n) lo (some 99) && PD.optsOk (PD.nextD (.int n)) os) = true := h
    rw [Bool.and_eq_true] at h'
    obtain ⟨i1, i2⟩ := opts_zip h'.2 (by simpa using hl)
    refine ⟨?_, ?_⟩
    · show (PD.inFrom (.int n) lo (some 99) && PD.optsOk (PD.nextD (.int n)) ((os.zip ks).map optD)) = true
      rw [h'.1, i1]
      rfl
    · show k :: ((os.zip ks).map optD).map PD.second = k :: ks
      rw [i2]
  | [], _ :: _, _, _, hl => by simp at hl
  | _ :: _, [], _, _, hl => by simp at hl
theorem with_spec {t : PyData} {ks : List PyData} (h : PD.Form t) (hl : ks.length = (PD.partsOf t).length) (h0 : 0 < ks.length) : PD.hasForm (withD t ks) = true ∧ PD.partsOf (withD t ks) = ks := by
  cases h with
  | row ps hp =>
    rw [PD.parts_row] at hl
    refine ⟨?_, PD.parts_row⟩
    show (true && decide (ks.length ≤ 12)) = true
    rw [decide_eq_true (by omega)]
    rfl
  | choice m os hp =>
    rw [PD.parts_choice, List.length_map] at hl
    obtain ⟨c1, c2, c3, c4⟩ := PD.choice_opts hp
    obtain ⟨o1, o2⟩ := opts_zip c4 hl
    have e : withD (.tuple [.str "choice", m, .tuple os]) ks = .tuple [.str "choice", m, .tuple ((os.zip ks).map optD)] := rfl
    rw [e]
    refine ⟨?_, by rw [PD.parts_choice]; exact o2⟩
    show (true && (PD.oneOf PD.MANNERS m && (decide (1 ≤ ((os.zip ks).map optD).length ∧ ((os.zip ks).map optD).length ≤ 6) && PD.optsOk 0 ((os.zip ks).map optD)))) = true
    rw [c1, o1, decide_eq_true (by rw [List.length_map, List.length_zip]; omega)]
    rfl
  | cell => rw [show (PD.partsOf _).length = 0 from rfl] at hl; omega
  | need => rw [show (PD.partsOf _).length = 0 from rfl] at hl; omega
  | pad => rw [show (PD.partsOf _).length = 0 from rfl] at hl; omega
  | times n x hp =>
    rw [PD.parts_one (by decide)] at hl
    match ks, hl with
    | [k], _ => exact ⟨by show (true && PD.inFrom n 0 (some 6)) = true; rw [hp]; rfl, PD.parts_one (fs := [n, k]) (by decide)⟩
  | counted m mo ah x hp =>
    rw [PD.parts_one (by decide)] at hl
    match ks, hl with
    | [k], _ => exact ⟨hp, PD.parts_one (fs := [m, mo, ah, k]) (by decide)⟩
  | within m mo l r x hp =>
    rw [PD.parts_one (by decide)] at hl
    match ks, hl with
    | [k], _ => exact ⟨hp, PD.parts_one (fs := [m, mo, l, r, k]) (by decide)⟩
  | fill x =>
    rw [PD.parts_one (by decide)] at hl
    match ks, hl with
    | [k], _ => exact ⟨rfl, PD.parts_one (fs := [k]) (by decide)⟩
  | left x =>
    rw [PD.parts_one (by decide)] at hl
    match ks, hl with
    | [k], _ => exact ⟨rfl, PD.parts_one (fs := [k]) (by decide)⟩
theorem sub_step {h : Nat} {t c : PyData} {i : Int} {p : List Int} (m : (i :: p, c) ∈ PD.subsD (h + 1) t) : ∃ k, 0 ≤ i ∧ (PD.partsOf t)[i.toNat]? = some k ∧ (p, c) ∈ PD.subsD h k := by
  rcases PD.mem_subs.mp m with e | ⟨j, k, r, hk, hr, e⟩
  · cases e
  · cases e
    exact ⟨k, by omega, by rw [Int.toNat_natCast]; exact hk, hr⟩
theorem sum_set {f : PyData → Nat} : ∀ {l : List PyData} {i : Nat} {k r : PyData}, l[i]? = some k → ((l.set i r).map f).sum + f k = (l.map f).sum + f r
  | [], _, _, _, e => by simp at e
  | x :: l, 0, k, r, e => by
    simp at e
    subst e
    simp
    omega
  | x :: l, i + 1, k, r, e => by
    have := sum_set (f := f) (r := r) (l := l) (i := i) (by simpa using e)
    show ((x :: l.set i r).map f).sum + f k = ((x :: l).map f).sum + f r
    rw [List.map_cons, List.map_cons, List.sum_cons, List.sum_cons]
    omega
theorem npart_mono : ∀ {h : Nat} {d : PyData}, PD.npart h d ≤ PD.npart (h + 1) d
  | 0, d => PD.npart_pos
  | h + 1, d => by
    show 1 + ((PD.partsOf d).map (PD.npart h)).sum ≤ 1 + ((PD.partsOf d).map (PD.npart (h + 1))).sum
    have key : ∀ l : List PyData, (l.map (PD.npart h)).sum ≤ (l.map (PD.npart (h + 1))).sum := fun l => by
      induction l with
      | nil => exact Nat.le_refl _
      | cons x l ih =>
        rw [List.map_cons, List.map_cons, List.sum_cons, List.sum_cons]
        have := npart_mono (h := h) (d := x)
        omega
    have := key (PD.partsOf d)
    omega
theorem npart_monoLe {h j : Nat} {d : PyData} (l : h ≤ j) : PD.npart h d ≤ PD.npart j d := by
  obtain ⟨k, rfl⟩ := Nat.exists_eq_add_of_le l
  induction k with
  | zero => exact Nat.le_refl _
  | succ k ih => exact Nat.le_trans (ih (by omega)) npart_mono
theorem npart_rep : ∀ {p : List Int} {h : Nat} {t c o : PyData}, PD.okB h t = true → (p, c) ∈ PD.subsD h t → PD.npart h (repD p t o) ≤ PD.npart h t + PD.npart h o
  | [], h, t, c, o, _, _ => Nat.le_add_left _ _
  | i :: p, 0, t, c, o, ho, _ => by cases ho
  | i :: p, h + 1, t, c, o, ho, m => by
    obtain ⟨k, hi, hk, hm⟩ := sub_step m
    obtain ⟨hf, hkids⟩ := PD.ok_succ ho
    have hkl : i.toNat < (PD.partsOf t).length := (List.getElem?_eq_some_iff.mp hk).1
    have ih := npart_rep (o := o) (hkids k (List.mem_of_getElem? hk)) hm
    have eg : (PD.partsOf t).getD i.toNat .none = k := by rw [List.getD_eq_getElem?_getD, hk]; rfl
    obtain ⟨_, e2⟩ := with_spec (ks := (PD.partsOf t).set i.toNat (repD p k o)) (PD.form_of hf) List.length_set (by rw [List.length_set]; omega)
    have e : PD.npart (h + 1) (repD (i :: p) t o) = 1 + (((PD.partsOf t).set i.toNat (repD p k o)).map (PD.npart h)).sum := by
      show 1 + ((PD.partsOf (withD t ((PD.partsOf t).set i.toNat (repD p ((PD.partsOf t).getD i.toNat .none) o)))).map (PD.npart h)).sum = _
      rw [eg, e2]
    have e3 : PD.npart (h + 1) t = 1 + ((PD.partsOf t).map (PD.npart h)).sum := rfl
    have e4 := sum_set (f := PD.npart h) (r := repD p k o) hk
    have e5 := npart_mono (h := h) (d := o)
    omega
theorem ok_mild : ∀ {h : Nat} {d : PyData}, PD.okB h d = true → ∀ {j : Nat}, j ≤ h → Mild j d
  | _, _, _, 0, _ => trivial
  | 0, _, o, j + 1, _ => by cases o
  | h + 1, d, o, j + 1, l => ⟨.inl (PD.ok_succ o).1, fun _ c hc => ok_mild ((PD.ok_succ o).2 c hc) (by omega)⟩
theorem mild_rep : ∀ {p : List Int} {h : Nat} {t c o : PyData}, PD.okB h t = true → (p, c) ∈ PD.subsD h t → (∀ j, Mild j o) → Mild h (repD p t o)
  | [], h, t, c, o, _, _, hm => hm h
  | i :: p, 0, t, c, o, ho, _, _ => by cases ho
  | i :: p, h + 1, t, c, o, ho, m, hm => by
    obtain ⟨k, hi, hk, hs⟩ := sub_step m
    obtain ⟨hf, hkids⟩ := PD.ok_succ ho
    have hkl : i.toNat < (PD.partsOf t).length := (List.getElem?_eq_some_iff.mp hk).1
    have eg : (PD.partsOf t).getD i.toNat .none = k := by rw [List.getD_eq_getElem?_getD, hk]; rfl
    obtain ⟨e1, e2⟩ := with_spec (ks := (PD.partsOf t).set i.toNat (repD p k o)) (PD.form_of hf) List.length_set (by rw [List.length_set]; omega)
    have ih := mild_rep (hkids k (List.mem_of_getElem? hk)) hs hm
    have e : repD (i :: p) t o = withD t ((PD.partsOf t).set i.toNat (repD p k o)) := by
      show withD t ((PD.partsOf t).set i.toNat (repD p ((PD.partsOf t).getD i.toNat .none) o)) = _
      rw [eg]
    rw [e]
    refine ⟨.inl e1, fun _ x hx => ?_⟩
    rw [e2] at hx
    rcases List.mem_or_eq_of_mem_set hx with hx | rfl
    · exact ok_mild (hkids x hx) (Nat.le_refl _)
    · exact ih
def R_rep (h : Nat) (ds : List PyData) (d : PyData) : Prop := ∃ t p o c, PD.okB h t = true ∧ (p, c) ∈ PD.subsD h t ∧ ds = [t, PD.encP p, o] ∧ d = repD p t o
def R_paths (h : Nat) (ds : List PyData) (d : PyData) : Prop := ∃ t, PD.okB h t = true ∧ PD.npart h t ≤ 50000 ∧ ds = [t] ∧ d = .list ((PD.subsD h t).map PD.encQ)
theorem zip_opt {os ks : List PyData} : (os.zip ks).map (fun z => PyData.tuple [z.1, z.2]) = (os.zip ks).map fun z => PyData.tuple [z.1, z.2] := rfl
section
variable {P : Program} {w : World} {K : PySem.W.Frag} {mg : Str → Option Value} {base : Heap} {AD : Ads}

theorem ok_law_changed {f fp : Addr} {fd fdp : FuncData} (T : Txt K mg AD) (a : At K mg "_law_changed" s_law_changed ["part", "path", "other"] f fd) (ap : At K mg "_law_children" s_law_children ["part"] fp fdp) : ∀ h, FnOk P w K mg base CX0 (h + 3) f fd ["part", "path", "other"] (SpR K (R_rep h))
  | 0 => SpR_false fun ds d ⟨t, _, _, _, o, _⟩ => by cases o
  | h + 1 => by
    have C_law_children := ap.cal (ok_law_children (P := P) (w := w) (base := base) T ap)
    have C_law_changed := a.cal (ok_law_changed T a ap h)
    refine ok_fn a.fn sc_law_changed (by rintro ds d ⟨t, p, o, c, _, _, rfl, _⟩; rfl) fun cdv A outer s H0 E hr ds d ⟨t, p, o, c, ho, hg, e1, e2⟩ => ?_
    subst e1 e2
    refine ⟨_, (pss_cons (ps_if (pt_cmpR (op_eqDK K hr.units) (pv 1) (pe_tup pa_nil) (nomark _)) (pss_one (ps_ret (pv 2))) pss_nil)
    (pss_cons (ps_set (i := 3) sc_law_changed.nd rfl (Or.inl rfl) (pe_cal C_law_children hr (by omega) (by rfl) (pa_cons (pv 0) pa_nil)))
    (pss_cons (ps_asg (pe_cal C_law_changed hr (by omega) (by rfl) (pa_cons (pe_ix (ix_listK K) (pv 3) (pe_ix (ix_tupK K) (pv 1) pe_int (fun _ _ => rfl)) (fun _ _ => rfl)) (pa_cons (pe_slice (sl_tupAK K) (pv 1) (po_some pe_int) po_none) (pa_cons (pv 2) pa_nil)))) (pg_sub (pv 3) (pe_ix (ix_tupK K) (pv 1) pe_int (fun _ _ => rfl)) set_list))
    (pss_cons (ps_if (pt_cmpR op_eq (pe_ix (ix_tupK K) (pv 0) pe_int (fun _ _ => rfl)) pe_str (nomark _)) (pss_one (ps_ret (pe_tup (pa_cons pe_str (pa_cons (pe_callTy (call_tupleK K) (by rfl) T.b_tuple (by decide +kernel) (pa_cons (pv 3) pa_nil)) pa_nil))))) pss_nil)
    (pss_cons (ps_if (pt_cmpR op_eq (pe_ix (ix_tupK K) (pv 0) pe_int (fun _ _ => rfl)) pe_str (nomark _)) (pss_one (ps_ret (pe_tup (pa_cons pe_str (pa_cons (pe_ix (ix_tupK K) (pv 0) pe_int (fun _ _ => rfl)) (pa_cons (pe_callTy (call_tupleK K) (by rfl) T.b_tuple (by decide +kernel) (pa_cons (pe_lc (own := [("option", 4), ("below", 5)]) (by rfl) sc_law_changed.nd (pi_zipM K (by rfl) T.b_zip (pa_cons (pe_ix (ix_tupK K) (pv 0) pe_int (fun _ _ => rfl)) (pa_cons (pv 3) pa_nil))) (blkOk_by (own := [("option", 4), ("below", 5)]) (N := N_sc_law_changed) (sc := defScope s_law_changed) (by decide +kernel)) (fun _ _ _ _ _ => (pg_tupK K (n := 2) (by rfl) (pgs_cons (pg_name (i := 4) sc_law_changed.nd rfl (Or.inl rfl)) (pgs_cons (pg_name (i := 5) sc_law_changed.nd rfl (Or.inl rfl)) pgs_nil)))) (fun _ _ _ _ _ => pts_nil) (fun _ _ _ _ _ => (pe_tup (pa_cons (pe_ix (ix_tupK K) (pv 4) pe_int (fun _ _ => rfl)) (pa_cons (pv 5) pa_nil))))) pa_nil)) pa_nil)))))) pss_nil)
    (pss_one (ps_ret (pe_op (op_catAK K) (pe_slice (sl_tupAK K) (pv 0) po_none (po_some (pe_un un_neg pe_int))) (pe_tup (pa_cons (pe_ix (ix_listK K) (pv 3) pe_int (fun _ _ => rfl)) pa_nil)))))))))), fun B O σ H Q st q => ?_⟩
    refine q_when st (et_test (ev_op (ev_var (d := .tuple (p.map .int)) rfl) (ev_tup ea_nil (by simp)) (rd_eq G.sh_intsT (G.sh_intsT (ns := [])) G.eqv_nilT))) (fun h1 B1 H1 x1 st => ?_) (fun h1 B1 H1 x1 st => ?_)
    · have : p = [] := List.isEmpty_iff.mp h1
      subst this
      refine s_ret st (ev_var rfl) fun v B2 H2 x2 w2 d2 => ?_
      exact q v B2 H2 (x1.trans x2) w2 d2
    obtain ⟨i, p, rfl⟩ : ∃ i p', p = i :: p' := by
      cases p with
      | nil => simp at h1
      | cons i p => exact ⟨i, p, rfl⟩
    obtain ⟨k, hi, hk, hs⟩ := sub_step hg
    obtain ⟨hf, hkids⟩ := PD.ok_succ ho
    have fm := PD.form_of hf
    have hkm : k ∈ PD.partsOf t := List.mem_of_getElem? hk
    have hkl : i.toNat < (PD.partsOf t).length := (List.getElem?_eq_some_iff.mp hk).1
    have hk6 := fm.kids
    have eg : (PD.partsOf t).getD i.toNat .none = k := by rw [List.getD_eq_getElem?_getD, hk]; rfl
    have e : repD (i :: p) t o = withD t ((PD.partsOf t).set i.toNat (repD p k o)) := by
      show withD t ((PD.partsOf t).set i.toNat (repD p ((PD.partsOf t).getD i.toNat .none) o)) = _
      rw [eg]
    rw [e] at q
    refine q_asgL st (el_call (ea_cons (ev_var rfl) ea_nil) ⟨t, hf, rfl, rfl⟩) fun l vs B2 H2 x2 nl dv st => ?_
    have hvl := dps_len dv
    have hpi : ∀ {B' O' : Hp} {g3 g4 g5 : SD}, EvD K B' O' [.dat t, .dat (PD.encP (i :: p)), .dat o, g3, g4, g5] (tOp (rIxT K) (tVar 1) (tC (.int 0))) (.int i) := fun {B' O' g3 g4 g5} =>
      ev_op (ev_var (d := .tuple (.int i :: p.map .int)) rfl) ev_int (rd_ixT at0)
    refine q_setO st rfl upd_same (ev_call (ea_cons (ev_ixO rfl upd_same dv hpi (at_nn (x := k) hi hk))
      (ea_cons (ev_is (ev_slT (ev_var (d := .tuple (.int i :: p.map .int)) rfl) (eo_some ev_int) eo_none) (congrArg PyData.tuple cut_tail)) (ea_cons (ev_var rfl) ea_nil))) ⟨k, p, o, c, hkids k hkm, hs, rfl, rfl⟩) hpi (ix_nn hi (by omega)) fun v3 B3 H3 x3 d3 st => ?_
    rw [upd_upd] at st
    have dv3 : DtAll K B3 (vs.set i.toNat v3) ((PD.partsOf t).set i.toNat (repD p k o)) := dps_set _ (dps_ex x3 _ _ dv) d3
    obtain ⟨x4, st⟩ := Sta.give (i := 3) st rfl nl dv3
    have hsl : ((PD.partsOf t).set i.toNat (repD p k o)).length = (PD.partsOf t).length := List.length_set
    generalize (PD.partsOf t).set i.toNat (repD p k o) = ks at dv3 st q hsl e
    obtain ⟨wd, fs, rfl⟩ := fm.head
    refine q_when st (et_test (ev_op (ev_op (ev_var rfl) ev_int (rd_ixT at0)) ev_str rd_eqStr)) (fun h2 B5 H5 x5 st => ?_) (fun h2 B5 H5 x5 st => ?_)
    · have ew := eq_of_beq h2
      subst ew
      refine s_ret st (ev_tup (ea_cons ev_str (ea_cons (ev_cb (ea_cons (ev_var rfl) ea_nil) rc_tupL) ea_nil)) (by simp)) fun v B6 H6 x6 w6 d6 => ?_
      exact q v B6 H6 (((((x1.trans x2).trans x3).trans x4).trans x5).trans x6) w6 d6
    have n2 : ¬ wd = "row" := fun e => by subst e; exact absurd h2 (by decide)
    refine q_when st (et_test (ev_op (ev_op (ev_var rfl) ev_int (rd_ixT at0)) ev_str rd_eqStr)) (fun h3 B6 H6 x6 st => ?_) (fun h3 B6 H6 x6 st => ?_)
    · obtain ⟨m, os, rfl, hc⟩ := fm.choice_of h3
      have ew := eq_of_beq h3
      subst ew
      have ops := PD.choice_opts hc
      have hl' : os.length = ks.length := by rw [hsl, PD.parts_choice, List.length_map]
      refine s_ret st (ev_tup (ea_cons ev_str (ea_cons (ev_op (ev_var rfl) ev_int (rd_ixT at1)) (ea_cons (ev_cb (ea_cons (ev_map (os.zip ks) (fun z => PyData.tuple [z.1, z.2]) optD
        (fun z => [.dat (.tuple [.str "choice", m, .tuple os]), .dat (PD.encP (i :: p)), .dat o, .dat (.list ks), .dat z.1, .dat z.2]) (ei_zipM (ea_cons (ev_op (ev_var rfl) ev_int (rd_ixT at2)) (ea_cons (ev_var rfl) ea_nil)) hl')
        (by rw [List.length_zip]; omega) (fun z _ => eg_pairW (by decide) (by decide)) (fun z hz => ?_)) ea_nil) rc_tupL) ea_nil))) (by simp)) fun v B7 H7 x7 w7 d7 => ?_
      · obtain ⟨n, y, ez⟩ := PD.opts_at ops.2.2.2 z.1 (List.of_mem_zip hz).1
        exact ev_is (ev_tup (ea_cons (ev_op (ev_is (ev_var rfl) ez) ev_int (rd_ixT at0)) (ea_cons (ev_var rfl) ea_nil)) (by simp)) (show PyData.tuple [.int n, z.2] = optD z by unfold optD; rw [ez]; rfl)
      · exact q v B7 H7 ((((((x1.trans x2).trans x3).trans x4).trans x5).trans x6).trans x7) w7 d7
    have n3 : ¬ wd = "choice" := fun e => by subst e; exact absurd h3 (by decide)
    have n4 : ¬ (wd = "cell" ∨ wd = "need" ∨ wd = "pad") := fun e => by
      rw [leaf_parts e] at hkl
      exact absurd hkl (by simp)
    obtain ⟨gs, x, rfl, hp, hgl⟩ := fm.one_of (holder_of fm n2 n3 n4)
    obtain ⟨k', rfl⟩ : ∃ k', ks = [k'] := by
      rw [hp] at hsl
      match ks, hsl with
      | [k'], _ => exact ⟨k', rfl⟩
    have hcut : cutX (.str wd :: (gs ++ [x])) none (some (-1)) = .str wd :: gs := cut_init (xs := .str wd :: gs) (x := x)
    refine s_ret st (ev_op (ev_is (ev_slT (ev_var rfl) eo_none (eo_some (ev_un ev_int))) (congrArg PyData.tuple hcut)) (ev_tup (ea_cons (ev_op (ev_var rfl) ev_int (rd_ixL at0)) ea_nil) (by simp)) (rd_catT (by simp; omega))) fun v B7 H7 x7 w7 d7 => ?_
    have ew : withD (.tuple (.str wd :: (gs ++ [x]))) [k'] = .tuple (.str wd :: gs ++ [k']) := by
      show (if wd = "row" then _ else if wd = "choice" then _ else PyData.tuple (.str wd :: ((gs ++ [x]).dropLast ++ [k']))) = _
      rw [if_neg n2, if_neg n3, List.dropLast_concat]
      rfl
    rw [ew] at q
    exact q v B7 H7 ((((((x1.trans x2).trans x3).trans x4).trans x5).trans x6).trans x7) w7 d7
theorem ok_law_paths {f fp : Addr} {fd fdp : FuncData} (T : Txt K mg AD) (a : At K mg "_law_paths" s_law_paths ["part"] f fd) (ap : At K mg "_law_children" s_law_children ["part"] fp fdp) : ∀ h, h ≤ 20 → FnOk P w K mg base CX0 (h + 3) f fd ["part"] (SpR K (R_paths h))
  | 0, _ => SpR_false fun ds d ⟨t, o, _⟩ => by cases o
  | h + 1, hh => by
    have C_law_children := ap.cal (ok_law_children (P := P) (w := w) (base := base) T ap)
    have C_law_paths := a.cal (ok_law_paths T a ap h (by omega))
    refine ok_fn a.fn sc_law_paths (by rintro ds d ⟨t, _, _, rfl, _⟩; rfl) fun cdv A outer s H0 E hr ds d ⟨t, ho, hnp, e1, e2⟩ => ?_
    subst e1 e2
    refine ⟨_, (pss_cons (ps_set (i := 1) sc_law_paths.nd rfl (Or.inl rfl) (pe_lst (pa_cons (pe_tup (pa_cons (pe_tup pa_nil) (pa_cons (pv 0) pa_nil))) pa_nil)))
    (pss_cons (ps_set (i := 2) sc_law_paths.nd rfl (Or.inl rfl) (pe_cal C_law_children hr (by omega) (by rfl) (pa_cons (pv 0) pa_nil)))
    (pss_cons (ps_for PassesOwn.never rfl (pi_range1 (by rfl) T.b_range (pa_cons (pe_callB (call_lenK K) (by rfl) T.b_len PySem.boot_len (pa_cons (pv 2) pa_nil)) pa_nil)) (pg_name (i := 3) sc_law_paths.nd rfl (Or.inr rfl)) (pss_one (ps_set (i := 1) sc_law_paths.nd rfl (Or.inl rfl) (pe_op op_cat (pv 1) (pe_lc (own := [("path", 4), ("below", 5)]) (by rfl) sc_law_paths.nd (pi_listK K (pe_cal C_law_paths hr (by omega) (by rfl) (pa_cons (pe_ix (ix_listK K) (pv 2) (pv 3) (fun _ _ => rfl)) pa_nil))) (blkOk_by (own := [("path", 4), ("below", 5)]) (N := N_sc_law_paths) (sc := defScope s_law_paths) (by decide +kernel)) (fun _ _ _ _ _ => (pg_tupK K (n := 2) (by rfl) (pgs_cons (pg_name (i := 4) sc_law_paths.nd rfl (Or.inl rfl)) (pgs_cons (pg_name (i := 5) sc_law_paths.nd rfl (Or.inl rfl)) pgs_nil)))) (fun _ _ _ _ _ => pts_nil) (fun _ _ _ _ _ => (pe_tup (pa_cons (pe_op (op_catAK K) (pe_tup (pa_cons (pv 3) pa_nil)) (pv 4)) (pa_cons (pv 5) pa_nil)))))))))
    (pss_one (ps_ret (pv 1)))))), fun B O σ H Q st q => ?_⟩
    obtain ⟨hf, hkids⟩ := PD.ok_succ ho
    have hk := (PD.form_of hf).kids
    have hSl := PD.subs_len (h := h + 1) (d := t)
    refine q_asg st (ev_lst (ea_cons (ev_tup (ea_cons (ev_tup ea_nil (by simp)) (ea_cons (ev_var rfl) ea_nil)) (by simp)) ea_nil) (by simp)) fun v1 B1 H1 x1 d1 st => ?_
    refine q_asg st (el_call (ea_cons (ev_var rfl) ea_nil) ⟨t, hf, rfl, rfl⟩).d fun v2 B2 H2 x2 d2 st => ?_
    refine q_for st (ei_range1 (ea_cons (ev_cb (ea_cons (ev_var rfl) ea_nil) rc_lenL) ea_nil) (by omega))
      (fun i B' O' G' => O' = O ∧ ∃ g3, G' = [.dat t, .dat (.list ((PD.subsTo (PD.subsD h) t i).map PD.encQ)), .dat (.list (PD.partsOf t)), g3, .un, .un])
      (fun i B1 B2 O1 G1 e x => x) ⟨rfl, _, rfl⟩ ?_ ?_
    · rintro i e B3 O3 G3 σ3 H3 v hie x3 ⟨rfl, g3, rfl⟩ st dv N hN
      obtain ⟨hi, rfl⟩ := range_inv hie
      have hi' : i < (PD.partsOf t).length := by simpa using hi
      have hc : (PD.partsOf t)[i]? = some (PD.partsOf t)[i] := List.getElem?_eq_getElem hi'
      generalize (PD.partsOf t)[i] = c at hc
      have hcm : c ∈ PD.partsOf t := List.mem_of_getElem? hc
      refine eg_name B3 _ σ3 H3 v st dv _ fun σ4 st _ => ?_
      have hl1 := PD.subsTo_le (S := PD.subsD h) (d := t) (n := i) (by omega)
      have hl1' : (PD.subsTo (PD.subsD h) t (PD.partsOf t).length).length = PD.npart (h + 1) t := hSl
      have hl3 := PD.npart_kid (h := h) hcm
      have hl4 := PD.subs_len (h := h) (d := c)
      refine s_asg st (ev_op (ev_var rfl) (ev_map (PD.subsD h c) PD.encQ (fun q => PD.encQ ((i : Int) :: q.1, q.2)) (fun q => [.dat t, .dat (.list ((PD.subsTo (PD.subsD h) t i).map PD.encQ)), .dat (.list (PD.partsOf t)), .dat (.int (0 + (i : Int))), .dat (PD.encP q.1), .dat q.2])
        (ei_list (ev_call (ea_cons (ev_op (ev_var rfl) (ev_var rfl) (rd_ixL (at_nn (x := c) (by omega) (by rw [show ((0 : Int) + (i : Int)).toNat = i by omega]; exact hc)))) ea_nil) ⟨c, hkids c hcm, by omega, rfl, rfl⟩)) (by omega) (fun q _ => eg_pairW (by decide) (by decide)) (fun q hq => ?_))
        (rd_cat (by rw [List.length_map, List.length_map]; omega))) fun v5 B5 H5 x5 d5 st => ?_
      · refine ev_tup (ea_cons (ev_is (ev_op (ev_tup (ea_cons (ev_var rfl) ea_nil) (by simp)) (ev_var (d := .tuple (q.1.map .int)) rfl) (rd_catT (by
          have := subs_path (p := q.1) (c := q.2) hq
          simp
          omega))) ?_) (ea_cons (ev_var rfl) ea_nil)) (by simp)
        show PyData.tuple ([.int (0 + (i : Int))] ++ q.1.map .int) = PD.encP ((i : Int) :: q.1)
        rw [Int.zero_add]
        rfl
      · refine hN B5 _ _ _ _ x5 ⟨rfl, .dat (.int (0 + (i : Int))), ?_⟩ st
        rw [PD.subsTo_succ hc, List.map_append, List.map_map]
        rfl
    · rintro B3 O3 G3 σ3 H3 x3 ⟨rfl, g3, rfl⟩ st
      rw [rangeD_len, Int.toNat_natCast] at st
      refine s_ret st (ev_var rfl) fun v B4 H4 x4 w4 d4 => ?_
      exact q v B4 H4 (((x1.trans x2).trans x3).trans x4) w4 d4
end
end Toy

set_option Elab.async false
set_option linter.all false
set_option maxRecDepth 100000
set_option maxHeartbeats 4000000
/-! tuple * int for 0, 1 and more. -/
namespace L2
open PySem PySem.Spec PyProof.Rows
theorem tuple_mul1 (l : Addr) (items : Array Value) (n : Nat) (dd : Option Addr) (sl : Array (Option Value)) (u : Tok) :
    Meets (Builtin.«tuple.__mul__» ⟨[.ref l, .int 1 u], []⟩) (fun _ R s => s.heap.get? l = some { cls := .type "tuple", dict := dd, data := .seq items n, slots := sl } ∧ R (.ok (.ret (Value.ref l))) s) :=
  .of_wp fun prog w A R s h => by
    obtain ⟨hp, g, d, tk, os⟩ := s
    obtain ⟨hl, h⟩ := h
    have f1 := AutoSeq1.idx_int
    have c1 : (items.isEmpty || (1 : Int) == 1) = true := by rw [beq_self_eq_true, Bool.or_true]
    wp_walk using wpAny_loadPart' hl
    repeat (first
      | (refine wpAny_ite_false (by decide) ?_; wp_walk using wpAny_loadPart' hl)
      | (refine wpAny_ite_true (decide_eq_true (by rw [c1])) ?_; wp_walk using wpAny_loadPart' hl))
    exact ⟨_, rfl, h⟩
theorem tuple_mul0 (l : Addr) (items : Array Value) (n : Nat) (dd : Option Addr) (sl : Array (Option Value)) (u : Tok) (hi : items.isEmpty = false) :
    Meets (Builtin.«tuple.__mul__» ⟨[.ref l, .int 0 u], []⟩) (fun _ R s => s.heap.get? l = some { cls := .type "tuple", dict := dd, data := .seq items n, slots := sl } ∧
      R (.ok (.ret (Value.ref s.heap.objs.size))) { s with heap := s.heap.push { cls := Value.type "tuple", data := Data.seq #[] }, toks := s.toks }) :=
  .of_wp fun prog w A R s h => by
    obtain ⟨hp, g, d, tk, os⟩ := s
    obtain ⟨hl, h⟩ := h
    have f1 := AutoSeq1.idx_int
    have c1 : (items.isEmpty || (0 : Int) == 1) = false := by rw [hi]; rfl
    wp_walk using wpAny_loadPart' hl
    repeat (first
      | (refine wpAny_ite_false (by decide) ?_; wp_walk using wpAny_loadPart' hl)
      | (refine wpAny_ite_false (decide_eq_false (by rw [c1]; exact Bool.false_ne_true)) ?_; wp_walk using wpAny_loadPart' hl)
      | (refine wpAny_ite_true (decide_eq_true (by simp)) ?_; wp_walk using wpAny_loadPart' hl))
    exact ⟨_, rfl, h⟩
def rRepTA (K : PySem.W.Frag) : R2 := fun x y H Q => ∃ l k xs, x = .ref l ∧ y = .int k ∧ SqT K H l xs ∧ xs ≠ [] ∧ 0 ≤ k ∧ k ≤ 1000 ∧ xs.length ≤ 1000 ∧ (k = 1 → Q (.ref l) H) ∧ (k ≠ 1 → ∀ p, H p = none → Q (.ref p) (upd H p (.tup (List.replicate k.toNat xs).flatten)))
theorem op_repTA (K : PySem.W.Frag) {X : Cx} (hK : X.K = K := by rfl) : OpR X (binaryOp .Mult) (rRepTA K) := by
  subst hK
  intro pins s σ H x y v u Q I rx ry h
  obtain ⟨l, k, xs, rfl, rfl, hT, hne, h1, h2, hz, q1, q2⟩ := h
  by_cases hk2 : 2 ≤ k
  · exact op_repT pins s σ H _ _ v u Q I rx ry ⟨l, k, xs, rfl, rfl, hT, hne, hk2, h2, hz, q2 (by omega)⟩
  cases rx
  obtain ⟨t, rfl⟩ := ry
  obtain ⟨its, r, ⟨⟨cls, dd, data, sl⟩, ho, hc, n, hd⟩, hs⟩ := I.tuple hT
  simp only at hc hd
  subst hc hd
  by_cases hk1 : k = 1
  · subst hk1
    exact wpAny_binaryOp_repeat_ref (T := "tuple") (U := "int") (by decide) ⟨_, ho, rfl⟩ (fun s' => typeIs_int s' 1 t) noFill_tuple_mul F.fills_int_mul F.slot_int_rmul repeat_tuple F.slot_int_index.lookup
      (call_meets F.slot_int_rmul (typeIs_int s 1 t) F.entry_int_rmul (F.args_int_rmul_2 _ _) (int_rmul_tuple 1 t l its.toArray n dd sl)
        ⟨ho, rfl, ⟨_, ho, rfl⟩, call_meets F.slot_tuple_mul ⟨_, ho, rfl⟩ F.entry_tuple_mul (F.args_tuple_mul_2 _ _) (tuple_mul1 l its.toArray n dd sl t) ⟨ho, ⟨.ref l, H, I, rfl, q1 rfl⟩⟩⟩)
  · obtain rfl : k = 0 := by omega
    have hi : its.toArray.isEmpty = false := by
      cases its with
      | nil => exact absurd (List.eq_nil_of_length_eq_zero r.length) hne
      | cons => rfl
    exact wpAny_binaryOp_repeat_ref (T := "tuple") (U := "int") (by decide) ⟨_, ho, rfl⟩ (fun s' => typeIs_int s' 0 t) noFill_tuple_mul F.fills_int_mul F.slot_int_rmul repeat_tuple F.slot_int_index.lookup
      (call_meets F.slot_int_rmul (typeIs_int s 0 t) F.entry_int_rmul (F.args_int_rmul_2 _ _) (int_rmul_tuple 0 t l its.toArray n dd sl)
        ⟨ho, rfl, ⟨_, ho, rfl⟩, call_meets F.slot_tuple_mul ⟨_, ho, rfl⟩ F.entry_tuple_mul (F.args_tuple_mul_2 _ _) (tuple_mul0 l its.toArray n dd sl t hi) ⟨ho,
          ⟨.ref s.heap.objs.size, _, I.laid (t' := s.toks) (o := .tup []) (fun b ob q => Heap.get?_push_of_some _ q) (Nat.le_refl _) ⟨by rw [sizeLine_eq]; decide, [], .nil, IsTup.new _ _⟩, rfl, q2 (by decide) _ (I.hok.fresh (Nat.le_refl _))⟩⟩⟩)
end L2
namespace DL
open PySem PySem.Spec PyProof.Rows L2 StX
theorem rd_repTA {K : PySem.W.Frag} {ds : List PyData} {k : Int} (h0 : ds ≠ []) (h1 : 0 ≤ k ∧ k ≤ 1000) (h2 : ds.length ≤ 1000) : RD K (rRepTA K) (.tuple ds) (.int k) (.tuple (List.replicate k.toNat ds).flatten) := fun B1 O1 H v w hw hv hx Q q => by
  obtain ⟨a, xs, rfl, h3, h4⟩ := dp_tup hv
  rw [dp_int hx]
  refine ⟨a, k, xs, rfl, rfl, st_ex hw.b h3, fun e => ?_, h1.1, h1.2, by rw [dps_len h4]; exact h2, fun e => ?_, fun _ p hp => ?_⟩
  · have := dps_len h4
    rw [e] at this
    exact h0 (List.eq_nil_of_length_eq_zero this.symm)
  · subst e
    have e2 : (List.replicate (Int.toNat 1) ds).flatten = ds := by simp
    rw [e2] at q
    exact q _ B1 H (Ex.refl _) hw (.tup h3 h4)
  · have flat : ∀ n : Nat, DtAll K B1 (List.replicate n xs).flatten (List.replicate n ds).flatten := fun n => by
      induction n with
      | zero => exact .nil
      | succ n ih =>
        rw [List.replicate_succ, List.replicate_succ, List.flatten_cons, List.flatten_cons]
        exact dps_app h4 ih
    exact q _ (upd B1 p (.tup (List.replicate k.toNat xs).flatten)) _ (Ex.new (hw.fb hp)) (hw.newB hp) (.tup (.inl (.inl upd_same)) (dps_ex (Ex.new (hw.fb hp)) _ _ (flat _)))
theorem ev_dict0 {K : PySem.W.Frag} {B O : Hp} {G : List SD} : EvD K B O G tDNewK (.dict []) := fun B1 O1 σ H e o s Q q p hp => q _ _ _ (Ex.new (s.w.fb hp)) (s.w.newB hp) (.dct upd_same)
end DL

set_option Elab.async false
set_option linter.all false
set_option maxRecDepth 100000
set_option maxHeartbeats 4000000
namespace Toy
open PySem PySem.Spec PyProof.Rows L2 StX DL PT


/-! pure: what a bent part is like -/
theorem lay_of_sh {n : Nat} {x : PyData} (h : SeqAt.shaped x = true) (hd : x.depth ≤ n) : Lay n x := ⟨SeqAt.canLay_of_shaped h, hd⟩
theorem lay_none {n : Nat} : Lay n .none := lay_good PT.good_none
theorem lay_one {n : Nat} {ws : List Str} {x : PyData} (hw : ∀ y, y ∈ ws → PyData.strOk y = true) (h : PD.oneOf ws x = true) : Lay n x := by
  cases x with
  | str y =>
    have h' : ws.any (y == ·) = true := h
    obtain ⟨z, hz, e⟩ := List.any_eq_true.mp h'
    have e' : y = z := eq_of_beq e
    subst e'
    exact lay_good (PT.good_str (hw y hz))
  | _ => cases h
theorem lay_from {n : Nat} {x : PyData} {lo : Int} {hi : Option Int} (h : PD.inFrom x lo hi = true) : Lay n x := by
  obtain ⟨z, rfl, _, _⟩ := PD.from_int h
  exact lay_int
theorem lay_orn {n : Nat} {x : PyData} {lo : Int} {hi : Option Int} (h : PD.orNone x lo hi = true) : Lay n x := by
  cases x with
  | none => exact lay_none
  | int i => exact lay_int
  | _ => cases h
theorem lay_word {n : Nat} {w : Str} (h : PyData.strOk w = true) : Lay n (.str w) := lay_good (PT.good_str h)
theorem lay_form {n : Nat} {d : PyData} (h : PD.Form d) (hk : ∀ c, c ∈ PD.partsOf d → Lay n c) : Lay (n + 3) d := by
  cases h with
  | cell lo hi m h =>
    have h' : (PD.inFrom lo 0 (some 1000000) && (PD.orNone hi (PD.intOf lo) (some 1000000) && PD.oneOf PD.MANNERS m)) = true := h
    simp only [Bool.and_eq_true] at h'
    refine lay_tup fun d hd => ?_
    simp at hd
    rcases hd with rfl | rfl | rfl | rfl
    · exact lay_word (by decide +kernel)
    · exact lay_from h'.1
    · exact lay_orn h'.2.1
    · exact lay_one ok_man h'.2.2
  | row ps h =>
    rw [PD.parts_row] at hk
    refine lay_tup fun d hd => ?_
    simp at hd
    rcases hd with rfl | rfl
    · exact lay_word (by decide +kernel)
    · exact (lay_tup hk).mono (by omega)
  | choice m os h =>
    obtain ⟨c1, _, _, c4⟩ := PD.choice_opts h
    rw [PD.parts_choice] at hk
    refine lay_tup fun d hd => ?_
    simp at hd
    rcases hd with rfl | rfl | rfl
    · exact lay_word (by decide +kernel)
    · exact lay_one ok_man c1
    · refine lay_tup fun o ho => ?_
      obtain ⟨z, p, rfl⟩ := PD.opts_at c4 o ho
      refine lay_tup fun e he => ?_
      simp at he
      rcases he with rfl | rfl
      · exact lay_int
      · exact hk e (List.mem_map.mpr ⟨_, ho, rfl⟩)
  | times x y h =>
    rw [PD.parts_one (by decide)] at hk
    refine lay_tup fun d hd => ?_
    simp at hd
    rcases hd with rfl | rfl | rfl
    · exact lay_word (by decide +kernel)
    · exact lay_from h
    · exact (hk _ (by simp)).mono (by omega)
  | counted m mo ah x h =>
    have h' : (PD.oneOf PD.MANNERS m && (PD.orNone mo 0 (some 9) && PD.orNone ah 0 (some 9))) = true := h
    simp only [Bool.and_eq_true] at h'
    rw [PD.parts_one (by decide)] at hk
    refine lay_tup fun d hd => ?_
    simp at hd
    rcases hd with rfl | rfl | rfl | rfl | rfl
    · exact lay_word (by decide +kernel)
    · exact lay_one ok_man h'.1
    · exact lay_orn h'.2.1
    · exact lay_orn h'.2.2
    · exact (hk _ (by simp)).mono (by omega)
  | within m mo l r x h =>
    have h' : (PD.oneOf PD.MANNERS m && (PD.orNone mo 0 (some 20) && (PD.oneOf PD.LIMITS l && PD.oneOf PD.RESTS r))) = true := h
    simp only [Bool.and_eq_true] at h'
    rw [PD.parts_one (by decide)] at hk
    refine lay_tup fun d hd => ?_
    simp at hd
    rcases hd with rfl | rfl | rfl | rfl | rfl | rfl
    · exact lay_word (by decide +kernel)
    · exact lay_one ok_man h'.1
    · exact lay_orn h'.2.1
    · exact lay_one ok_lim h'.2.2.1
    · exact lay_one ok_res h'.2.2.2
    · exact (hk _ (by simp)).mono (by omega)
  | fill x =>
    rw [PD.parts_one (by decide)] at hk
    refine lay_tup fun d hd => ?_
    simp at hd
    rcases hd with rfl | rfl
    · exact lay_word (by decide +kernel)
    · exact (hk _ (by simp)).mono (by omega)
  | left x =>
    rw [PD.parts_one (by decide)] at hk
    refine lay_tup fun d hd => ?_
    simp at hd
    rcases hd with rfl | rfl
    · exact lay_word (by decide +kernel)
    · exact (hk _ (by simp)).mono (by omega)
  | need x h =>
    refine lay_tup fun d hd => ?_
    simp at hd
    rcases hd with rfl | rfl
    · exact lay_word (by decide +kernel)
    · exact lay_from h
  | pad x m h =>
    have h' : (PD.inFrom x 2 (some 6) && PD.oneOf PD.MANNERS m) = true := h
    simp only [Bool.and_eq_true] at h'
    refine lay_tup fun d hd => ?_
    simp at hd
    rcases hd with rfl | rfl | rfl
    · exact lay_word (by decide +kernel)
    · exact lay_from h'.1
    · exact lay_one ok_man h'.2
theorem okB_lay : ∀ {h : Nat} {d : PyData}, PD.okB h d = true → Lay (3 * h) d
  | 0, _, o => by cases o
  | h + 1, d, o => by
    obtain ⟨hf, hk⟩ := PD.ok_succ o
    have := lay_form (PD.form_of hf) fun c hc => okB_lay (hk c hc)
    exact this.mono (by omega)
theorem npart_flat {h : Nat} {d : PyData} (hd : PD.partsOf d = []) : PD.npart h d = 1 := by
  cases h with
  | zero => rfl
  | succ h =>
    show 1 + ((PD.partsOf d).map (PD.npart h)).sum = 1
    rw [hd]
    rfl
theorem npart_one {h : Nat} {d x : PyData} (hd : PD.partsOf d = [x]) : PD.npart (h + 1) d = 1 + PD.npart h x := by
  show 1 + ((PD.partsOf d).map (PD.npart h)).sum = _
  rw [hd]
  rfl
theorem parts_from {x : PyData} {lo : Int} {hi : Option Int} (h : PD.inFrom x lo hi = true) : PD.partsOf x = [] := by
  obtain ⟨z, rfl, _, _⟩ := PD.from_int h
  rfl
theorem parts_orn {x : PyData} {lo : Int} {hi : Option Int} (h : PD.orNone x lo hi = true) : PD.partsOf x = [] := by
  cases x with
  | none => rfl
  | int i => rfl
  | _ => cases h
theorem parts_oneOf {x : PyData} {ws : List Str} (h : PD.oneOf ws x = true) : PD.partsOf x = [] := by
  cases x with
  | str y => rfl
  | _ => cases h
/-- one field too few -/
theorem np_drop {xs : List PyData} {h : Nat} (hf : PD.Form (.tuple xs)) : PD.npart (h + 1) (.tuple xs.dropLast) ≤ 2 := by
  cases hf with
  | cell lo hi m h => rw [npart_flat (by rfl)]; omega
  | row ps h => rw [npart_flat (by rfl)]; omega
  | choice m os h => rw [npart_flat (by rfl)]; omega
  | times x y h => rw [npart_one (x := x) (by rfl), npart_flat (parts_from h)]; omega
  | counted m mo ah x h =>
    have h' : (PD.oneOf PD.MANNERS m && (PD.orNone mo 0 (some 9) && PD.orNone ah 0 (some 9))) = true := h
    simp only [Bool.and_eq_true] at h'
    rw [npart_one (x := ah) (by rfl), npart_flat (parts_orn h'.2.2)]; omega
  | within m mo l r x h =>
    have h' : (PD.oneOf PD.MANNERS m && (PD.orNone mo 0 (some 20) && (PD.oneOf PD.LIMITS l && PD.oneOf PD.RESTS r))) = true := h
    simp only [Bool.and_eq_true] at h'
    rw [npart_one (x := r) (by rfl), npart_flat (parts_oneOf h'.2.2.2)]; omega
  | fill x => rw [npart_one (x := .none) (by rfl), npart_flat rfl]; omega
  | left x => rw [npart_one (x := .none) (by rfl), npart_flat rfl]; omega
  | need x h => rw [npart_flat (by rfl)]; omega
  | pad x m h => rw [npart_flat (by rfl)]; omega
theorem np_row {ps : List PyData} {h : Nat} : PD.npart (h + 1) (.tuple [.str "row", .tuple ps]) = 1 + (ps.map (PD.npart h)).sum := by
  show 1 + ((PD.partsOf (.tuple [.str "row", .tuple ps])).map (PD.npart h)).sum = _
  rw [PD.parts_row]
/-- one field too many -/
theorem np_more {xs : List PyData} {y : PyData} {h : Nat} (hf : PD.Form (.tuple xs)) : PD.npart (h + 1) (.tuple (xs ++ [y])) ≤ PD.npart (h + 1) (.tuple xs) + PD.npart h y := by
  have p1 : 1 ≤ PD.npart (h + 1) (.tuple xs) := PD.npart_pos
  cases hf with
  | cell lo hi m h => rw [npart_flat (d := .tuple ([.str "cell", lo, hi, m] ++ [y])) (by rfl)]; omega
  | row ps hp => exact Nat.le_add_right_of_le (Nat.le_of_eq (by rfl))
  | choice m os hp => exact Nat.le_add_right_of_le (Nat.le_of_eq (by rfl))
  | times x z hp => rw [npart_one (d := .tuple ([.str "times", x, z] ++ [y])) (x := y) (by rfl)]; omega
  | counted m mo ah x hp => rw [npart_one (d := .tuple ([.str "counted", m, mo, ah, x] ++ [y])) (x := y) (by rfl)]; omega
  | within m mo l r x hp => rw [npart_one (d := .tuple ([.str "within", m, mo, l, r, x] ++ [y])) (x := y) (by rfl)]; omega
  | fill x => rw [npart_one (d := .tuple ([.str "fill", x] ++ [y])) (x := y) (by rfl)]; omega
  | left x => rw [npart_one (d := .tuple ([.str "if left", x] ++ [y])) (x := y) (by rfl)]; omega
  | need x hp => rw [npart_flat (d := .tuple ([.str "need", x] ++ [y])) (by rfl)]; omega
  | pad x m hp => rw [npart_flat (d := .tuple ([.str "pad", x, m] ++ [y])) (by rfl)]; omega
/-- the strange fields -/
def somes : List PyData := [.none, .bool true, .bool false, .int (-1), .int 0, .int 1, .int 7, .int 10, .int 21, .int 1000001, .str "bare", .str "Bare", .str "told", .str "skip", .tuple [], .list []]
def somes2 : List PyData := [.tuple [.tuple [.int 1, .tuple [.str "need", .int 1]], .tuple [.int 0, .tuple [.str "need", .int 1]]], .tuple [.tuple [.int 0, .tuple [.str "need", .int 1]], .tuple [.int 0, .tuple [.str "need", .int 1]]], .tuple [.tuple [.str "need", .int 0]]]
theorem somes_lay : ∀ s, s ∈ somes ++ somes2 → s.canLay0 = true ∧ s.depth ≤ 5 := by decide +kernel
theorem somes_np : ∀ s, s ∈ somes ++ somes2 → PD.npart 7 s ≤ 5 ∧ ((PD.tupOf s).map (PD.npart 7)).sum ≤ 5 ∧ (((PD.tupOf s).map PD.second).map (PD.npart 7)).sum ≤ 5 := by decide +kernel
theorem np_field {xs : List PyData} {s : PyData} {i : Nat} (hf : PD.Form (.tuple xs)) (h0 : 0 < i) (h1 : i < xs.length) (hs : s ∈ somes ++ somes2) : PD.npart 8 (.tuple (xs.set i s)) ≤ PD.npart 8 (.tuple xs) + 6 := by
  have p1 : 1 ≤ PD.npart 8 (.tuple xs) := PD.npart_pos
  obtain ⟨s1, s2, s3⟩ := somes_np s hs
  have one : ∀ {d x : PyData}, PD.partsOf d = [x] → PD.npart 8 d = 1 + PD.npart 7 x := fun h => npart_one h
  have flat : ∀ {d : PyData}, PD.partsOf d = [] → PD.npart 8 d = 1 := fun h => npart_flat h
  obtain ⟨j, rfl⟩ : ∃ j, i = j + 1 := ⟨i - 1, by omega⟩
  cases hf with
  | cell lo hi m h =>
    rw [flat (d := .tuple ((PyData.str "cell" :: [lo, hi, m]).set (j + 1) s)) (by rfl)]
    omega
  | row ps h =>
    obtain rfl : j = 0 := by simp at h1; omega
    show 1 + ((PD.tupOf s).map (PD.npart 7)).sum ≤ _
    omega
  | choice m os h =>
    have hj : j = 0 ∨ j = 1 := by simp at h1; omega
    rcases hj with rfl | rfl
    · exact Nat.le_add_right_of_le (Nat.le_of_eq (by rfl))
    · show 1 + (((PD.tupOf s).map PD.second).map (PD.npart 7)).sum ≤ _
      omega
  | times x z h =>
    have hj : j = 0 ∨ j = 1 := by simp at h1; omega
    rcases hj with rfl | rfl
    · exact Nat.le_add_right_of_le (Nat.le_of_eq (by rw [one (d := .tuple _) (x := z) (by rfl), one (x := z) (by rfl)]))
    · rw [one (d := .tuple (([PyData.str "times", x, z]).set 2 s)) (x := s) (by rfl)]
      omega
  | counted m mo ah x h =>
    have hj : j = 0 ∨ j = 1 ∨ j = 2 ∨ j = 3 := by simp at h1; omega
    rcases hj with rfl | rfl | rfl | rfl
    · exact Nat.le_add_right_of_le (Nat.le_of_eq (by rw [one (d := .tuple _) (x := x) (by rfl), one (x := x) (by rfl)]))
    · exact Nat.le_add_right_of_le (Nat.le_of_eq (by rw [one (d := .tuple _) (x := x) (by rfl), one (x := x) (by rfl)]))
    · exact Nat.le_add_right_of_le (Nat.le_of_eq (by rw [one (d := .tuple _) (x := x) (by rfl), one (x := x) (by rfl)]))
    · rw [one (d := .tuple (([PyData.str "counted", m, mo, ah, x]).set 4 s)) (x := s) (by rfl)]
      omega
  | within m mo l r x h =>
    have hj : j = 0 ∨ j = 1 ∨ j = 2 ∨ j = 3 ∨ j = 4 := by simp at h1; omega
    rcases hj with rfl | rfl | rfl | rfl | rfl
    · exact Nat.le_add_right_of_le (Nat.le_of_eq (by rw [one (d := .tuple _) (x := x) (by rfl), one (x := x) (by rfl)]))
    · exact Nat.le_add_right_of_le (Nat.le_of_eq (by rw [one (d := .tuple _) (x := x) (by rfl), one (x := x) (by rfl)]))
    · exact Nat.le_add_right_of_le (Nat.le_of_eq (by rw [one (d := .tuple _) (x := x) (by rfl), one (x := x) (by rfl)]))
    · exact Nat.le_add_right_of_le (Nat.le_of_eq (by rw [one (d := .tuple _) (x := x) (by rfl), one (x := x) (by rfl)]))
    · rw [one (d := .tuple (([PyData.str "within", m, mo, l, r, x]).set 5 s)) (x := s) (by rfl)]
      omega
  | fill x =>
    obtain rfl : j = 0 := by simp at h1; omega
    rw [one (d := .tuple (([PyData.str "fill", x]).set 1 s)) (x := s) (by rfl)]
    omega
  | left x =>
    obtain rfl : j = 0 := by simp at h1; omega
    rw [one (d := .tuple (([PyData.str "if left", x]).set 1 s)) (x := s) (by rfl)]
    omega
  | need x h =>
    rw [flat (d := .tuple ((PyData.str "need" :: [x]).set (j + 1) s)) (by rfl)]
    omega
  | pad x m h =>
    rw [flat (d := .tuple ((PyData.str "pad" :: [x, m]).set (j + 1) s)) (by rfl)]
    omega
def Nice (d : PyData) : Prop := (Lay 60 d ∨ d = .dict []) ∧ PD.npart 8 d ≤ 40000
theorem mild_dict : ∀ j, Mild j (.dict [])
  | 0 => trivial
  | j + 1 => ⟨.inr fun xs e => (nomatch e), fun h => (nomatch h)⟩
theorem Nice.mild {d : PyData} (h : Nice d) : ∀ j, Mild j d := fun j => by
  rcases h.1 with h | rfl
  · exact lay_mild (by decide) h
  · exact mild_dict j
theorem cut_from {xs : List PyData} {r : Nat} (h : r ≤ xs.length) : cutX xs (some (r : Int)) none = xs.drop r := by
  unfold cutX
  rw [HT.sIx_none, HT.sIx_nat, Nat.min_eq_left h]
  exact List.take_of_length_le (by rw [List.length_drop]; omega)
theorem cut_last {xs : List PyData} (h : xs ≠ []) : cutX xs none (some (-1)) = xs.dropLast := by
  have e := List.dropLast_concat_getLast h
  calc cutX xs none (some (-1)) = cutX (xs.dropLast ++ [xs.getLast h]) none (some (-1)) := by rw [e]
    _ = xs.dropLast := cut_init
theorem set_cut {xs : List PyData} {s : PyData} {i : Nat} (h : i < xs.length) : xs.take i ++ [s] ++ xs.drop (i + 1) = xs.set i s := by
  rw [List.set_eq_take_append_cons_drop, if_pos h, List.append_assoc]
  rfl
theorem lay_set {n : Nat} {xs : List PyData} {s : PyData} {i : Nat} (h : Lay n (.tuple xs)) (hs : Lay n s) : Lay (n + 1) (.tuple (xs.set i s)) := lay_tup fun d hd => by
  rcases List.mem_or_eq_of_mem_set hd with hd | rfl
  · exact lay_mem h d hd
  · exact hs

end Toy

set_option Elab.async false
set_option linter.all false
set_option maxRecDepth 100000
set_option maxHeartbeats 4000000
namespace Toy
open PySem PySem.Spec PyProof.Rows L2 StX DL PT G


section
variable {K : PySem.W.Frag} {B B' O : Hp} {G : List SD} {te ta tb tc : TE} {t : TA} {i : Nat} {p : Addr} {n : Int} {E : XK} {σ : L2.St} {H : Hp} {x y : PyData}
theorem ex_tup2 {R : PyData → Hp → Prop} (h1 : EvD K B O G ta x) (h2 : EvX K B O G tb R) : EvX K B O G (tTup (tCons ta (tCons tb tNil))) (fun d O' => ∃ y, d = .tuple [x, y] ∧ R y O') := fun B1 σ H e s Q q =>
  h1 B1 O σ H e (Ex.refl _) s _ fun v B2 H2 e2 w2 d2 => h2 B2 σ H2 (e.trans e2) (s.ex e2 w2) _ fun u y B3 O3 H3 e3 r w3 d3 => ⟨by show 2 ≤ sizeLine; decide, fun p hp => by
    have xn : Ex B3 (upd B3 p (.tup [v, u])) := Ex.new (w3.fb hp)
    exact q _ _ _ O3 _ ((e2.trans e3).trans xn) ⟨y, rfl, r⟩ (w3.newB hp) (.tup (.inl (.inl upd_same)) (.cons (dp_ex (e3.trans xn) _ _ d2) (.cons (dp_ex xn _ _ d3) .nil)))⟩
theorem ex_tup3 {R : PyData → Hp → Prop} (h1 : EvD K B O G ta x) (h2 : EvD K B O G tb y) (h3 : EvX K B O G tc R) : EvX K B O G (tTup (tCons ta (tCons tb (tCons tc tNil)))) (fun d O' => ∃ z, d = .tuple [x, y, z] ∧ R z O') := fun B1 σ H e s Q q =>
  h1 B1 O σ H e (Ex.refl _) s _ fun v B2 H2 e2 w2 d2 => h2 B2 O σ H2 (e.trans e2) (Ex.refl _) (s.ex e2 w2) _ fun u B3 H3 e3 w3 d3 => h3 B3 σ H3 ((e.trans e2).trans e3) (s.ex (e2.trans e3) w3) _ fun w z B4 O4 H4 e4 r w4 d4 => ⟨by show 3 ≤ sizeLine; decide, fun p hp => by
    have xn : Ex B4 (upd B4 p (.tup [v, u, w])) := Ex.new (w4.fb hp)
    exact q _ _ _ O4 _ (((e2.trans e3).trans e4).trans xn) ⟨z, rfl, r⟩ (w4.newB hp) (.tup (.inl (.inl upd_same)) (.cons (dp_ex ((e3.trans e4).trans xn) _ _ d2) (.cons (dp_ex (e4.trans xn) _ _ d3) (.cons (dp_ex xn _ _ d4) .nil))))⟩
theorem ex_item {ds : List PyData} (h : EvD K B O G ta (.list ds)) (hl : (ds.length : Int) = n) (hg : G[i]? = some (.val (.ref p))) (hp : PoolAt O p) (h0 : 0 < n) (h1 : n < 1000000) :
    EvX K B O G (tOp (rIxL K) ta (tCall (SpX K PreDraw) [] E (tCons (tVar i) (tCons (tC (.int n)) tNil)))) (fun z O' => z ∈ ds ∧ Mv p O O') :=
  ex_op (ex_pure h) (R2' := fun _ O' d2 O'' => ∃ r, d2 = .int r ∧ 0 ≤ r ∧ r < n ∧ Mv p O' O'') (fun d1 B' O' _ e => by
    obtain ⟨_, rfl⟩ := e
    exact ex_draw hg hp h0 h1) fun d1 O' d2 O'' e1 e2 => by
    obtain ⟨rfl, rfl⟩ := e1
    obtain ⟨r, rfl, r0, r1, m⟩ := e2
    obtain ⟨z, hz, ha⟩ := at_some (ds := ds) r0 (by omega)
    exact ⟨z, rd_ixL ha, hz, m⟩
theorem ex_drawE {tn : TE} {p : Addr} {n : Int} {E : XK} (hg : G[i]? = some (.val (.ref p))) (hp : PoolAt O p) (hn : EvD K B O G tn (.int n)) (h0 : 0 < n) (h1 : n < 1000000) : EvX K B O G (tCall (SpX K PreDraw) [] E (tCons (tVar i) (tCons tn tNil))) (fun d O' => ∃ r, d = .int r ∧ 0 ≤ r ∧ r < n ∧ Mv p O O') :=
  ex_call (as_val (evV_var hg) (as_dat hn as_nil)) fun B' _ => ⟨p, n, rfl, hp, h0, h1, rfl⟩

theorem EvXs.ex {T : List PyData → Hp → Prop} (h : EvXs K B O G t T) (e : Ex B B') : EvXs K B' O G t T := fun B1 σ H e1 s Q q => h B1 σ H (e.trans e1) s Q q
theorem exs_cP {T : List PyData → Hp → Prop} (h : EvD K B O G ta x) (hr : EvXs K B O G t T) : EvXs K B O G (tCons ta t) (fun ds O' => ∃ ds', ds = x :: ds' ∧ T ds' O') :=
  exs_cons (S := fun _ _ ds O'' => T ds O'') (ex_pure h) (fun d B' O' e r => by
    obtain ⟨_, rfl⟩ := r
    exact EvXs.ex hr e) (fun d O' ds O'' r1 r2 => by
    obtain ⟨rfl, _⟩ := r1
    exact ⟨ds, rfl, r2⟩)
theorem exs_pA {ds : List PyData} (h : EvA K B O G t ds) : EvXs K B O G t (fun es O' => es = ds ∧ O' = O) := fun B1 σ H e s Q q => h B1 O σ H e (Ex.refl _) s Q fun vs B' H' e' w' d' => q vs ds B' O H' e' ⟨rfl, rfl⟩ w' d'
end
def odd0 (xs : List PyData) : List PyData := [.none, .int 5, .str "cell", .list [], .tuple [], .tuple [.str "cell"], .list xs, .tuple [.str "Cell", .int 0, .none, .str "bare"], .dict []]
theorem odd0_nice {xs : List PyData} {d : PyData} (h : Lay 24 (.tuple xs)) (hd : d ∈ odd0 xs) : Nice d := by
  have hd' : d = .none ∨ d = .int 5 ∨ d = .str "cell" ∨ d = .list [] ∨ d = .tuple [] ∨ d = .tuple [.str "cell"] ∨ d = .list xs ∨ d = .tuple [.str "Cell", .int 0, .none, .str "bare"] ∨ d = .dict [] := by
    unfold odd0 at hd
    simpa only [List.mem_cons, List.not_mem_nil, or_false] using hd
  have one : ∀ {e : PyData}, PD.partsOf e = [] → PD.npart 8 e ≤ 40000 := fun h => by
    rw [npart_flat h]
    decide
  rcases hd' with rfl | rfl | rfl | rfl | rfl | rfl | rfl | rfl | rfl
  · exact ⟨.inl lay_none, one rfl⟩
  · exact ⟨.inl lay_int, one rfl⟩
  · exact ⟨.inl (lay_word (by decide +kernel)), one rfl⟩
  · exact ⟨.inl ((lay_lst (n := 0) fun d hd => by cases hd).mono (by decide)), one rfl⟩
  · exact ⟨.inl ((lay_tup (n := 0) fun d hd => by cases hd).mono (by decide)), one rfl⟩
  · exact ⟨.inl ((lay_tup (n := 1) fun d hd => by simp at hd; subst hd; exact lay_word (by decide +kernel)).mono (by decide)), one rfl⟩
  · exact ⟨.inl ((lay_lst (n := 24) fun d hd => lay_mem h d hd).mono (by decide)), one rfl⟩
  · exact ⟨.inl ((lay_tup (n := 1) fun d hd => by
      simp at hd
      rcases hd with rfl | rfl | rfl | rfl
      · exact lay_word (by decide +kernel)
      · exact lay_int
      · exact lay_none
      · exact lay_word (by decide +kernel)).mono (by decide)), one rfl⟩
  · exact ⟨.inr rfl, one rfl⟩
def PreOdd (gs : List SD) (_ O : Hp) (R : PyData → Hp → Prop) : Prop := ∃ p t, gs = [.val (.ref p), .dat t] ∧ PoolAt O p ∧ PD.okB 8 t = true ∧ PD.npart 8 t ≤ 60 ∧ R = fun d O' => Nice d ∧ Mv p O O'
section
variable {P : Program} {w : World} {K : PySem.W.Frag} {mg : Str → Option Value} {base : Heap} {AD : Ads}

theorem ok_law_odd {f fr : Addr} {fd fdr : FuncData} (T : Txt K mg AD) (a : At K mg "_law_odd" s_law_odd ["pool", "part"] f fd) (ad : At K mg "_law_draw" s_law_draw ["pool", "count"] fr fdr) : FnOk P w K mg base CX0 4 f fd ["pool", "part"] (SpX K PreOdd) := by
  have C_law_draw := ad.cal (ok_law_draw (P := P) (w := w) (base := base) T ad)
  refine ok_fnX a.fn sc_law_odd (by rintro gs B O R ⟨p, t, rfl, _⟩; rfl) fun cdv A outer s H0 E hr => ?_
  refine ⟨_, (pss_cons (ps_set (i := 2) sc_law_odd.nd rfl (Or.inl rfl) (pe_cal C_law_draw hr (by omega) (by rfl) (pa_cons (pv 0) (pa_cons pe_int pa_nil))))
    (pss_cons (ps_if (pt_cmpR op_eq (pv 2) pe_int (nomark _)) (pss_one (ps_ret (pe_ix (ix_listK K) (pe_lst (pa_cons pe_non (pa_cons pe_int (pa_cons pe_str (pa_cons (pe_lst pa_nil) (pa_cons (pe_tup pa_nil) (pa_cons (pe_tup (pa_cons pe_str pa_nil)) (pa_cons (pe_callTy (call_listK K) (by rfl) T.b_list (by decide +kernel) (pa_cons (pv 1) pa_nil)) (pa_cons (pe_tup (pa_cons pe_str (pa_cons pe_int (pa_cons pe_non (pa_cons pe_str pa_nil))))) (pa_cons pe_dnewK pa_nil)))))))))) (pe_cal C_law_draw hr (by omega) (by rfl) (pa_cons (pv 0) (pa_cons pe_int pa_nil))) (fun _ _ => rfl)))) pss_nil)
    (pss_cons (ps_if (pt_cmpR op_eq (pv 2) pe_int (nomark _)) (pss_one (ps_ret (pe_op (op_catAK K) (pv 1) (pe_tup (pa_cons (pv 1) pa_nil))))) pss_nil)
    (pss_cons (ps_if (pt_cmpR op_eq (pv 2) pe_int (nomark _)) (pss_one (ps_ret (pe_slice (sl_tupAK K) (pv 1) po_none (po_some (pe_un un_neg pe_int))))) pss_nil)
    (pss_cons (ps_if (pt_cmpR op_eq (pv 2) pe_int (nomark _)) (pss_cons (ps_for PassesOwn.never rfl (pi_range1 (by rfl) T.b_range (pa_cons (pe_op op_add pe_int (pe_cal C_law_draw hr (by omega) (by rfl) (pa_cons (pv 0) (pa_cons pe_int pa_nil)))) pa_nil)) (pg_name (i := 3) sc_law_odd.nd rfl (Or.inl rfl)) (pss_one (ps_set (i := 1) sc_law_odd.nd rfl (Or.inl rfl) (pe_tup (pa_cons pe_str (pa_cons (pv 1) pa_nil))))))
    (pss_one (ps_ret (pv 1)))) pss_nil)
    (pss_cons (ps_if (pt_cmpR op_eq (pv 2) pe_int (nomark _)) (pss_cons (ps_for PassesOwn.never rfl (pi_range1 (by rfl) T.b_range (pa_cons (pe_op op_add pe_int (pe_cal C_law_draw hr (by omega) (by rfl) (pa_cons (pv 0) (pa_cons pe_int pa_nil)))) pa_nil)) (pg_name (i := 3) sc_law_odd.nd rfl (Or.inl rfl)) (pss_one (ps_set (i := 1) sc_law_odd.nd rfl (Or.inl rfl) (pe_tup (pa_cons pe_str (pa_cons pe_int (pa_cons (pe_tup (pa_cons pe_str (pa_cons (pe_tup (pa_cons (pv 1) (pa_cons (pv 1) pa_nil))) pa_nil))) pa_nil)))))))
    (pss_one (ps_ret (pv 1)))) pss_nil)
    (pss_cons (ps_if (pt_cmpR op_eq (pv 2) pe_int (nomark _)) (pss_one (ps_ret (pe_tup (pa_cons pe_str (pa_cons (pe_op (op_repTA K) (pe_tup (pa_cons (pv 1) pa_nil)) (pe_cal C_law_draw hr (by omega) (by rfl) (pa_cons (pv 0) (pa_cons pe_int pa_nil)))) pa_nil))))) pss_nil)
    (pss_cons (ps_if (pt_cmpR op_eq (pv 2) pe_int (nomark _)) (pss_cons (ps_set (i := 4) sc_law_odd.nd rfl (Or.inl rfl) (pe_ix (ix_listK K) (pe_lst (pa_cons pe_str (pa_cons pe_str pa_nil))) (pe_cal C_law_draw hr (by omega) (by rfl) (pa_cons (pv 0) (pa_cons pe_int pa_nil))) (fun _ _ => rfl)))
    (pss_one (ps_ret (pe_tup (pa_cons pe_str (pa_cons pe_str (pa_cons (pe_ix (ix_listK K) (pe_lst (pa_cons pe_non (pa_cons pe_int (pa_cons pe_int pa_nil)))) (pe_cal C_law_draw hr (by omega) (by rfl) (pa_cons (pv 0) (pa_cons pe_int pa_nil))) (fun _ _ => rfl)) (pa_cons (pv 4) (pa_cons pe_str (pa_cons (pv 1) pa_nil)))))))))) pss_nil)
    (pss_cons (ps_if (pt_cmpR op_eq (pv 2) pe_int (nomark _)) (pss_one (ps_ret (pe_tup (pa_cons pe_str (pa_cons pe_str (pa_cons (pe_ix (ix_listK K) (pe_lst (pa_cons pe_non (pa_cons pe_int (pa_cons pe_int pa_nil)))) (pe_cal C_law_draw hr (by omega) (by rfl) (pa_cons (pv 0) (pa_cons pe_int pa_nil))) (fun _ _ => rfl)) (pa_cons (pe_ix (ix_listK K) (pe_lst (pa_cons pe_int (pa_cons pe_int (pa_cons pe_int (pa_cons pe_non pa_nil))))) (pe_cal C_law_draw hr (by omega) (by rfl) (pa_cons (pv 0) (pa_cons pe_int pa_nil))) (fun _ _ => rfl)) (pa_cons (pv 1) pa_nil)))))))) pss_nil)
    (pss_cons (ps_set (i := 5) sc_law_odd.nd rfl (Or.inl rfl) (pe_op op_add pe_int (pe_cal C_law_draw hr (by omega) (by rfl) (pa_cons (pv 0) (pa_cons (pe_op op_sub (pe_callB (call_lenK K) (by rfl) T.b_len PySem.boot_len (pa_cons (pv 1) pa_nil)) pe_int) pa_nil)))))
    (pss_cons (ps_set (i := 6) sc_law_odd.nd rfl (Or.inl rfl) (pe_lst (pa_cons pe_non (pa_cons pe_bl (pa_cons pe_bl (pa_cons (pe_un un_neg pe_int) (pa_cons pe_int (pa_cons pe_int (pa_cons pe_int (pa_cons pe_int (pa_cons pe_int (pa_cons (pe_op op_add (pe_op op_pow pe_int pe_int) pe_int) (pa_cons pe_str (pa_cons pe_str (pa_cons pe_str (pa_cons pe_str (pa_cons (pe_tup pa_nil) (pa_cons (pe_lst pa_nil) pa_nil))))))))))))))))))
    (pss_cons (ps_set (i := 6) sc_law_odd.nd rfl (Or.inl rfl) (pe_op op_cat (pv 6) (pe_lst (pa_cons (pe_tup (pa_cons (pe_tup (pa_cons pe_int (pa_cons (pe_tup (pa_cons pe_str (pa_cons pe_int pa_nil))) pa_nil))) (pa_cons (pe_tup (pa_cons pe_int (pa_cons (pe_tup (pa_cons pe_str (pa_cons pe_int pa_nil))) pa_nil))) pa_nil))) (pa_cons (pe_tup (pa_cons (pe_tup (pa_cons pe_int (pa_cons (pe_tup (pa_cons pe_str (pa_cons pe_int pa_nil))) pa_nil))) (pa_cons (pe_tup (pa_cons pe_int (pa_cons (pe_tup (pa_cons pe_str (pa_cons pe_int pa_nil))) pa_nil))) pa_nil))) (pa_cons (pe_tup (pa_cons (pe_tup (pa_cons pe_str (pa_cons pe_int pa_nil))) pa_nil)) pa_nil))))))
    (pss_one (ps_ret (pe_op (op_catAK K) (pe_op (op_catAK K) (pe_slice (sl_tupAK K) (pv 1) po_none (po_some (pv 5))) (pe_tup (pa_cons (pe_ix (ix_listK K) (pv 6) (pe_cal C_law_draw hr (by omega) (by rfl) (pa_cons (pv 0) (pa_cons pe_int pa_nil))) (fun _ _ => rfl)) pa_nil))) (pe_slice (sl_tupAK K) (pv 1) (po_some (pe_op op_add (pv 5) pe_int)) po_none)))))))))))))))), ?_⟩
  rintro gs B O R σ H Q ⟨p, t, rfl, hp, ho, hn, rfl⟩ st q
  have hl : Lay 24 t := okB_lay ho
  have fm := PD.form_of (PD.ok_succ ho).1
  have hn7 : PD.npart 7 t ≤ 60 := Nat.le_trans npart_mono hn
  have hn6 : PD.npart 6 t ≤ 60 := Nat.le_trans npart_mono hn7
  obtain ⟨wd, fs, et⟩ := fm.head
  obtain ⟨xs, ex, hx0⟩ : ∃ xs, t = .tuple xs ∧ 2 ≤ xs.length := by
    cases fm <;> exact ⟨_, rfl, by simp⟩
  refine qx_asg st (ex_draw rfl hp (n := 9) (by decide) (by decide)) fun v0 d0 B0 O0 H0' x0 ⟨r, e0, r0, r1, m0⟩ dv0 st => ?_
  subst e0
  have hp0 := m0.pool
  -- 0
  refine q_when st (et_test (ev_op (ev_var rfl) ev_int rd_eqInt)) (fun h1 B1 H1 x1 st => ?_) (fun h1 B1 H1 x1 st => ?_)
  · refine sx_ret st (ex_item (n := 9) (ds := odd0 xs) (ev_lst (ea_cons ev_non (ea_cons ev_int (ea_cons ev_str (ea_cons (ev_lst ea_nil (by simp)) (ea_cons (ev_tup ea_nil (by simp)) (ea_cons (ev_tup (ea_cons ev_str ea_nil) (by simp)) (ea_cons (ev_cb (ea_cons (ev_is (ev_var rfl) ex) ea_nil) rc_listT) (ea_cons (ev_tup (ea_cons ev_str (ea_cons ev_int (ea_cons ev_non (ea_cons ev_str ea_nil)))) (by simp)) (ea_cons ev_dict0 ea_nil))))))))) (by simp [odd0])) rfl rfl hp0 (by decide) (by decide)) fun v d B2 O2 H2 x2 ⟨hd, m⟩ w2 dv => ?_
    exact q v d B2 O2 H2 ((x0.trans x1).trans x2) ⟨odd0_nice (ex ▸ hl) hd, m0.trans m⟩ w2 dv
  -- 1
  refine q_when st (et_test (ev_op (ev_var rfl) ev_int rd_eqInt)) (fun h2 B2 H2 x2 st => ?_) (fun h2 B2 H2 x2 st => ?_)
  · have hxl : xs.length ≤ 6 := by
      subst ex
      cases fm <;> simp
    refine s_ret st (ev_op (ev_is (ev_var rfl) ex) (ev_tup (ea_cons (ev_var rfl) ea_nil) (by simp)) (rd_catT (by simp; omega))) fun v B3 H3 x3 w3 d3 => ?_
    refine q v _ B3 O0 H3 (((x0.trans x1).trans x2).trans x3) ⟨⟨.inl ?_, ?_⟩, m0⟩ w3 d3
    · refine (lay_tup (n := 24) fun d hd => ?_).mono (by decide)
      rcases List.mem_append.mp hd with hd | hd
      · exact lay_mem (ex ▸ hl) d hd
      · simp at hd
        subst hd
        exact hl
    · have h9 : PD.npart 8 (.tuple (xs ++ [t])) ≤ PD.npart 8 (.tuple xs) + PD.npart 7 t := np_more (ex ▸ fm)
      rw [← ex] at h9
      omega
  -- 2
  refine q_when st (et_test (ev_op (ev_var rfl) ev_int rd_eqInt)) (fun h3 B3 H3 x3 st => ?_) (fun h3 B3 H3 x3 st => ?_)
  · have hne : xs ≠ [] := fun e => by rw [e] at hx0; simp at hx0
    refine s_ret st (ev_is (ev_slT (ev_is (ev_var rfl) ex) eo_none (eo_some (ev_un ev_int))) (congrArg PyData.tuple (cut_last hne))) fun v B4 H4 x4 w4 d4 => ?_
    refine q v _ B4 O0 H4 ((((x0.trans x1).trans x2).trans x3).trans x4) ⟨⟨.inl ?_, ?_⟩, m0⟩ w4 d4
    · exact (lay_tup (n := 24) fun d hd => lay_mem (ex ▸ hl) d (List.dropLast_subset _ hd)).mono (by decide)
    · have h9 : PD.npart 8 (.tuple xs.dropLast) ≤ 2 := np_drop (ex ▸ fm)
      omega
  have X3 := ((x0.trans x1).trans x2).trans x3
  have turns : ∀ {B4 H4 σ4} {k j : Int} {G4 : List SD}, Ex B3 B4 → G4[0]? = some (.val (.ref p)) → 0 < j → j ≤ 9 → Sta K B4 O0 G4 σ4 H4 → EvIX K B4 O0 G4 (iRng1 (tCons (tOp (rI0 fun i j => .int (i + j)) (tC (.int 1)) (tCall (SpX K PreDraw) [] E0 (tCons (tVar 0) (tCons (tC (.int j)) tNil)))) tNil)) (fun es O' => (∃ m : Nat, m ≤ j.toNat ∧ es = rangeD 0 m) ∧ Mv p O0 O') := fun {B4 H4 σ4 k j G4} e hg j0 j9 s4 =>
    eix_range (exs_cons (R := fun d O' => ∃ z : Int, d = .int z ∧ 0 ≤ z ∧ z ≤ j ∧ Mv p O0 O') (S := fun _ O' ds O'' => ds = [] ∧ O'' = O') (ex_op (ex_pure ev_int) (R2' := fun _ O' d2 O'' => ∃ z : Int, d2 = .int z ∧ 0 ≤ z ∧ z < j ∧ Mv p O' O'') (fun d1 B' O' _ e => by
      obtain ⟨_, rfl⟩ := e
      exact ex_draw hg hp0 j0 (by omega)) fun d1 O' d2 O'' e1 e2 => by
      obtain ⟨rfl, rfl⟩ := e1
      obtain ⟨z, rfl, z0, z1, m⟩ := e2
      exact ⟨_, rd_I0, 1 + z, rfl, by omega, by omega, m⟩) (fun d B'' O'' _ _ => exs_nil) fun d O' ds O'' ⟨z, e1, z0, z1, m⟩ ⟨e2, e3⟩ => by
      subst e1 e2 e3
      exact ⟨z, rfl, by omega, ⟨z.toNat, by omega, rfl⟩, m⟩)
  -- 3
  refine q_when st (et_test (ev_op (ev_var rfl) ev_int rd_eqInt)) (fun h4 B4 H4 x4 st => ?_) (fun h4 B4 H4 x4 st => ?_)
  · refine qx_for st (turns (k := r) (j := 9) x4 rfl (by decide) (by decide) st) (fun es i B' O' G' => (∃ m : Nat, m ≤ 9 ∧ es = rangeD 0 m) ∧ Mv p O0 O' ∧ ∃ t' g3, Lay (24 + i) t' ∧ PD.npart 8 t' ≤ 60 + i ∧ G' = [.val (.ref p), .dat t', .dat (.int r), g3, .un, .un, .un]) (fun es i B1 B2 O1 G1 e x => x) (fun es O' B' e ⟨hm, m⟩ => ⟨hm, m, t, _, hl, hn, rfl⟩) ?_ ?_
    · rintro es i e B5 O5 G5 σ5 H5 v hie x5 ⟨⟨m, hm, rfl⟩, mv, t', g3, ht, hnt, rfl⟩ st dv N hN
      refine eg_name B5 _ σ5 H5 v st dv _ fun σ6 st _ => ?_
      refine s_asg st (ev_tup (ea_cons ev_str (ea_cons (ev_var rfl) ea_nil)) (by simp)) fun v6 B6 H6 x6 d6 st => ?_
      refine hN B6 _ _ _ _ x6 ⟨⟨m, hm, rfl⟩, mv, .tuple [.str "fill", t'], _, ?_, ?_, rfl⟩ st
      · refine (lay_tup (n := 24 + i) fun d hd => ?_).mono (by omega)
        simp at hd
        rcases hd with rfl | rfl
        · exact lay_word (by decide +kernel)
        · exact ht
      · rw [npart_one (x := t') (by rfl)]
        have h9 : PD.npart 7 t' ≤ PD.npart 8 t' := npart_mono
        omega
    · rintro es B5 O5 G5 σ5 H5 x5 ⟨⟨m, hm, rfl⟩, mv, t', g3, ht, hnt, rfl⟩ st
      rw [rangeD_len] at ht hnt
      exact s_ret st (ev_var rfl) fun v B6 H6 x6 w6 d6 => q v _ B6 O5 H6 (((X3.trans x4).trans x5).trans x6) ⟨⟨.inl (ht.mono (by omega)), by omega⟩, m0.trans mv⟩ w6 d6
  -- 4
  refine q_when st (et_test (ev_op (ev_var rfl) ev_int rd_eqInt)) (fun h5 B5 H5 x5 st => ?_) (fun h5 B5 H5 x5 st => ?_)
  · refine qx_for st (turns (k := r) (j := 5) (x4.trans x5) rfl (by decide) (by decide) st) (fun es i B' O' G' => (∃ m : Nat, m ≤ 5 ∧ es = rangeD 0 m) ∧ Mv p O0 O' ∧ ∃ t' g3, Lay (24 + 4 * i) t' ∧ PD.npart 8 t' + 2 ≤ 62 * 2 ^ i ∧ G' = [.val (.ref p), .dat t', .dat (.int r), g3, .un, .un, .un]) (fun es i B1 B2 O1 G1 e x => x) (fun es O' B' e ⟨hm, m⟩ => ⟨hm, m, t, _, hl, by omega, rfl⟩) ?_ ?_
    · rintro es i e B6 O6 G6 σ6 H6 v hie x6 ⟨⟨m, hm, rfl⟩, mv, t', g3, ht, hnt, rfl⟩ st dv N hN
      refine eg_name B6 _ σ6 H6 v st dv _ fun σ7 st _ => ?_
      refine s_asg st (ev_tup (ea_cons ev_str (ea_cons ev_int (ea_cons (ev_tup (ea_cons ev_str (ea_cons (ev_tup (ea_cons (ev_var rfl) (ea_cons (ev_var rfl) ea_nil)) (by simp)) ea_nil)) (by simp)) ea_nil))) (by simp)) fun v7 B7 H7 x7 d7 st => ?_
      refine hN B7 _ _ _ _ x7 ⟨⟨m, hm, rfl⟩, mv, .tuple [.str "times", .int 6, .tuple [.str "row", .tuple [t', t']]], _, ?_, ?_, rfl⟩ st
      · refine (lay_tup (n := 24 + 4 * i + 2) fun d hd => ?_).mono (by omega)
        simp at hd
        rcases hd with rfl | rfl | rfl
        · exact lay_word (by decide +kernel)
        · exact lay_int
        · refine lay_tup fun d hd => ?_
          simp at hd
          rcases hd with rfl | rfl
          · exact lay_word (by decide +kernel)
          · refine lay_tup fun d hd => ?_
            simp at hd
            subst hd
            exact ht
      · rw [npart_one (x := .tuple [.str "row", .tuple [t', t']]) (by rfl), np_row]
        have a1 : PD.npart 7 t' ≤ PD.npart 8 t' := npart_mono
        have a2 : PD.npart 6 t' ≤ PD.npart 7 t' := npart_mono
        rw [List.map_cons, List.map_cons, List.map_nil, List.sum_cons, List.sum_cons, List.sum_nil, Nat.pow_succ]
        omega
    · rintro es B6 O6 G6 σ6 H6 x6 ⟨⟨m, hm, rfl⟩, mv, t', g3, ht, hnt, rfl⟩ st
      rw [rangeD_len] at ht hnt
      have h2 : 2 ^ m ≤ 2 ^ 5 := Nat.pow_le_pow_right (by decide) hm
      exact s_ret st (ev_var rfl) fun v B7 H7 x7 w7 d7 => q v _ B7 O6 H7 ((((X3.trans x4).trans x5).trans x6).trans x7) ⟨⟨.inl (ht.mono (by omega)), by omega⟩, m0.trans mv⟩ w7 d7
  -- 5
  refine q_when st (et_test (ev_op (ev_var rfl) ev_int rd_eqInt)) (fun h6 B6 H6 x6 st => ?_) (fun h6 B6 H6 x6 st => ?_)
  · refine sx_ret st (ex_tup2 ev_str (ex_op (ex_pure (ev_tup (ea_cons (ev_var rfl) ea_nil) (by simp))) (R2' := fun _ O' d2 O'' => ∃ z : Int, d2 = .int z ∧ 0 ≤ z ∧ z < 14 ∧ Mv p O' O'') (fun d1 B' O' _ e => by
      obtain ⟨_, rfl⟩ := e
      exact ex_draw rfl hp0 (by decide) (by decide)) (R3 := fun d O' => ∃ z : Int, d = .tuple (List.replicate z.toNat t) ∧ 0 ≤ z ∧ z < 14 ∧ Mv p O0 O') fun d1 O' d2 O'' e1 e2 => by
      obtain ⟨rfl, rfl⟩ := e1
      obtain ⟨z, rfl, z0, z1, m⟩ := e2
      exact ⟨_, rd_repTA (by simp) ⟨z0, by omega⟩ (by simp), z, by rw [List.flatten_replicate_singleton], z0, z1, m⟩)) fun v d B7 O7 H7 x7 ⟨y, ed, z, ey, z0, z1, m⟩ w7 dv => ?_
    subst ey ed
    refine q v _ B7 O7 H7 ((((X3.trans x4).trans x5).trans x6).trans x7) ⟨⟨.inl ?_, ?_⟩, m0.trans m⟩ w7 dv
    · refine (lay_tup (n := 25) fun d hd => ?_).mono (by decide)
      simp at hd
      rcases hd with rfl | rfl
      · exact lay_word (by decide +kernel)
      · refine lay_tup fun d hd => ?_
        rw [(List.mem_replicate.mp hd).2]
        exact hl
    · rw [np_row, List.map_replicate, List.sum_replicate_nat]
      have : z.toNat * PD.npart 7 t ≤ 14 * 60 := Nat.mul_le_mul (by omega) hn7
      omega
  -- 6
  refine q_when st (et_test (ev_op (ev_var rfl) ev_int rd_eqInt)) (fun h7 B7 H7 x7 st => ?_) (fun h7 B7 H7 x7 st => ?_)
  · refine qx_asg st (ex_item (n := 2) (ds := [.str "told", .str "cut"]) (ev_lst (ea_cons ev_str (ea_cons ev_str ea_nil)) (by simp)) rfl rfl hp0 (by decide) (by decide)) fun v8 lim B8 O8 H8 x8 ⟨hlim, m8⟩ dv8 st => ?_
    refine sx_ret st (ex_tup (exs_cP ev_str (exs_cP ev_str (exs_cons (T := fun ds O' => ∃ x, x ∈ [PyData.none, .int 20, .int 21] ∧ ds = [x, lim, .str "skip", t] ∧ Mv p O8 O') (S := fun _ O' es O'' => es = [lim, .str "skip", t] ∧ O'' = O') (ex_item (n := 3) (ds := [.none, .int 20, .int 21]) (ev_lst (ea_cons ev_non (ea_cons ev_int (ea_cons ev_int ea_nil))) (by simp)) rfl rfl m8.pool (by decide) (by decide)) (fun d B' O' e r => exs_pA (ea_cons (ev_var rfl) (ea_cons ev_str (ea_cons (ev_var rfl) ea_nil)))) (fun d O' ds O'' r1 r2 => by
      obtain ⟨rfl, rfl⟩ := r2
      exact ⟨d, r1.1, rfl, r1.2⟩)))) (by rintro ds O' ⟨_, rfl, _, rfl, _, _, rfl, _⟩; simp)) fun v d B9 O9 H9 x9 ⟨ds, ed, ds1, e1, ds2, e2, x, hx, e3, m9⟩ w9 dv => ?_
    subst e3 e2 e1 ed
    have hlim' : Lay 24 lim := by
      simp at hlim
      rcases hlim with rfl | rfl <;> exact lay_word (by decide +kernel)
    have hx' : Lay 24 x := by
      simp at hx
      rcases hx with rfl | rfl | rfl
      · exact lay_none
      · exact lay_int
      · exact lay_int
    refine q v _ B9 O9 H9 ((((((X3.trans x4).trans x5).trans x6).trans x7).trans x8).trans x9) ⟨⟨.inl ?_, ?_⟩, (m0.trans m8).trans m9⟩ w9 dv
    · refine (lay_tup (n := 24) fun d hd => ?_).mono (by decide)
      simp at hd
      rcases hd with rfl | rfl | rfl | rfl | rfl | rfl
      · exact lay_word (by decide +kernel)
      · exact lay_word (by decide +kernel)
      · exact hx'
      · exact hlim'
      · exact lay_word (by decide +kernel)
      · exact hl
    · rw [npart_one (x := t) (by rfl)]
      omega
  -- 7
  refine q_when st (et_test (ev_op (ev_var rfl) ev_int rd_eqInt)) (fun h8 B8 H8 x8 st => ?_) (fun h8 B8 H8 x8 st => ?_)
  · refine sx_ret st (ex_tup (exs_cP ev_str (exs_cP ev_str (exs_cons (T := fun ds O' => ∃ x y, x ∈ [PyData.none, .int 9, .int 10] ∧ y ∈ [PyData.int 0, .int 9, .int 10, .none] ∧ ds = [x, y, t] ∧ Mv p O0 O') (S := fun _ O' es O'' => ∃ y, y ∈ [PyData.int 0, .int 9, .int 10, .none] ∧ es = [y, t] ∧ Mv p O' O'') (ex_item (n := 3) (ds := [.none, .int 9, .int 10]) (ev_lst (ea_cons ev_non (ea_cons ev_int (ea_cons ev_int ea_nil))) (by simp)) rfl rfl hp0 (by decide) (by decide)) (fun d B' O' e r => exs_cons (S := fun _ O'' es O3 => es = [t] ∧ O3 = O'') (ex_item (n := 4) (ds := [.int 0, .int 9, .int 10, .none]) (ev_lst (ea_cons ev_int (ea_cons ev_int (ea_cons ev_int (ea_cons ev_non ea_nil)))) (by simp)) rfl rfl r.2.pool (by decide) (by decide)) (fun d2 B2 O2 e2 r2 => exs_pA (ea_cons (ev_var rfl) ea_nil)) (fun d2 O2 ds2 O3 r2 r3 => by
      obtain ⟨rfl, rfl⟩ := r3
      exact ⟨d2, r2.1, rfl, r2.2⟩)) (fun d O' ds O'' r1 r2 => by
      obtain ⟨y, hy, rfl, m⟩ := r2
      exact ⟨d, y, r1.1, hy, rfl, r1.2.trans m⟩)))) (by rintro ds O' ⟨_, rfl, _, rfl, _, _, _, _, rfl, _⟩; simp)) fun v d B9 O9 H9 x9 ⟨ds, ed, ds1, e1, ds2, e2, x, y, hx, hy, e3, m9⟩ w9 dv => ?_
    subst e3 e2 e1 ed
    have hx' : Lay 24 x := by
      simp at hx
      rcases hx with rfl | rfl | rfl
      · exact lay_none
      · exact lay_int
      · exact lay_int
    have hy' : Lay 24 y := by
      simp at hy
      rcases hy with rfl | rfl | rfl | rfl
      · exact lay_int
      · exact lay_int
      · exact lay_int
      · exact lay_none
    refine q v _ B9 O9 H9 (((((X3.trans x4).trans x5).trans x6).trans x7).trans (x8.trans x9)) ⟨⟨.inl ?_, ?_⟩, m0.trans m9⟩ w9 dv
    · refine (lay_tup (n := 24) fun d hd => ?_).mono (by decide)
      simp at hd
      rcases hd with rfl | rfl | rfl | rfl | rfl
      · exact lay_word (by decide +kernel)
      · exact lay_word (by decide +kernel)
      · exact hx'
      · exact hy'
      · exact hl
    · rw [npart_one (x := t) (by rfl)]
      omega
  -- 8
  have hxl : xs.length ≤ 6 := by
    subst ex
    cases fm <;> simp
  refine qx_asg st (R := fun d O' => ∃ z : Nat, d = .int (z : Int) ∧ 0 < z ∧ z < xs.length ∧ Mv p O0 O') (ex_op (ex_pure ev_int) (R2' := fun _ O' d2 O'' => ∃ z : Int, d2 = .int z ∧ 0 ≤ z ∧ z < (xs.length : Int) - 1 ∧ Mv p O' O'') (fun d1 B' O' _ e => by
    obtain ⟨_, rfl⟩ := e
    exact ex_drawE rfl hp0 (ev_op (ev_cb (ea_cons (ev_is (ev_var rfl) ex) ea_nil) rc_lenT) ev_int rd_I0) (by omega) (by omega)) fun d1 O' d2 O'' e1 e2 => by
    obtain ⟨rfl, rfl⟩ := e1
    obtain ⟨z, rfl, z0, z1, m⟩ := e2
    exact ⟨_, rd_I0, (1 + z).toNat, congrArg PyData.int (by omega), by omega, by omega, m⟩) fun v9 d9 B9 O9 H9 x9 ⟨z, e9, z0, z1, m9⟩ dv9 st => ?_
  subst e9
  refine q_asg st (d := .list somes) (ev_lst (ea_cons ev_non (ea_cons ev_bl (ea_cons ev_bl (ea_cons (ev_is (ev_un ev_int) (by rfl)) (ea_cons ev_int (ea_cons ev_int (ea_cons ev_int (ea_cons ev_int (ea_cons ev_int (ea_cons (ev_is (ev_op ev_pow6 ev_int rd_I0) (by rfl)) (ea_cons ev_str (ea_cons ev_str (ea_cons ev_str (ea_cons ev_str (ea_cons (ev_tup ea_nil (by simp)) (ea_cons (ev_lst ea_nil (by simp)) ea_nil)))))))))))))))) (by decide)) fun va Ba Ha xa da st => ?_
  have nd : ∀ {B O : Hp} {G : List SD} {i j : Int}, EvD K B O G (tTup (tCons (tC (.int i)) (tCons (tTup (tCons (tC (.str "need")) (tCons (tC (.int j)) tNil))) tNil))) (.tuple [.int i, .tuple [.str "need", .int j]]) := ev_tup (ea_cons ev_int (ea_cons (ev_tup (ea_cons ev_str (ea_cons ev_int ea_nil)) (by simp)) ea_nil)) (by simp)
  refine q_asg st (d := .list (somes ++ somes2)) (ev_op (ev_var rfl) (ev_lst (ea_cons (ev_tup (ea_cons nd (ea_cons nd ea_nil)) (by simp)) (ea_cons (ev_tup (ea_cons nd (ea_cons nd ea_nil)) (by simp)) (ea_cons (ev_tup (ea_cons (ev_tup (ea_cons ev_str (ea_cons ev_int ea_nil)) (by simp)) ea_nil) (by simp)) ea_nil))) (by simp)) (rd_cat (by decide))) fun vb Bb Hb xb db st => ?_
  refine sx_ret st (ex_op (R1 := fun d O' => ∃ s, s ∈ somes ++ somes2 ∧ d = .tuple (xs.take z ++ [s]) ∧ Mv p O9 O') (ex_op (ex_pure (ev_is (ev_slT (ev_is (ev_var rfl) ex) eo_none (eo_some (ev_var rfl))) (congrArg PyData.tuple (by rw [cut_to (by omega), Int.toNat_natCast])))) (R2' := fun _ O' d2 O'' => ∃ s, s ∈ somes ++ somes2 ∧ d2 = .tuple [s] ∧ Mv p O' O'') (fun d1 B' O' _ e => by
      obtain ⟨_, rfl⟩ := e
      exact ex_imp (ex_tup (exs_cons (T := fun ds O'' => ∃ s, s ∈ somes ++ somes2 ∧ ds = [s] ∧ Mv p O' O'') (S := fun _ O' es O'' => es = [] ∧ O'' = O') (ex_item (n := 19) (ds := somes ++ somes2) (ev_var rfl) (by decide) rfl m9.pool (by decide) (by decide)) (fun d B' O' e r => exs_nil) (fun d O' ds O'' r1 r2 => by
        obtain ⟨rfl, rfl⟩ := r2
        exact ⟨d, r1.1, rfl, r1.2⟩)) (by rintro ds O' ⟨_, _, rfl, _⟩; simp)) fun d O' ⟨ds, e, s, hs, e2, m⟩ => ⟨s, hs, by rw [e, e2], m⟩) fun d1 O' d2 O'' e1 e2 => by
      obtain ⟨rfl, rfl⟩ := e1
      obtain ⟨s, hs, rfl, m⟩ := e2
      exact ⟨_, rd_catT (by simp; omega), s, hs, rfl, m⟩) (R2' := fun _ O' d2 O'' => d2 = .tuple (xs.drop (z + 1)) ∧ O'' = O') (fun d1 B' O' e r => ex_imp (ex_pure (ev_is (ev_slT (ev_is (ev_var rfl) ex) (eo_some (ev_op (ev_var rfl) ev_int rd_I0)) eo_none) (congrArg PyData.tuple (by rw [show ((z : Int) + 1) = ((z + 1 : Nat) : Int) by omega]; exact cut_from (by omega))))) fun d O' h => h) (R3 := fun d O' => ∃ s, s ∈ somes ++ somes2 ∧ d = .tuple (xs.set z s) ∧ Mv p O9 O') fun d1 O' d2 O'' e1 e2 => by
    obtain ⟨s, hs, rfl, m⟩ := e1
    obtain ⟨rfl, rfl⟩ := e2
    exact ⟨_, rd_catT (by simp; omega), s, hs, by rw [set_cut z1], m⟩) fun v d Bc Oc Hc xc ⟨s, hs, ed, mc⟩ wc dv => ?_
  subst ed
  refine q v _ Bc Oc Hc (((((X3.trans x4).trans x5).trans x6).trans x7).trans (((x8.trans x9).trans xa).trans (xb.trans xc))) ⟨⟨.inl ?_, ?_⟩, (m0.trans m9).trans mc⟩ wc dv
  · obtain ⟨s1, s2⟩ := somes_lay s hs
    exact (lay_set (n := 24) (ex ▸ hl) ⟨s1, by omega⟩).mono (by decide)
  · have := np_field (xs := xs) (i := z) (ex ▸ fm) z0 z1 hs
    rw [← ex] at this
    omega
end
end Toy

set_option Elab.async false
set_option linter.all false
set_option maxRecDepth 100000
set_option maxHeartbeats 4000000


namespace L2
open PySem PySem.Spec PyProof.Rows
section
variable {X : Cx} {CX : CXT} {n : Nat} {C f : Addr} {fd : FuncData} {ps : List Str} {sp : Sp} {E : XK} {H : Hp} {s : Shared} {σ : St} {pins : List (Addr × Obj)}
/-- x == y, x an instance of the class at C, y a tuple -/
def rCmpOwnT (K : PySem.W.Frag) (C : Addr) (sp : Sp) (E : XK) : R2 := fun x y H Q => ∃ a dx fs b ys, x = .ref a ∧ y = .ref b ∧ H a = some (.ins C dx fs) ∧ SqT K H b ys ∧ sp [x, y] H Q E
theorem op_cmpOwnT {op : CmpOp} (hop : ∀ a b, compareOp op a b = richCompare op a b) (hs : PySem.W.findIn X.K (.ref C) (cmpInfo op).2.1 = some (some (.ref f))) (hf : PySem.W.isFn X.K (.ref f) = true)
    (F : FnOk X.prog X.w X.K X.mg X.base CX n f fd ps sp) (hb : Binds X.K fd ps []) (hr : Room n X.A) (hx : Passes CX X E) (hn : PySem.W.notFirst X.K C (.type "tuple") = true) : OpR X (compareOp op) (rCmpOwnT X.K C sp E) := by
  intro pins s σ H x y v u Q I rx ry h
  obtain ⟨a, dx, fs, b, ys, rfl, rfl, ha, hb', q⟩ := h
  cases (show v = Value.ref a from rx)
  cases (show u = Value.ref b from ry)
  obtain ⟨mA, J, _⟩ := ins_get I.hok ha
  obtain ⟨od, J, _⟩ := J.look
  obtain ⟨its, r, ⟨⟨cls, dd, data, sl⟩, ho, hc, n, hd⟩, hs2⟩ := I.tuple hb'
  simp only at hc hd
  subst hc hd
  obtain ⟨m, hF⟩ := I.fr
  rw [hop]
  refine PySem.W.cmp_K (op := op) (tb := .type "tuple") hr.units0 hF I.ok.mod.kin J (fun A Q E s k q => wpAny_typeOf_ref (k _ _ ho) q) hn hs hf ?_
  refine wpAny_mono (run_own F hb hx hr rfl I (us := [.ref a, .ref b]) (vs := [.ref a, .ref b]) (.cons rfl (.cons rfl .nil)) q) (fun w s' z => ?_) fun _ _ x => x
  obtain ⟨z', H', I', rz, qz⟩ := z
  exact SlX.cmpback rz ⟨z', H', I', rz, qz⟩
end
end L2
namespace Toy
open PySem PySem.Spec PyProof.Rows L2 StX DL PT G

abbrev s_Reader_eq : Stmt := clsS 74 2
abbrev N_sc_Reader_eq : List Str := ["self", "other"]
theorem sc_Reader_eq : FnScope N_sc_Reader_eq ["self", "other"] (defScope s_Reader_eq) := ⟨rfl, rfl, rfl, by decide +kernel, rfl, by decide +kernel, by decide +kernel⟩

/-- isinstance and == of readers -/
structure RdI (K : PySem.W.Frag) (C : Addr) : Prop where
  ca : PySem.W.findIn K (.ref C) "__class__" = some (some (.builtin "object.__class__"))
  cn : PySem.W.specialIn K (.builtin "object.__class__") "__get__" = some (some (.builtin "getset_descriptor.__get__"))
  ct : PySem.W.takesIn K (.builtin "object.__class__") = some true
  cm : PySem.W.mroIn K C (.type "object") = some true
  kt : PySem.W.kitOne K (.type "tuple") (.ref C) = some false
def SpEqR (K : PySem.W.Frag) (C : Addr) : Sp := fun vs H Q _ => ∃ B O v u d, vs = [v, u] ∧ W B O H ∧ IsRd K C d B v ∧
  ((∃ e, IsRd K C e B u ∧ SeqAt.shaped d = true ∧ SeqAt.shaped e = true ∧ ∀ B' H', Ex B B' → W B' O H' → Q (.bl (PyData.eqv d e)) H') ∨ ∃ es, Dt K B u (.tuple es) ∧ ∀ B' H', Ex B B' → W B' O H' → Q (.bl false) H')
section
variable {K : PySem.W.Frag} {B O : Hp} {G : List SD} {ta tb te : TE} {d e : PyData} {C : Addr} {E : XK}
theorem ev_isRd (cl : Cls K C) (I : RdI K C) (h : EvP K B O G te (IsRd K C d)) : EvD K B O G (tCB (rIsi K) (tCons te (tCons (tC (.ref C)) tNil))) (.bool true) := fun B1 O1 σ H e1 o s Q q =>
  h B1 O1 σ H e1 o s _ fun v B2 H2 e2 w2 ⟨x, dx, fs, pv, ev, h2, _⟩ => by
    subst ev
    refine ⟨.ref x, .ref C, .ref C, .ref C, true, rfl, .own C, .base (.ins (w2.b _ _ h2) cl I.ca I.cn I.ct I.cm), ?_, q _ B2 H2 e2 w2 (.bl true)⟩
    unfold PySem.W.kitOne
    simp
theorem ev_isRdT {es : List PyData} (I : RdI K C) (h : EvD K B O G te (.tuple es)) : EvD K B O G (tCB (rIsi K) (tCons te (tCons (tC (.ref C)) tNil))) (.bool false) := fun B1 O1 σ H e1 o s Q q =>
  h B1 O1 σ H e1 o s _ fun v B2 H2 e2 w2 d2 => ⟨v, .ref C, .type "tuple", .ref C, false, rfl, .own C, ty_of w2.b d2, I.kt, q _ B2 H2 e2 w2 (.bl false)⟩
theorem ev_partRd (cl : Cls K C) (nP : NoAttr K C "part") (h : EvP K B O G te (IsRd K C d)) : EvD K B O G (tFld K te "part") d := ev_fld (P := IsRd K C d) cl nP h fun B3 u e3 hu => by
  obtain ⟨y, dy, fs, pv, h1, h2, h3, h4⟩ := hu
  exact ⟨y, dy, fs, pv, h1, h2, h3, h4⟩
theorem ev_eqRd (h1 : EvP K B O G ta (IsRd K C d)) (h2 : EvP K B O G tb (IsRd K C e)) (sd : SeqAt.shaped d = true) (se : SeqAt.shaped e = true) : EvD K B O G (tOp (rCmpOwn K C (SpEqR K C) E) ta tb) (.bool (PyData.eqv d e)) := fun B1 O1 σ H e1 o s Q q =>
  h1 B1 O1 σ H e1 o s _ fun u B2 H2 e2 w2 p1 => h2 B2 O1 σ H2 (e1.trans e2) o (s.ex e2 w2) _ fun v B3 H3 e3 w3 p2 => by
    have p1 := p1.ex e3
    obtain ⟨x, dx, fs, _, ev, hx, _⟩ := id p1
    obtain ⟨y, dy, gs, _, ev2, hy, _⟩ := id p2
    subst ev ev2
    exact ⟨x, dx, fs, y, dy, gs, rfl, rfl, w3.b _ _ hx, w3.b _ _ hy, B3, O1, .ref x, .ref y, d, rfl, w3, p1, .inl ⟨e, p2, sd, se, fun B' H' e' w' => q _ B' H' ((e2.trans e3).trans e') w' (.bl _)⟩⟩
theorem ev_eqRdT {es : List PyData} (h1 : EvP K B O G ta (IsRd K C d)) (h2 : EvD K B O G tb (.tuple es)) : EvD K B O G (tOp (rCmpOwnT K C (SpEqR K C) E) ta tb) (.bool false) := fun B1 O1 σ H e1 o s Q q =>
  h1 B1 O1 σ H e1 o s _ fun u B2 H2 e2 w2 p1 => h2 B2 O1 σ H2 (e1.trans e2) o (s.ex e2 w2) _ fun v B3 H3 e3 w3 p2 => by
    have p1 := p1.ex e3
    obtain ⟨x, dx, fs, _, ev, hx, _⟩ := id p1
    obtain ⟨b, ys, ev2, hT, _⟩ := dp_tup p2
    subst ev ev2
    exact ⟨x, dx, fs, b, ys, rfl, rfl, w3.b _ _ hx, st_ex w3.b hT, B3, O1, .ref x, .ref b, d, rfl, w3, p1, .inr ⟨es, p2, fun B' H' e' w' => q _ B' H' ((e2.trans e3).trans e') w' (.bl _)⟩⟩
theorem evp_makeRd {CP : Addr} (h : EvD K B O G ta d) (hn : PD.npart 8 d ≤ 50000) (he : PD.partErr d = none) : EvP K B O G (tMake C (SpInitRd K CP C) [] E (tCons ta tNil)) (IsRd K C d) := fun B1 O1 σ H e1 o st Q q => by
  refine h B1 O1 σ H e1 o st _ fun v B2 H2 x2 w1 d1 x dx hx hdx hne => ?_
  have hw := (w1.newO (u := .own x) hdx).newO (p := x) (u := .ins C dx []) (by rw [upd_ne (fun z => hne z.symm)]; exact hx)
  refine ⟨B2, O1, x, dx, v, d, rfl, w1.fo hx, w1.fo hdx, hne, hw, d1, hn, ?_⟩
  unfold RdOk
  rw [he]
  exact fun B3 H3 x3 w3 hrd => ⟨rfl, q _ B3 H3 (x2.trans x3) w3 hrd⟩
theorem ev_isX {i : Nat} {a D pp : Addr} {fs : List (Str × V)} {c : V} {cv : Value} {b : Bool} (hg : G[i]? = some (.val (.ref a))) (hb : B pp = some (.xd fs)) (hc : ∀ u, RelV c u → u = cv) (hk : PySem.W.kitOne K (.ref D) cv = some b) :
    EvD K B O G (tCB (rIsX K D a (.ref D) (some pp)) (tCons (tVar i) (tCons (tC c) tNil))) (.bool b) := fun B1 O1 σ H e o st Q q => by
  obtain ⟨sv, h1, h2⟩ := st.s.get hg
  have h3 : sv = some (.ref a) := h2
  subst h3
  exact ⟨_, h1, c, cv, b, pp, fs, rfl, rfl, rfl, hc, hk, st.w.b _ _ (e _ _ hb), q _ B1 H (Ex.refl _) st.w (.bl b)⟩

end
theorem slots_three {K : PySem.W.Frag} {σ : L2.St} {B : Hp} {a : Addr} (h : σ.length = 3) : Slots K B (σ.set 2 (some (.ref a))) [.un, .un, .val (.ref a)] := by
  match σ, h with
  | [x, y, z], _ => exact ⟨trivial, trivial, rfl, trivial⟩
def toldD (t : PyData) : PyData := match PD.partErr t with
  | some p => .tuple [.str "wrong", PD.encP p, .bool true]
  | none => .tuple [.str "right", .bool true, .bool true]
def R_told (ds : List PyData) (d : PyData) : Prop := ∃ t, PD.npart 8 t ≤ 50000 ∧ ds = [t] ∧ d = toldD t
theorem isPart_ok {t : PyData} (h : PD.partErr t = none) : PD.okB 8 t = true ∧ PD.npart 8 t ≤ 60 := by
  have e : PD.isPart t = true := by rw [PD.isPart_err, h]; rfl
  unfold PD.isPart at e
  rw [Bool.and_eq_true, Bool.and_eq_true, decide_eq_true_eq] at e
  exact ⟨e.1, e.2.1⟩
/-- == of readers -/
structure RdE (P : Program) (w : World) (K : PySem.W.Frag) (mg : Str → Option Value) (base : Heap) (C f : Addr) (fd : FuncData) : Prop where
  s : PySem.W.findIn K (.ref C) "__eq__" = some (some (.ref f))
  fn : PySem.W.isFn K (.ref f) = true
  F : FnOk P w K mg base CX0 2 f fd ["self", "other"] (SpEqR K C)
  b : Binds K fd ["self", "other"] []
  n : PySem.W.notFirst K C (.type "tuple") = true
theorem s_makeRd {K : PySem.W.Frag} {B O : Hp} {G : List SD} {σ : L2.St} {H : Hp} {D : Ends} {ta : TE} {t : PyData} {CP CR : Addr} {E : XK} {i : Nat} (st : Sta K B O G σ H) (h : EvD K B O G ta t) (hn : PD.npart 8 t ≤ 50000)
    (k1 : PD.partErr t = none → ∀ v B' H', Ex B B' → IsRd K CR t B' v → Sta K B' O (G.set i (.val v)) (σ.set i (some v)) H' → D.nx (σ.set i (some v)) H')
    (k2 : ∀ p, PD.partErr t = some p → ∀ pp v B' H', Ex B B' → W B' O H' → B' pp = some (.xd [(("path" : Str), v)]) → Dt K B' v (PD.encP p) → E (.ref CP) (some pp) H') : tAsg (tMake CR (SpInitRd K CP CR) [] E (tCons ta tNil)) (gName i) D σ H := by
  refine h B O σ H (Ex.refl _) (Ex.refl _) st _ fun v B1 H1 x1 w1 d1 x dx hx hdx hne => ?_
  have hw := (w1.newO (u := .own x) hdx).newO (p := x) (u := .ins CR dx []) (by rw [upd_ne (fun z => hne z.symm)]; exact hx)
  refine ⟨B1, O, x, dx, v, t, rfl, w1.fo hx, w1.fo hdx, hne, hw, d1, hn, ?_⟩
  unfold RdOk
  cases he : PD.partErr t with
  | none => exact fun B2 H2 x2 w2 hrd => ⟨rfl, k1 he _ B2 H2 (x1.trans x2) hrd ((st.ex (x1.trans x2) w2).setV i)⟩
  | some p => exact fun pp v2 B2 H2 x2 w2 hp hv => k2 p he pp v2 B2 H2 (x1.trans x2) w2 hp hv
section
variable {P : Program} {w : World} {K : PySem.W.Frag} {mg : Str → Option Value} {base : Heap} {AD : Ads}

theorem ok_req {f CR : Addr} {fd : FuncData} (T : Txt K mg AD) (RdG : mg "Reader" = some (.ref CR)) (cl : Cls K CR) (nP : NoAttr K CR "part") (I : RdI K CR) (F : Fun K "__eq__" "Reader.__eq__" s_Reader_eq f fd) : FnOk P w K mg base CX0 2 f fd ["self", "other"] (SpEqR K CR) := by
  refine F.ok sc_Reader_eq (fun vs H Q E h => ?_) (fun cdv A outer s H vs Q E hr h => ?_)
  · obtain ⟨B, O, v, u, d, rfl, _⟩ := h
    rfl
  · obtain ⟨B, O, v, u, d, rfl, hw, hd, q⟩ := h
    refine ⟨_, (pss_one (ps_ret (pe_and (pe_callB (call_isiK' K) (by rfl) T.b_isinstance (by decide +kernel) (pa_cons (pv 1) (pa_cons (pe_glob (v := .ref CR) (by rfl) RdG rfl) pa_nil))) (pe_one (pe_cmpR (op_eqDK K hr.units) (pe_fldK K (pv 0) rfl) (pe_fldK K (pv 1) rfl) (nomark _)))))), ?_⟩
    have st : Sta K B O [.val v, .val u] (L2.start N_sc_Reader_eq [v, u]) H := ⟨hw, ⟨rfl, rfl, trivial⟩⟩
    rcases q with ⟨e, he, sd, se, q⟩ | ⟨es, he, q⟩
    · refine s_ret st (ev_andV (a := true) (b := PyData.eqv d e) (ev_isRd cl I (evP_var rfl fun B3 e3 => he.ex e3)) fun _ => ev_op (ev_partRd cl nP (evP_var rfl fun B3 e3 => hd.ex e3)) (ev_partRd cl nP (evP_var rfl fun B3 e3 => he.ex e3)) (rd_eq sd se rfl)) fun v2 B2 H2 x2 w2 d2 => ?_
      have e3 := dp_bool d2
      rw [e3, Bool.true_and]
      exact q B2 H2 x2 w2
    · have st2 : Sta K B O [.val v, .dat (.tuple es)] (L2.start N_sc_Reader_eq [v, u]) H := ⟨hw, ⟨rfl, ⟨u, rfl, he⟩, trivial⟩⟩
      refine s_ret st2 (ev_andV (a := false) (b := true) (ev_isRdT I (ev_var rfl)) fun z => Bool.noConfusion z) fun v2 B2 H2 x2 w2 d2 => ?_
      have e3 := dp_bool d2
      rw [e3]
      exact q B2 H2 x2 w2
theorem ok_law_told {f CP CR CL fq : Addr} {fd fdq : FuncData} (T : Txt K mg AD) (Rd : RdC P w K mg base CP CR) (Er_NoPart : ErrC P w K mg base "NoPart" CP "path") (nn : PySem.W.exmOne K (.ref CP) (.ref CP) = some true) (cE : ExcC K CP) (gL : mg "LimitError" = some (.ref CL)) (nL : PySem.W.kitOne K (.ref CP) (.ref CL) = some true) (Rq : RdE P w K mg base CR fq fdq)
    (a : At K mg "_law_told" s_law_told ["part"] f fd) : FnOk P w K mg base CX0 28 f fd ["part"] (SpR K R_told) := by
  obtain ⟨RdG, cl, nP, fR, fdR, RdM, RdF, RdB⟩ := Rd
  obtain ⟨eqs, eqf, eqF, eqB, eqn⟩ := Rq
  refine ok_fn a.fn sc_law_told (by rintro ds d ⟨t, _, rfl, _⟩; rfl) fun cdv A outer s H0 E hr ds d ⟨t, hn, e1, e2⟩ => ?_
  subst e1 e2
  refine ⟨_, (pss_cons (ps_try_all (i := 2) rfl rfl sc_law_told.nd rfl rfl takes0 (fun W pn xe tk _ => (pss_one (ps_set (i := 1) sc_law_told.nd rfl (Or.inl rfl) (pe_make RdM RdF (hr.mono (by omega)) (by rfl) RdG RdB .nil (passN (m := 3) tk (by rfl)) (pa_cons (pv 0) pa_nil))))) (Clauses.more ⟨by rfl, by decide, .inl Er_NoPart.g⟩ (fun a oe cls d pn hz hf => (pss_one (ps_ret (pe_tup (pa_cons pe_str (pa_cons (pe_xf Er_NoPart.X Er_NoPart.no hz hf (pv 2)) (pa_cons (pe_callB (call_isX cE hz hf) (by rfl) T.b_isinstance (by decide +kernel) (pa_cons (pv 2) (pa_cons (pe_glob (v := .ref CL) (by rfl) gL rfl) pa_nil))) pa_nil))))))) Clauses.none))
    (pss_one (ps_ret (pe_tup (pa_cons pe_str (pa_cons (pe_cmpR (op_eqDK K hr.units) (pe_fldK K (pv 1) rfl) (pv 0) (nomark _)) (pa_cons (pe_and (pe_cmpR (op_cmpOwn (op := .Eq) (fun _ _ => rfl) eqs eqf eqF eqB (hr.mono (by omega)) pass0) (pv 1) (pe_make RdM RdF (hr.mono (by omega)) (by rfl) RdG RdB .nil passL (pa_cons (pv 0) pa_nil)) (nomark _)) (pe_one (pe_not (pe_cmpR (op_cmpOwnT (op := .Eq) (fun _ _ => rfl) eqs eqf eqF eqB (hr.mono (by omega)) pass0 eqn) (pv 1) (pv 0) (nomark _))))) pa_nil))))))), fun B O σ H Q st q => ?_⟩
  unfold toldD at q
  refine s_makeRd st (ev_var rfl) hn (fun he v B2 H2 x2 hrd st => ?_) (fun p he pp v2 B2 H2 x2 w2 hp hv σ' hσ => ⟨true, nn, fun _ a ha => ?_, fun z => Bool.noConfusion z⟩)
  · rw [he] at q
    obtain ⟨hok, _⟩ := isPart_ok he
    have hl : Lay 24 t := okB_lay hok
    have sh := hl.sh (by decide)
    obtain ⟨wd, fs, et⟩ := (PD.form_of (PD.ok_succ hok).1).head
    have hself : PyData.eqv t t = true := PySem.SeqAt.eqv_refl t hl.1
    have r0 : ∀ {O' : Hp}, EvP K B2 O' [.dat t, .val v, .un] (tVar 1) (IsRd K CR t) := fun {O'} => evP_var rfl fun B3 e3 => hrd.ex e3
    refine s_ret st (ev_tup (ea_cons ev_str (ea_cons (ev_is (ev_op (ev_partRd cl nP r0) (ev_var rfl) (rd_eq sh sh hself)) rfl) (ea_cons (ev_is (ev_andV (a := true) (b := true) (ev_is (ev_eqRd r0 (evp_makeRd (ev_var rfl) hn he) sh sh) (by rw [hself])) fun _ => ev_is (ev_notV (ev_eqRdT (es := .str wd :: fs) r0 (ev_is (ev_var rfl) et))) rfl) rfl) ea_nil))) (by simp)) fun v3 B3 H3 x3 w3 d3 => q v3 B3 H3 (x2.trans x3) w3 d3
  · rw [he] at q
    have st2 : Sta K B2 O [.un, .un, .val (.ref a)] (σ'.set 2 (some (.ref a))) H2 := ⟨w2, slots_three hσ⟩
    exact s_ret st2 (ev_tup (ea_cons ev_str (ea_cons (ev_xfD (i := 2) rfl hp hv) (ea_cons (ev_isX (c := .ref CL) (cv := .ref CL) rfl hp (fun u h => h) nL) ea_nil))) (by simp)) fun v3 B3 H3 x3 w3 d3 => q v3 B3 H3 (x2.trans x3) w3 d3
end
end Toy

set_option Elab.async false
set_option linter.all false
set_option maxRecDepth 100000
set_option maxHeartbeats 4000000
namespace Toy
open PySem PySem.Spec PyProof.Rows L2 StX DL PT G


section
variable {K : PySem.W.Frag} {B B' O : Hp} {G : List SD} {te ta tb tc : TE} {t : TA} {i : Nat} {p : Addr} {n : Int} {E : XK} {σ : L2.St} {H : Hp} {x y : PyData} {D : Ends} {tz ts : TS}
/-- _law_part(pool, [n], 0, 0, False) -/
theorem ex_part0 {p : Addr} {n : Int} {E : XK} (hg : G[i]? = some (.val (.ref p))) (hp : PoolAt O p) : EvX K B O G (tCall (SpX K (PreP 7)) [] E (tCons (tVar i) (tCons (tLst (tCons (tC (.int n)) tNil)) (tCons (tC (.int 0)) (tCons (tC (.int 0)) (tCons (tC (.bl false)) tNil)))))) (fun d O' => ∃ t, Toy.G.ok 7 t ∧ d = enc t ∧ Mv p O O') := fun B1 σ H e s Q q => by
  obtain ⟨sv, h1, h2⟩ := s.s.get hg
  have h3 : sv = some (.ref p) := h2
  subst h3
  refine ⟨_, h1, (by show 1 ≤ sizeLine; decide), fun r hr => ?_⟩
  have or_ : O r = none := s.w.fo hr
  have rp : r ≠ p := by
    obtain ⟨_, _, ep, _⟩ := hp
    intro z
    subst z
    rw [or_] at ep
    cases ep
  have w2 := s.w.newO (u := .lst [V.int n]) hr
  have hp2 : PoolAt (upd O r (.lst [V.int n])) p := by
    obtain ⟨x, y, ep, hy⟩ := hp
    exact ⟨x, y, by rw [upd_ne rp.symm]; exact ep, hy⟩
  refine ⟨B1, upd O r (.lst [V.int n]), [.val (.ref p), .val (.ref r), .dat (.int (7 - ((7 : Nat) : Int))), .dat (.int 0), .dat (.bool false)], _, w2, ⟨rfl, rfl, ⟨_, rfl, .int 0⟩, ⟨_, rfl, .int 0⟩, ⟨_, rfl, .bl false⟩, trivial⟩, ⟨p, r, 0, false, by decide, rfl, hp2, ⟨n, upd_same⟩, rfl⟩, fun v d B' O' H' e' hR w' dv => ?_⟩
  obtain ⟨t, ht, ed, m⟩ := hR
  refine q v d B' (Toy.G.del O' r) H' e' ⟨t, ht, ed, ?_, fun a ha => ?_⟩ (Toy.G.W.sub w' Toy.G.del_ex) dv
  · obtain ⟨x, y, ep, hy⟩ := m.pool
    exact ⟨x, y, by rw [Toy.G.del_ne rp.symm]; exact ep, hy⟩
  · by_cases har : a = r
    · subst har
      rw [Toy.G.del_same, or_]
    · rw [Toy.G.del_ne har, m.fr a ha har, upd_ne har]
theorem q_pool {σ : L2.St} {H : Hp} {D : Ends} {tz : TS} {j m : Nat} {a : Addr} {ns : List Int} {k : Int} {E : XK} (s : Sta K B O G σ H) (hg : G[i]? = some (.val (.ref a))) (hs : SqL K B a (ns.map V.int)) (hl : ns.length ≤ 63) (hk : EvD K B O G (tVar j) (.int k)) (h0 : 0 ≤ k) (h1 : k ≤ 63)
    (q : ∀ p O' B' H', Ex B B' → O p = none → PoolAt O' p → (∀ x, x ≠ p → O' x = O x) → Sta K B' O' (G.set m (.val (.ref p))) (σ.set m (some (.ref p))) H' → tz D (σ.set m (some (.ref p))) H') : tSeq (tAsg (tCall (SpPool K) [] E (tCons (tVar i) (tCons (tVar j) tNil))) (gName m)) tz D σ H := by
  obtain ⟨sv, g1, g2⟩ := s.s.get hg
  have h3 : sv = some (.ref a) := g2
  subst h3
  refine ⟨_, g1, ?_⟩
  refine hk B O σ H (Ex.refl _) (Ex.refl _) s _ fun v B2 H2 e2 w2 d2 => ?_
  rw [dp_int d2]
  refine ⟨B2, O, a, ns, k, w2, rfl, sl_ex e2 hs, hl, h0, h1, fun p x y B' H' e' hp hy0 hy1 w' => ?_⟩
  exact q p _ B' H' (e2.trans e') hp ⟨x, y, upd_same, hy0, hy1⟩ (fun z hz => upd_ne hz) ⟨w', (s.s.ex (e2.trans e')).set m rfl⟩

theorem ex_callR {R : List PyData → PyData → Prop} {T : List PyData → Hp → Prop} {R2 : PyData → Hp → Prop} (h : EvXs K B O G t T) (hr : ∀ ds O', T ds O' → ∃ d, R ds d ∧ R2 d O') : EvX K B O G (tCall (SpR K R) [] E t) R2 := fun B1 σ H e s Q q =>
  h B1 σ H e s _ fun vs ds B2 O2 H2 e2 r w2 d2 => by
    obtain ⟨d, h1, h2⟩ := hr ds O2 r
    exact ⟨B2, O2, ds, d, w2, by rw [List.append_nil]; exact d2, h1, fun v B3 H3 e3 w3 d3 => q v d B3 O2 H3 (e2.trans e3) h2 w3 d3⟩
theorem sx_asg {j : Nat} {R : PyData → Hp → Prop} (s : Sta K B O G σ H) (h : EvX K B O G te R) (k : ∀ v d B' O' H', Ex B B' → R d O' → Dt K B' v d → Sta K B' O' (G.set j (.dat d)) (σ.set j (some v)) H' → D.nx (σ.set j (some v)) H') : tAsg te (gName j) D σ H :=
  h B σ H (Ex.refl _) s _ fun v d B' O' H' e r w dv => k v d B' O' H' e r dv (Sta.set ⟨w, s.s.ex e⟩ j dv)
theorem exs_imp {T T1 : List PyData → Hp → Prop} (h : EvXs K B O G t T) (k : ∀ ds O', T ds O' → T1 ds O') : EvXs K B O G t T1 := fun B1 σ H e s Q q => h B1 σ H e s Q fun vs ds B' O' H' e' r' w' dv => q vs ds B' O' H' e' (k ds O' r') w' dv
theorem qx_unpack {js : List Nat} {R : PyData → Hp → Prop} {S : List PyData → Hp → Prop} (s : Sta K B O G σ H) (h : EvX K B O G te R) (hR : ∀ d O', R d O' → ∃ ds, d = .tuple ds ∧ js.length = ds.length ∧ S ds O') (k : ∀ ds σ' B' O' H', Ex B B' → S ds O' → Sta K B' O' (setAll G js ds) σ' H' → tz D σ' H') : tSeq (tAsg te (gTup K js.length (gNames js))) tz D σ H :=
  h B σ H (Ex.refl _) s _ fun v d B' O' H' e r w dv => by
    obtain ⟨ds, rfl, hl, hS⟩ := hR d O' r
    obtain ⟨p, xs, rfl, h1, h2⟩ := dp_tup dv
    exact ⟨p, xs, rfl, st_ex w.b h1, (dps_len h2).trans hl.symm, names_ok h2 hl ⟨w, s.s.ex e⟩ fun σ' s' => k ds σ' B' O' H' e hS s'⟩
end
theorem W_lessN {B O H : Hp} (w : W B O H) : W B (fun _ => none) H := Toy.G.W.sub w (fun _ _ e => nomatch e)
theorem lay_told {t : PyData} : Lay 3 (toldD t) := by
  unfold toldD
  split
  · refine lay_tup fun d hd => ?_
    simp at hd
    rcases hd with rfl | rfl | rfl
    · exact lay_word (by decide +kernel)
    · exact (lay_tup (n := 0) fun d hd => by
        obtain ⟨i, _, rfl⟩ := List.mem_map.mp hd
        exact lay_int).mono (by decide)
    · exact ⟨rfl, Nat.zero_le _⟩
  · refine lay_tup fun d hd => ?_
    simp at hd
    rcases hd with rfl | rfl
    · exact lay_word (by decide +kernel)
    · exact ⟨rfl, Nat.zero_le _⟩
theorem parts_enc {t : Part} (h : G.ok0 t) : PD.partsOf (enc t) = (kids t).map enc := by
  cases t with
  | leaf w fs =>
    have h1 : isLeafW w = true := h.1
    simp only [isLeafW, Bool.or_eq_true] at h1
    refine leaf_parts ?_
    rcases h1 with (e | e) | e
    · exact .inl (eq_of_beq e)
    · exact .inr (.inl (eq_of_beq e))
    · exact .inr (.inr (eq_of_beq e))
  | row ps =>
    rw [enc_eq]
    exact PD.parts_row
  | choice m os =>
    rw [enc_eq]
    show PD.partsOf (.tuple [.str "choice", m, .tuple (os.map fun o => .tuple [.int o.1, enc o.2])]) = (os.map (·.2)).map enc
    rw [PD.parts_choice, List.map_map, List.map_map]
    rfl
  | one w fs p =>
    have h1 : isOneW w = true := h.1
    rw [enc_eq]
    show PD.partsOf (.tuple (.str w :: (fs ++ [enc p]))) = [enc p]
    have hh : PD.HOLDERS.any (w == ·) = true := by
      simp only [isOneW, Bool.or_eq_true] at h1
      rcases h1 with (((e | e) | e) | e) | e <;> (rw [eq_of_beq e]; decide)
    rw [PD.parts_one hh]
    simp
def c3 : Nat → Nat
  | 0 => 1
  | h + 1 => 1 + 3 * c3 h
theorem c3_pos : ∀ h, 1 ≤ c3 h
  | 0 => Nat.le_refl _
  | h + 1 => Nat.le_add_right _ _
theorem np_enc : ∀ {j h : Nat} {t : Part}, G.ok h t → PD.npart j (enc t) ≤ c3 h
  | 0, h, _, _ => c3_pos h
  | j + 1, 0, _, o => o.elim
  | j + 1, h + 1, t, o => by
    show 1 + ((PD.partsOf (enc t)).map (PD.npart j)).sum ≤ 1 + 3 * c3 h
    rw [parts_enc o.1]
    have hl : (kids t).length ≤ 3 := by
      cases t with
      | leaf => exact Nat.zero_le _
      | row ps => exact o.1
      | choice m os => show (os.map (·.2)).length ≤ 3; rw [List.length_map]; exact o.1.2.2
      | one => exact (by decide : 1 ≤ 3)
    have key : ∀ l : List Part, (∀ c, c ∈ l → G.ok h c) → ((l.map enc).map (PD.npart j)).sum ≤ l.length * c3 h := fun l => by
      induction l with
      | nil => intro _; exact Nat.zero_le _
      | cons x l ih =>
        intro hx
        have h1 := np_enc (j := j) (hx x (.head _))
        have h2 := ih fun c hc => hx c (.tail _ hc)
        rw [List.map_cons, List.map_cons, List.sum_cons, List.length_cons, Nat.succ_mul]
        omega
    have h1 := key (kids t) o.2
    have h2 : (kids t).length * c3 h ≤ 3 * c3 h := Nat.mul_le_mul_right _ hl
    omega
def things : List PyData := [.none, .int 0, .str "", .list [], .tuple [], .dict [], .tuple [.str "fill"], .tuple [.tuple [.str "fill", .tuple []]]]
theorem things_np : ∀ t, t ∈ things → PD.npart 8 t ≤ 50000 := by decide +kernel
theorem things_no : things.filter PD.isPart = [] := by decide +kernel
def spLaw (K : PySem.W.Frag) : Sp := fun vs H Q _ => ∃ (a : Addr) (ns : List Int), vs = [.ref a] ∧ SqL K H a (ns.map V.int) ∧ ns.length ≤ 63 ∧ ∀ H', Q (.bl true) H'
theorem clampN (N : Nat) (hN : 1 ≤ N) (n : Nat) : ∃ m : Nat, m ≤ N ∧ (if (if (N : Int) < (n : Int) then (N : Int) else (n : Int)) > 1 then (if (N : Int) < (n : Int) then (N : Int) else (n : Int)) else 1) = (m : Int) := by
  by_cases h : (N : Int) < (n : Int)
  · rw [if_pos h]
    by_cases h2 : (N : Int) > 1
    · rw [if_pos h2]
      exact ⟨N, by omega, rfl⟩
    · rw [if_neg h2]
      exact ⟨1, by omega, rfl⟩
  · rw [if_neg h]
    by_cases h2 : (n : Int) > 1
    · rw [if_pos h2]
      exact ⟨n, by omega, rfl⟩
    · rw [if_neg h2]
      exact ⟨1, by omega, rfl⟩
section
variable {P : Program} {w : World} {K : PySem.W.Frag} {mg : Str → Option Value} {base : Heap} {AD : Ads}

theorem ok_law {fl : Addr} {fdl : FuncData} (T : Txt K mg AD) (F : Fun K "law" "law" s_law fl fdl) (C_law_pool : Cal P w K mg base 2 "_law_pool" ["script", "k"] (SpPool K)) (C_law_draw : Cal P w K mg base 2 "_law_draw" ["pool", "count"] (SpX K PreDraw)) (C_law_part : CalPart P w K mg base 7) (C_law_where : Cal P w K mg base 22 "_law_where" ["part"] (SpR K R_where)) (C_is_part : Cal P w K mg base 15 "is_part" ["thing"] (SpR K R_isp))
    (C_law_told : Cal P w K mg base 28 "_law_told" ["part"] (SpR K R_told)) (C_law_paths : Cal P w K mg base 11 "_law_paths" ["part"] (SpR K (R_paths 8))) (C_law_changed : Cal P w K mg base 11 "_law_changed" ["part", "path", "other"] (SpR K (R_rep 8))) (C_law_odd : Cal P w K mg base 4 "_law_odd" ["pool", "part"] (SpX K PreOdd)) : FnOk P w K mg base CX0 32 fl fdl ["script"] (spLaw K) := by
  refine F.ok (k := 31) sc_law (fun vs H Q E h => ?_) (fun cdv A outer s H vs Q E hr h => ?_)
  · obtain ⟨a, ns, rfl, _⟩ := h
    rfl
  obtain ⟨a, ns, rfl, hs, hlen, q⟩ := h
  refine ⟨_, (pss_cons (ps_for PassesOwn.never rfl (pi_range1 (by rfl) T.b_range (pa_cons (pe_callB (call_max2 rfl) (by rfl) T.b_max (by decide +kernel) (pa_cons pe_int (pa_cons (pe_callB (call_min2 rfl) (by rfl) T.b_min (by decide +kernel) (pa_cons (pe_callB (call_lenK K) (by rfl) T.b_len PySem.boot_len (pa_cons (pv 0) pa_nil)) (pa_cons pe_int pa_nil))) pa_nil))) pa_nil)) (pg_name (i := 1) sc_law.nd rfl (Or.inl rfl)) (pss_cons (ps_set (i := 2) sc_law.nd rfl (Or.inl rfl) (pe_cal C_law_pool hr (by omega) (by rfl) (pa_cons (pv 0) (pa_cons (pv 1) pa_nil))))
    (pss_cons (ps_set (i := 3) sc_law.nd rfl (Or.inl rfl) (pe_cal C_law_part hr (by omega) (by rfl) (pa_cons (pv 2) (pa_cons (pe_lst (pa_cons pe_int pa_nil)) (pa_cons pe_int (pa_cons pe_int (pa_cons pe_bl pa_nil)))))))
    (pss_one (ps_for PassesOwn.never rfl (pi_range1 (by rfl) T.b_range (pa_cons pe_int pa_nil)) (pg_name (i := 4) sc_law.nd rfl (Or.inl rfl)) (pss_cons (ps_set (i := 5) sc_law.nd rfl (Or.inl rfl) (pe_cal C_law_where hr (by omega) (by rfl) (pa_cons (pv 3) pa_nil)))
    (pss_cons (ps_set (i := 6) sc_law.nd rfl (Or.inl rfl) (pe_ifExp (pt_cmpR op_isN (pv 5) pe_non (nomark _)) (pe_tup (pa_cons pe_str (pa_cons pe_bl (pa_cons pe_bl pa_nil)))) (pe_tup (pa_cons pe_str (pa_cons (pv 5) (pa_cons pe_bl pa_nil))))))
    (pss_cons (ps_if (PW.pt (pw_or (pt_cmpR op_ne (pe_cal C_is_part hr (by omega) (by rfl) (pa_cons (pv 3) pa_nil)) (pe_cmpR op_isN (pv 5) pe_non (nomark _)) (nomark _)) (pw_or1 (pt_cmpR (op_neDK K hr.units) (pe_cal C_law_told hr (by omega) (by rfl) (pa_cons (pv 3) pa_nil)) (pv 6) (nomark _))))) (pss_one (ps_ret pe_bl)) pss_nil)
    (pss_one (ps_if (pt_cmpR op_isN (pv 5) pe_non (nomark _)) (pss_cons (ps_set (i := 7) sc_law.nd rfl (Or.inl rfl) (pe_cal C_law_paths hr (by omega) (by rfl) (pa_cons (pv 3) pa_nil)))
    (pss_cons (ps_asg (pe_ix (ix_listK K) (pv 7) (pe_cal C_law_draw hr (by omega) (by rfl) (pa_cons (pv 2) (pa_cons (pe_callB (call_lenK K) (by rfl) T.b_len PySem.boot_len (pa_cons (pv 7) pa_nil)) pa_nil))) (fun _ _ => rfl)) (pg_tupK K (n := 2) (by rfl) (pgs_cons (pg_name (i := 8) sc_law.nd rfl (Or.inl rfl)) (pgs_cons (pg_name (i := 9) sc_law.nd rfl (Or.inl rfl)) pgs_nil))))
    (pss_one (ps_set (i := 3) sc_law.nd rfl (Or.inl rfl) (pe_cal C_law_changed hr (by omega) (by rfl) (pa_cons (pv 3) (pa_cons (pv 8) (pa_cons (pe_cal C_law_odd hr (by omega) (by rfl) (pa_cons (pv 2) (pa_cons (pv 9) pa_nil))) pa_nil)))))))) pss_nil))))))))))
    (pss_one (ps_ret (pe_cmpR (op_eqDK K hr.units) (pe_lc (own := [("thing", 10)]) (by rfl) sc_law.nd (pi_listK K (pe_lst (pa_cons pe_non (pa_cons pe_int (pa_cons pe_str (pa_cons (pe_lst pa_nil) (pa_cons (pe_tup pa_nil) (pa_cons pe_dnewK (pa_cons (pe_tup (pa_cons pe_str pa_nil)) (pa_cons (pe_tup (pa_cons (pe_tup (pa_cons pe_str (pa_cons (pe_tup pa_nil) pa_nil))) pa_nil)) pa_nil)))))))))) (blkOk_by (own := [("thing", 10)]) (N := N_sc_law) (sc := defScope s_law) (by decide +kernel)) (fun _ _ _ _ _ => (pg_name (i := 10) sc_law.nd rfl (Or.inl rfl))) (fun _ _ _ _ _ => (pts_one (pt_val (pe_cal C_is_part hr (by omega) (by rfl) (pa_cons (pv 10) pa_nil))))) (fun _ _ _ _ _ => (pv 10))) (pe_lst pa_nil) (nomark _))))), ?_⟩
  have st : Sta K H (fun _ => none) [.val (.ref a), .un, .un, .un, .un, .un, .un, .un, .un, .un, .un] (L2.start N_sc_law [.ref a]) H := ⟨⟨Ex.refl _, (fun _ _ e => nomatch e), fun _ => .inr rfl⟩, ⟨rfl, trivial, trivial, trivial, trivial, trivial, trivial, trivial, trivial, trivial, trivial, trivial⟩⟩
  obtain ⟨m, hm, em⟩ := clampN 20 (by omega) ns.length
  have eI : EvI K H (fun _ => none) [.val (.ref a), .un, .un, .un, .un, .un, .un, .un, .un, .un, .un] (iRng1 (tCons (tCB (fun xs H Q => ∃ i j, xs = [V.int i, V.int j] ∧ Q (V.int (if j > i then j else i)) H) (tCons (tC (.int 1)) (tCons (tCB (fun xs H Q => ∃ i j, xs = [V.int i, V.int j] ∧ Q (V.int (if j < i then j else i)) H) (tCons (tCB (fun xs H Q => ∃ p ys, xs = [V.ref p] ∧ (SqL K H p ys ∨ SqT K H p ys) ∧ Q (.int ys.length) H) (tCons (tVar 0) tNil)) (tCons (tC (.int 20)) tNil))) tNil))) tNil)) (rangeD 0 m) := by
    have h0 := ei_range1 (K := K) (B := H) (O := fun _ => none) (G := [.val (.ref a), .un, .un, .un, .un, .un, .un, .un, .un, .un, .un]) (ea_cons (ev_cb (ea_cons ev_int (ea_cons (ev_cb (ea_cons (ev_lenS (i := 0) rfl hs) (ea_cons (ev_int (i := ((20 : Nat) : Int))) ea_nil)) rc_min2) ea_nil)) (rc_max2 (i := 1))) ea_nil) (by rw [List.length_map, em]; omega)
    rw [List.length_map, em, Int.toNat_natCast] at h0
    exact h0
  refine q_for st eI (fun i B' O' G' => O' = (fun _ => none) ∧ ∃ x1 x2 x3 x4 x5 x6 x7 x8 x9 xa : SD, G' = [.val (.ref a), x1, x2, x3, x4, x5, x6, x7, x8, x9, xa]) (fun i B1 B2 O1 G1 e x => x) ⟨rfl, _, _, _, _, _, _, _, _, _, _, rfl⟩ ?_ ?_
  · rintro i e B1 O1 G1 σ1 H1 v hie x1 ⟨rfl, y1, y2, y3, y4, y5, y6, y7, y8, y9, ya, rfl⟩ st dv N hN
    obtain ⟨hi, rfl⟩ := range_inv hie
    refine eg_name B1 _ σ1 H1 v st dv _ fun σ2 st _ => ?_
    refine q_pool st rfl (sl_ex x1 hs) hlen (ev_var rfl) (by omega) (by omega) fun p O2 B2 H2 x2 np hp hfr2 st => ?_
    refine qx_asg st (ex_part0 rfl hp) fun v3 d3 B3 O3 H3 x3 ⟨t0, ht0, e3, m3⟩ dv3 st => ?_
    subst e3
    refine sx_for st (T := fun es O' => es = rangeD 0 3 ∧ O' = O3) (eix_range (exs_cons (R := fun d O' => d = .int 3 ∧ O' = O3) (S := fun _ O' ds O'' => ds = [] ∧ O'' = O') (ex_pure ev_int) (fun d B'' O'' _ _ => exs_nil) fun d O' ds O'' e1 e2 => by
      obtain ⟨rfl, rfl⟩ := e1
      obtain ⟨rfl, rfl⟩ := e2
      exact ⟨3, rfl, by decide, rfl, rfl⟩)) (fun es i' B' O' G' => es = rangeD 0 3 ∧ PoolAt O' p ∧ ∃ (t : PyData) (g4 g5 g6 g7 g8 g9 ga : SD), Mild 8 t ∧ PD.npart 8 t ≤ 45000 ∧ G' = [.val (.ref a), .dat (.int (0 + (i : Int))), .val (.ref p), .dat t, g4, g5, g6, g7, g8, g9, ga])
      (fun es i B1 B2 O1 G1 e x => x) (fun es O' B' e ⟨h1, h2⟩ => ⟨h1, by rw [h2]; exact m3.pool, enc t0, _, _, _, _, _, _, _, lay_mild (by decide) (PT.lay_enc (ok_pt ht0)), Nat.le_trans (np_enc ht0) (by decide), rfl⟩) ?_ ?_
    · rintro es i' e' B4 O4 G4 σ4 H4 v4 hie' x4 ⟨rfl, hp4, t, g4, g5, g6, g7, g8, g9, ga, hmild, hnp, rfl⟩ st dv4 N' hN'
      refine eg_name B4 _ σ4 H4 v4 st dv4 _ fun σ5 st _ => ?_
      refine q_asg st (d := encW (PD.partErr t)) (ev_call (ea_cons (ev_var rfl) ea_nil) ⟨t, hmild, rfl, rfl⟩) fun v5 B5 H5 x5 d5 st => ?_
      have einone : ∀ {B O : Hp} {G : List SD}, G[5]? = some (.dat (encW (PD.partErr t))) → EvD K B O G (tOp (fun x y H Q => y = .non ∧ Q (.bl (decide (x = .non))) H) (tVar 5) (tC .non)) (.bool (PD.partErr t).isNone) := fun {B O G} hg => by
        cases he : PD.partErr t with
        | none => rw [he] at hg; exact ev_isNone (ev_var hg) ev_non rfl
        | some p => rw [he] at hg; exact ev_isNone (ev_var hg) ev_non rfl
      refine q_asg st (d := toldD t) (ev_if (b := (PD.partErr t).isNone) (et_test (einone rfl)) (fun hb => ?_) (fun hb => ?_)) fun v6 B6 H6 x6 d6 st => ?_
      · have he : PD.partErr t = none := by simpa using hb
        exact ev_is (ev_tup (ea_cons ev_str (ea_cons ev_bl (ea_cons ev_bl ea_nil))) (by simp)) (by unfold toldD; rw [he])
      · obtain ⟨pp, he⟩ : ∃ pp, PD.partErr t = some pp := by
          cases h9 : PD.partErr t with
          | none => rw [h9] at hb; cases hb
          | some pp => exact ⟨pp, rfl⟩
        exact ev_is (ev_tup (ea_cons ev_str (ea_cons (ev_is (ev_var rfl) (show encW (PD.partErr t) = PD.encP pp by rw [he]; rfl)) (ea_cons ev_bl ea_nil))) (by simp)) (by unfold toldD; rw [he])
      refine q_whenF st (et_is (et_or (a := false) (b := false) (et_is (et_test (ev_op (ev_call (ea_cons (ev_var rfl) ea_nil) ⟨t, by omega, rfl, rfl⟩) (einone rfl) (rd_neS rfl rfl (by cases PD.isPart t <;> cases (PD.partErr t).isNone <;> rfl) rfl))) (by rw [PD.isPart_err]; simp)) fun _ => et_is (et_test (ev_op (ev_call (ea_cons (ev_var rfl) ea_nil) ⟨t, by omega, rfl, rfl⟩) (ev_var rfl) (rd_ne (lay_told.sh (by decide)) (lay_told.sh (by decide)) rfl))) (by rw [PySem.SeqAt.eqv_refl _ lay_told.1]; rfl)) rfl) fun B7 H7 x7 st => ?_
      refine s_if st (et_test (einone rfl)) (fun hb B8 H8 x8 st => ?_) (fun hb B8 H8 x8 st => ?_)
      · have he : PD.partErr t = none := by simpa using hb
        obtain ⟨hok, hn60⟩ := isPart_ok he
        have hlen8 := PD.subs_len (h := 8) (d := t)
        refine q_asg st (d := .list ((PD.subsD 8 t).map PD.encQ)) (ev_call (ea_cons (ev_var rfl) ea_nil) ⟨t, hok, by omega, rfl, rfl⟩) fun v9 B9 H9 x9 d9 st => ?_
        refine qx_unpack (js := [8, 9]) (S := fun ds O' => ∃ qq, qq ∈ PD.subsD 8 t ∧ ds = [PD.encP qq.1, qq.2] ∧ Mv p O4 O') st (ex_op (ex_pure (ev_var rfl)) (R2' := fun _ O' d2 O'' => ∃ z : Int, d2 = .int z ∧ 0 ≤ z ∧ z < ((PD.subsD 8 t).length : Int) ∧ Mv p O' O'') (fun d1 B' O' _ e => by
          obtain ⟨_, rfl⟩ := e
          exact ex_drawE rfl hp4 (ev_is (ev_cb (ea_cons (ev_var rfl) ea_nil) rc_lenL) (congrArg PyData.int (by rw [List.length_map]))) (by have := PD.npart_pos (h := 8) (d := t); omega) (by omega)) (R3 := fun d O' => ∃ qq, qq ∈ PD.subsD 8 t ∧ d = PD.encQ qq ∧ Mv p O4 O') fun d1 O' d2 O'' e1 e2 => by
          obtain ⟨rfl, rfl⟩ := e1
          obtain ⟨z, rfl, z0, z1, m⟩ := e2
          obtain ⟨d, hd, ha⟩ := at_some (ds := (PD.subsD 8 t).map PD.encQ) z0 (by rw [List.length_map]; exact z1)
          obtain ⟨qq, hq, rfl⟩ := List.mem_map.mp hd
          exact ⟨_, rd_ixL ha, qq, hq, rfl, m⟩) (fun d O' ⟨qq, hq, e, m⟩ => ⟨[PD.encP qq.1, qq.2], e, rfl, qq, hq, rfl, m⟩) fun ds σa Ba Oa Ha xa ⟨qq, hq, eds, ma⟩ st => ?_
        subst eds
        obtain ⟨so, sn⟩ := PD.sub_ok hok hq
        refine sx_asg st (R := fun d O' => ∃ o, Nice o ∧ d = repD qq.1 t o ∧ PoolAt O' p) (ex_callR (T := fun ds O' => ∃ o, Nice o ∧ ds = [t, PD.encP qq.1, o] ∧ PoolAt O' p) (exs_imp (exs_cP (ev_var rfl) (exs_cP (ev_var rfl) (exs_cons (T := fun ds O' => ∃ o, Nice o ∧ ds = [o] ∧ PoolAt O' p) (S := fun _ O' es O'' => es = [] ∧ O'' = O') (ex_call (as_val (evV_var rfl) (as_dat (ev_var rfl) as_nil)) fun B' _ => ⟨p, qq.2, rfl, ma.pool, so, Nat.le_trans sn hn60, rfl⟩) (fun d B' O' e r => exs_nil) (fun d O' ds O'' r1 r2 => by
          obtain ⟨rfl, rfl⟩ := r2
          exact ⟨d, r1.1, rfl, r1.2.pool⟩)))) fun ds O' ⟨ds1, e1, ds2, e2, o, ho, e3, hpo⟩ => ⟨o, ho, by rw [e1, e2, e3], hpo⟩) fun ds O' ⟨o, ho, e, hpo⟩ => ⟨repD qq.1 t o, ⟨t, qq.1, o, qq.2, hok, hq, e, rfl⟩, o, ho, rfl, hpo⟩) fun vb db Bb Ob Hb xb ⟨o, ho, ed, hpb⟩ dvb st => ?_
        subst ed
        have n1 := npart_rep (o := o) hok hq
        have n2 := ho.2
        exact hN' Bb _ _ _ _ ((((x5.trans x6).trans x7).trans x8).trans ((x9.trans xa).trans xb)) ⟨rfl, hpb, repD qq.1 t o, _, _, _, _, _, _, _, mild_rep hok hq ho.mild, by omega, rfl⟩ st
      · exact hN' B8 _ _ _ _ (((x5.trans x6).trans x7).trans x8) ⟨rfl, hp4, t, _, _, _, _, _, _, _, hmild, hnp, rfl⟩ st
    · rintro es B4 O4 G4 σ4 H4 x4 ⟨rfl, hp4, t, g4, g5, g6, g7, g8, g9, ga, hmild, hnp, rfl⟩ st
      exact hN B4 _ _ _ _ ((x2.trans x3).trans x4) ⟨rfl, _, _, _, _, _, _, _, _, _, _, rfl⟩ ⟨W_lessN st.w, st.s⟩
  · rintro B1 O1 G1 σ1 H1 x1 ⟨rfl, y1, y2, y3, y4, y5, y6, y7, y8, y9, ya, rfl⟩ st
    refine s_ret st (ev_is (ev_op (ev_is (ev_lcT things id PD.isPart id (fun s => [.val (.ref a), y1, y2, y3, y4, y5, y6, y7, y8, y9, .dat s]) (ei_list (ev_is (ev_lst (ea_cons ev_non (ea_cons ev_int (ea_cons ev_str (ea_cons (ev_lst ea_nil (by simp)) (ea_cons (ev_tup ea_nil (by simp)) (ea_cons ev_dict0 (ea_cons (ev_tup (ea_cons ev_str ea_nil) (by simp)) (ea_cons (ev_tup (ea_cons (ev_tup (ea_cons ev_str (ea_cons (ev_tup ea_nil (by simp)) ea_nil)) (by simp)) ea_nil) (by simp)) ea_nil)))))))) (by simp)) (congrArg PyData.list (List.map_id things).symm))) (by decide) (fun s _ => eg_nameW (by decide)) (fun s hs => et_test (ev_call (ea_cons (ev_var rfl) ea_nil) ⟨s, things_np s hs, rfl, rfl⟩)) (fun s _ _ => ev_var rfl)) (show PyData.list ((things.filter PD.isPart).map id) = .list [] by rw [things_no]; rfl)) (ev_lst ea_nil (by simp)) (rd_eq (by decide +kernel) (by decide +kernel) rfl)) (show PyData.bool (PyData.eqv (.list []) (.list [])) = .bool true from rfl)) fun v B2 H2 x2 w2 d2 => ?_
    rw [dp_bool d2]
    exact q H2
end
end Toy

set_option Elab.async false
set_option linter.all false
set_option maxRecDepth 100000
/-! The head by one kernel run: what its Hook tells, in the words of the texts here. -/
namespace HX
open PySem PySem.Spec PyProof.Rows L2
/-- the def at f has no defaults -/
def noDfl (K : PySem.W.Frag) (f : Addr) : Bool := match K.lookup f with
  | some ⟨_, _, .func fd, _⟩ => (match fd.defaults with
    | .none => true
    | _ => false)
  | _ => false
theorem fun_of {K : PySem.W.Frag} {x qual : Str} {st : Stmt} {f : Addr} {fd : FuncData} (F : FunD K x qual (defArgs st) (defBody st) (defScope st) [] [] f fd) (h : noDfl K f = true) : Fun K x qual st f fd := by
  obtain ⟨⟨oc, od, dV, kV, doc, pm, an, cdv, ct, osl, rfl, lk, hc, _, _⟩, kp⟩ := F
  have e : dV = .none := by
    unfold noDfl at h
    rw [lk] at h
    cases dV <;> first | rfl | cases h
  subst e
  exact ⟨⟨oc, od, kV, doc, pm, an, cdv, ct, osl, rfl, lk, hc⟩, kp⟩
/-- a tuple of the module with these items -/
def tupB (K : PySem.W.Frag) (a : Addr) (vs : List He.Dv) : Bool := match K.lookup a with
  | some ⟨.type c, _, .seq its _, _⟩ => decide (c = "tuple") && (decide (its.toList.length = vs.length) && (its.toList.zip vs).all fun q => He.relB (q.2.v K) q.1)
  | _ => false
theorem vals_zip {K : PySem.W.Frag} : ∀ {its : List Value} {vs : List He.Dv}, its.length = vs.length → ((its.zip vs).all fun q => He.relB (q.2.v K) q.1) = true → Vals (vs.map (He.Dv.v K)) its
  | [], [], _, _ => .nil
  | i :: its, v :: vs, hl, h => by
    rw [List.zip_cons_cons, List.all_cons, Bool.and_eq_true] at h
    exact .cons (He.relB_ok h.1) (vals_zip (by simpa using hl) h.2)
  | [], _ :: _, hl, _ => by simp at hl
  | _ :: _, [], hl, _ => by simp at hl
theorem tup_ok {K : PySem.W.Frag} {a : Addr} {vs : List He.Dv} (h : tupB K a vs = true) (hz : vs.length ≤ sizeLine) : ∀ H : Hp, SqT K H a (vs.map (He.Dv.v K)) := fun H => by
  unfold tupB at h
  split at h
  · rename_i c dd its n sl q
    rw [Bool.and_eq_true, Bool.and_eq_true, decide_eq_true_eq, decide_eq_true_eq] at h
    obtain ⟨rfl, h2, h3⟩ := h
    refine .inr ⟨_, its, n, q, rfl, rfl, ?_, vals_zip h2 h3⟩
    rw [← Array.length_toList, h2]
    exact hz
  · cases h
/-- the class of an own error over ValueError -/
def oexB (K : PySem.W.Frag) (C : Addr) : Bool := match K.lookup C with
  | some ⟨.type t, _, .cls cd, sl⟩ => decide (t = "type") && ((match cd.mro with
    | .ref C' :: bm => decide (C' = C) && PySem.HandSPX.refsVE bm
    | _ => false) && (cd.hasDict && (!cd.hasDel && ((match sl.toList with
    | [_, _, _, _, some (.builtin n), _] => decide (n = "ValueError.__new__")
    | _ => false) && (decide (PySem.W.findIn K (.ref C) "__setattr__" = some (some (.builtin "object.__setattr__"))) && (decide (PySem.W.subIn K (.ref C) (.type "BaseException") = some true) && (decide (PySem.W.typeIn K (.ref C) = some (.type "type")) && PySem.W.keepIn K (.ref C))))))))
  | _ => false
theorem oex_ok {K : PySem.W.Frag} {C : Addr} (h : oexB K C = true) : OexC K C := by
  unfold oexB at h
  split at h
  · rename_i t dd cd sl q
    obtain ⟨h1, h⟩ := He.ba h
    obtain ⟨h2, h⟩ := He.ba h
    obtain ⟨h3, h⟩ := He.ba h
    obtain ⟨h4, h⟩ := He.ba h
    obtain ⟨h5, h⟩ := He.ba h
    obtain ⟨h6, h⟩ := He.ba h
    obtain ⟨h7, h⟩ := He.ba h
    obtain ⟨h8, h9⟩ := He.ba h
    have e1 := of_decide_eq_true h1
    subst e1
    split at h2
    · rename_i C' bm hm
      obtain ⟨h21, h22⟩ := He.ba h2
      have e2 := of_decide_eq_true h21
      subst e2
      split at h5
      · rename_i k0 k1 k2 k3 n k5 hs
        have e5 := of_decide_eq_true h5
        subst e5
        refine ⟨⟨cd.name, cd.qualname, cd.ns, cd.bases, bm, cd.slotNames, cd.subclasses, cd.abstract, cd.collection, dd, k0, k1, k2, k3, k5, ?_, h22⟩, of_decide_eq_true h6, of_decide_eq_true h7, of_decide_eq_true h8, h9⟩
        have es : sl = #[k0, k1, k2, k3, some (.builtin "ValueError.__new__"), k5] := by
          obtain ⟨l⟩ := sl
          have : l = [k0, k1, k2, k3, some (.builtin "ValueError.__new__"), k5] := hs
          rw [this]
        rw [q, es]
        obtain ⟨nm, bs, mro, ns, qn, hd, sn, sub, ab, col, hdel⟩ := cd
        have hm' : mro = .ref C' :: bm := hm
        have h3' : hd = true := h3
        have h4' : hdel = false := by simpa using h4
        subst hm' h3' h4'
        rfl
      · cases h5
    · cases h2
  · cases h
/-- a dict of the module: its keys -/
theorem dic_ok {K : PySem.W.Frag} {P : Params} {a : Addr} {ks : List Str} (h : He.dicW K a = some (He.keysIn P ks)) : ∃ es n, K.lookup a = some ⟨.type "dict", none, .dict es n, #[]⟩ ∧ es.toList.map He.keyOf = He.keysIn P ks ∧ (a == sysModules) = false := by
  unfold He.dicW at h
  split at h
  · rename_i c es n sl q
    split at h
    · rename_i z
      obtain ⟨z1, z2⟩ := He.ba z
      obtain ⟨z3, z4⟩ := He.ba z2
      have e1 : c = "dict" := of_decide_eq_true z1
      have e2 : sl = #[] := Array.isEmpty_iff.mp z3
      subst e1 e2
      exact ⟨es, n, q, Option.some.inj h, by simpa using z4⟩
    · cases h
  · cases h
/-- an int in a dict of the module -/
def intAt (K : PySem.W.Frag) (a : Addr) (x : Str) (i : Int) : Bool := match PySem.W.nsIn K a x with
  | some (some (.int j _)) => decide (j = i)
  | _ => false
theorem intAt_ok {K : PySem.W.Frag} {a : Addr} {x : Str} {i : Int} (h : intAt K a x i = true) : ∃ t, PySem.W.nsIn K a x = some (some (.int i t)) := by
  unfold intAt at h
  split at h
  · rename_i j t q
    have e := of_decide_eq_true h
    subst e
    exact ⟨t, q⟩
  · cases h
end HX

set_option Elab.async false
set_option linter.all false
set_option maxRecDepth 100000
/-! A Hook that looks at told addresses. -/
namespace HL
open PySem PySem.Spec PyProof.Rows L2
abbrev Al : Type := He.AlT × Bool
def obsL (as : List Addr) (fa : List He.Fa) (fn : List He.DefD) (ts : List He.Tab) (ex : PySem.W.Frag → Bool) (g : Addr → Option Obj) : Al := (He.obsT fa fn ts (He.frG g as), ex (He.frG g as))
def valL (fn : List He.DefD) (ts : List He.Tab) (w : World) : Al := (He.valT fn ts w, true)
structure Says (fa : List He.Fa) (fn : List He.DefD) (ts : List He.Tab) (ex : PySem.W.Frag → Bool) (w : World) (K : PySem.W.Frag) : Prop where
  t : He.SaysT fa fn ts w K
  more : ex K = true
def hookL (as : List Addr) (fa : List He.Fa) (fn : List He.DefD) (ts : List He.Tab) (ex : PySem.W.Frag → Bool) : PySem.W.Hook where
  α := Al
  obs := fun s => obsL as fa fn ts ex s.heap.get?
  val := fun w => valL fn ts w
  says := fun w h => ∃ K : PySem.W.Frag, K.In h ∧ Says fa fn ts ex w K
  of := fun _ _ e => ⟨_, He.frG_in, ⟨congrArg Prod.fst e, congrArg Prod.snd e⟩⟩
  keeps := fun _ _ _ ⟨K, hK, c⟩ k => ⟨K, PySem.W.Frag.In.keeps hK k, c⟩
theorem obsL_eq {as : List Addr} {fa : List He.Fa} {fn : List He.DefD} {ts : List He.Tab} {ex : PySem.W.Frag → Bool} {g : Addr → Option Obj} {s : Shared} (h : ∀ a, g a = s.heap.get? a) : obsL as fa fn ts ex g = (hookL as fa fn ts ex).obs s := by
  have e : g = s.heap.get? := funext h
  rw [e] <;> rfl
end HL

set_option Elab.async false
set_option linter.all false
set_option maxRecDepth 100000
set_option maxHeartbeats 0
namespace Toy
open PySem PySem.Spec PyProof.Rows L2 StX DL

abbrev s_NoPart_init : Stmt := clsS 3 0
abbrev N_sc_NoPart_init : List Str := ["self", "path"]
theorem sc_NoPart_init : FnScope N_sc_NoPart_init ["self", "path"] (defScope s_NoPart_init) := ⟨rfl, rfl, rfl, by decide +kernel, rfl, by decide +kernel, by decide +kernel⟩
theorem kit_own {K : PySem.W.Frag} {t : Value} {C : Addr} {b : Bool} (hc : PySem.W.isClsIn K C = true) (ht : PySem.W.typeIn K (.ref C) = some (.type "type")) (hne : t ≠ .ref C) (h : PySem.W.subIn K t (.ref C) = some b) : PySem.W.kitOne K t (.ref C) = some b := by
  unfold PySem.W.kitOne
  split
  · rename_i e
    exact absurd (eq_of_beq e) hne
  · show (if ((PySem.W.clsIn K C).isSome && PySem.W.typeIn K (.ref C) == some (.type "type")) = true then PySem.W.subIn K t (.ref C) else none) = some b
    rw [show (PySem.W.clsIn K C).isSome = true from hc, ht, h]
    rfl
theorem kit_ownT {K : PySem.W.Frag} {t : Value} {C : Addr} (hc : PySem.W.isClsIn K C = true) (ht : PySem.W.typeIn K (.ref C) = some (.type "type")) (h : PySem.W.subIn K t (.ref C) = some true) : PySem.W.kitOne K t (.ref C) = some true := by
  unfold PySem.W.kitOne
  split
  · rfl
  · show (if ((PySem.W.clsIn K C).isSome && PySem.W.typeIn K (.ref C) == some (.type "type")) = true then PySem.W.subIn K t (.ref C) else none) = some true
    rw [show (PySem.W.clsIn K C).isSome = true from hc, ht, h]
    rfl
theorem ns_missing {P : Params} {K : PySem.W.Frag} {a : Addr} {es : Array DictEntry} {n : Nat} {ks : List Str} {x : Str} (hl : K.lookup a = some ⟨.type "dict", none, .dict es n, #[]⟩) (hk : es.toList.map He.keyOf = He.keysIn P ks) (hx : ∀ k, k ∈ ks → k ≠ x) : PySem.W.nsIn K a x = some none := by
  have key : ∀ (l : List DictEntry) (ks : List Str), l.map He.keyOf = He.keysIn P ks → (∀ k, k ∈ ks → k ≠ x) → l.find? (·.key.isStr x) = none ∧ l.any (·.refKey) = false := fun l => by
    induction l with
    | nil => exact fun _ _ _ => ⟨rfl, rfl⟩
    | cons e r ih =>
      intro ks h hx
      cases ks with
      | nil => cases h
      | cons k ks =>
        have h1 : He.keyOf e :: r.map He.keyOf = some (k, PyData.keyHash P k) :: He.keysIn P ks := h
        injection h1 with h2 h3
        obtain ⟨i1, i2⟩ := ih ks h3 fun k hk => hx k (.tail _ hk)
        have hne := hx k (.head _)
        unfold He.keyOf at h2
        split at h2
        · rename_i y t q
          have h4 : y = k := congrArg Prod.fst (Option.some.inj h2)
          subst h4
          have e1 : e.key.isStr x = false := by
            rw [q]
            exact beq_eq_false_iff_ne.mpr hne
          have e2 : e.refKey = false := by
            unfold DictEntry.refKey
            rw [q]
          rw [List.find?_cons, e1, List.any_cons, e2]
          exact ⟨i1, i2⟩
        · cases h2
  obtain ⟨k1, k2⟩ := key es.toList ks hk hx
  unfold PySem.W.nsIn
  rw [hl]
  dsimp only
  rw [k1]
  dsimp only
  rw [k2]
  rfl
theorem _root_.DL.At.held {P : Program} {w : World} {K : PySem.W.Frag} {mg : Str → Option Value} {base : Heap} {x : Str} {st : Stmt} {ps : List Str} {f : Addr} {fd : FuncData} {k : Nat} {sp : Sp} (a : At K mg x st ps f fd) (h : FnOk P w K mg base CX0 k f fd ps sp) : Held P w K mg base k f sp := ⟨fd, ps, h, a.fn.kp, a.bi⟩

theorem all_mk {l : PySem.W.OpenLaw} {w : World} {K : PySem.W.Frag} {mg : Str → Option Value}
    {f1 : Addr} {fd1 : FuncData} {f2 : Addr} {fd2 : FuncData} {f3 : Addr} {fd3 : FuncData} {f4 : Addr} {fd4 : FuncData} {f5 : Addr} {fd5 : FuncData} {f6 : Addr} {fd6 : FuncData} {f7 : Addr} {fd7 : FuncData} {f8 : Addr} {fd8 : FuncData} {f9 : Addr} {fd9 : FuncData} {f10 : Addr} {fd10 : FuncData} {f11 : Addr} {fd11 : FuncData} {f12 : Addr} {fd12 : FuncData} {f13 : Addr} {fd13 : FuncData} {f14 : Addr} {fd14 : FuncData} {f15 : Addr} {fd15 : FuncData} {f16 : Addr} {fd16 : FuncData} {f17 : Addr} {fd17 : FuncData} {f18 : Addr} {fd18 : FuncData} {f19 : Addr} {fd19 : FuncData} {f20 : Addr} {fd20 : FuncData} {f21 : Addr} {fd21 : FuncData} {f22 : Addr} {fd22 : FuncData} {f23 : Addr} {fd23 : FuncData} {f24 : Addr} {fd24 : FuncData} {f25 : Addr} {fd25 : FuncData} {f26 : Addr} {fd26 : FuncData} {f27 : Addr} {fd27 : FuncData} {f28 : Addr} {fd28 : FuncData} {f29 : Addr} {fd29 : FuncData} {f30 : Addr} {fd30 : FuncData} {f31 : Addr} {fd31 : FuncData} {f32 : Addr} {fd32 : FuncData} {f33 : Addr} {fd33 : FuncData} {f34 : Addr} {fd34 : FuncData} {f35 : Addr} {fd35 : FuncData} {f36 : Addr} {fd36 : FuncData} {f37 : Addr} {fd37 : FuncData} {f38 : Addr} {fd38 : FuncData} {f39 : Addr} {fd39 : FuncData} {f40 : Addr} {fd40 : FuncData} {f41 : Addr} {fd41 : FuncData} {f42 : Addr} {fd42 : FuncData} {f43 : Addr} {fd43 : FuncData} {p_MANNERS : Addr} {p_LIMITS : Addr} {p_RESTS : Addr} {p_HOLDERS : Addr} {p_F : Addr} {es_F : Array DictEntry} {nn_F : Nat} {p_G : Addr} {es_G : Array DictEntry} {nn_G : Nat} {tl0 : Tok} {tl1 : Tok} {tl2 : Tok} {tl3 : Tok} {tl4 : Tok} {tl5 : Tok} {tl6 : Tok} {tl7 : Tok} {tl8 : Tok} {tl9 : Tok} {fA : Addr} {fdA : FuncData} {fB : Addr} {fdB : FuncData} {CS fiS : Addr} {fdiS : FuncData} {CR fiR : Addr} {fdiR : FuncData} {CN CL fxN fQ : Addr} {fdxN : FuncData} {fdQ : FuncData}
    (a1 : mg "is_integer" = some (.ref f1))
    (F1 : Fun K "is_integer" "is_integer" s_is_integer f1 fd1)
    (a2 : mg "is_one_of" = some (.ref f2))
    (F2 : Fun K "is_one_of" "is_one_of" s_is_one_of f2 fd2)
    (a3 : mg "is_cell" = some (.ref f3))
    (F3 : Fun K "is_cell" "is_cell" s_is_cell f3 fd3)
    (a4 : mg "is_row" = some (.ref f4))
    (F4 : Fun K "is_row" "is_row" s_is_row f4 fd4)
    (a5 : mg "is_choice" = some (.ref f5))
    (F5 : Fun K "is_choice" "is_choice" s_is_choice f5 fd5)
    (a6 : mg "is_times" = some (.ref f6))
    (F6 : Fun K "is_times" "is_times" s_is_times f6 fd6)
    (a7 : mg "is_counted" = some (.ref f7))
    (F7 : Fun K "is_counted" "is_counted" s_is_counted f7 fd7)
    (a8 : mg "is_within" = some (.ref f8))
    (F8 : Fun K "is_within" "is_within" s_is_within f8 fd8)
    (a9 : mg "is_holder" = some (.ref f9))
    (F9 : Fun K "is_holder" "is_holder" s_is_holder f9 fd9)
    (a10 : mg "is_need" = some (.ref f10))
    (F10 : Fun K "is_need" "is_need" s_is_need f10 fd10)
    (a11 : mg "is_pad" = some (.ref f11))
    (F11 : Fun K "is_pad" "is_pad" s_is_pad f11 fd11)
    (a12 : mg "has_form" = some (.ref f12))
    (F12 : Fun K "has_form" "has_form" s_has_form f12 fd12)
    (a13 : mg "is_barred_from_told" = some (.ref f13))
    (F13 : Fun K "is_barred_from_told" "is_barred_from_told" s_is_barred_from_told f13 fd13)
    (a14 : mg "suits_its_part" = some (.ref f14))
    (F14 : Fun K "suits_its_part" "suits_its_part" s_suits_its_part f14 fd14)
    (a15 : mg "counted_parts" = some (.ref f15))
    (F15 : Fun K "counted_parts" "counted_parts" s_counted_parts f15 fd15)
    (a16 : mg "is_part" = some (.ref f16))
    (F16 : Fun K "is_part" "is_part" s_is_part f16 fd16)
    (a17 : mg "size_of" = some (.ref f17))
    (F17 : Fun K "size_of" "size_of" s_size_of f17 fd17)
    (a18 : mg "parts_of" = some (.ref f18))
    (F18 : Fun K "parts_of" "parts_of" s_parts_of f18 fd18)
    (a19 : mg "subparts" = some (.ref f19))
    (F19 : Fun K "subparts" "subparts" s_subparts f19 fd19)
    (a20 : mg "first_wrong" = some (.ref f20))
    (F20 : Fun K "first_wrong" "first_wrong" s_first_wrong f20 fd20)
    (a21 : mg "check_part" = some (.ref f21))
    (F21 : Fun K "check_part" "check_part" s_check_part f21 fd21)
    (a22 : mg "_law_pool" = some (.ref f22))
    (F22 : Fun K "_law_pool" "_law_pool" s_law_pool f22 fd22)
    (a23 : mg "_law_draw" = some (.ref f23))
    (F23 : Fun K "_law_draw" "_law_draw" s_law_draw f23 fd23)
    (a24 : mg "_law_children" = some (.ref f24))
    (F24 : Fun K "_law_children" "_law_children" s_law_children f24 fd24)
    (a25 : mg "_law_size" = some (.ref f25))
    (F25 : Fun K "_law_size" "_law_size" s_law_size f25 fd25)
    (a26 : mg "_law_leaf" = some (.ref f26))
    (F26 : Fun K "_law_leaf" "_law_leaf" s_law_leaf f26 fd26)
    (a27 : mg "_law_options" = some (.ref f27))
    (F27 : Fun K "_law_options" "_law_options" s_law_options f27 fd27)
    (a28 : mg "_law_counted" = some (.ref f28))
    (F28 : Fun K "_law_counted" "_law_counted" s_law_counted f28 fd28)
    (a29 : mg "_law_within" = some (.ref f29))
    (F29 : Fun K "_law_within" "_law_within" s_law_within f29 fd29)
    (a30 : mg "_law_part" = some (.ref f30))
    (F30 : Fun K "_law_part" "_law_part" s_law_part f30 fd30)
    (a31 : mg "_law_whole" = some (.ref f31))
    (F31 : Fun K "_law_whole" "_law_whole" s_law_whole f31 fd31)
    (a32 : mg "_law_bound" = some (.ref f32))
    (F32 : Fun K "_law_bound" "_law_bound" s_law_bound f32 fd32)
    (a33 : mg "_law_options_good" = some (.ref f33))
    (F33 : Fun K "_law_options_good" "_law_options_good" s_law_options_good f33 fd33)
    (a34 : mg "_law_form" = some (.ref f34))
    (F34 : Fun K "_law_form" "_law_form" s_law_form f34 fd34)
    (a35 : mg "_law_asks" = some (.ref f35))
    (F35 : Fun K "_law_asks" "_law_asks" s_law_asks f35 fd35)
    (a36 : mg "_law_wrong" = some (.ref f36))
    (F36 : Fun K "_law_wrong" "_law_wrong" s_law_wrong f36 fd36)
    (a37 : mg "_law_many" = some (.ref f37))
    (F37 : Fun K "_law_many" "_law_many" s_law_many f37 fd37)
    (a38 : mg "_law_where" = some (.ref f38))
    (F38 : Fun K "_law_where" "_law_where" s_law_where f38 fd38)
    (a39 : mg "_law_changed" = some (.ref f39))
    (F39 : Fun K "_law_changed" "_law_changed" s_law_changed f39 fd39)
    (a40 : mg "_law_paths" = some (.ref f40))
    (F40 : Fun K "_law_paths" "_law_paths" s_law_paths f40 fd40)
    (a41 : mg "_law_odd" = some (.ref f41))
    (F41 : Fun K "_law_odd" "_law_odd" s_law_odd f41 fd41)
    (a42 : mg "_law_told" = some (.ref f42))
    (F42 : Fun K "_law_told" "_law_told" s_law_told f42 fd42)
    (a43 : mg "law" = some (.ref f43))
    (F43 : Fun K "law" "law" s_law f43 fd43)
    (z_len : mg "len" = none)
    (z_list : mg "list" = none)
    (z_tuple : mg "tuple" = none)
    (z_int : mg "int" = none)
    (z_str : mg "str" = none)
    (z_bool : mg "bool" = none)
    (z_abs : mg "abs" = none)
    (z_sum : mg "sum" = none)
    (z_all : mg "all" = none)
    (z_any : mg "any" = none)
    (z_max : mg "max" = none)
    (z_min : mg "min" = none)
    (z_range : mg "range" = none)
    (z_enumerate : mg "enumerate" = none)
    (z_isinstance : mg "isinstance" = none)
    (z_zip : mg "zip" = none)
    (g_MOST_CELL_BOUND : ∃ t, mg "MOST_CELL_BOUND" = some (.int 1000000 t))
    (g_MOST_DEEP : ∃ t, mg "MOST_DEEP" = some (.int 8 t))
    (g_MOST_PARTS : ∃ t, mg "MOST_PARTS" = some (.int 60 t))
    (g_MOST_COUNTED : ∃ t, mg "MOST_COUNTED" = some (.int 1000 t))
    (g_MANNERS : mg "MANNERS" = some (.ref p_MANNERS))
    (q_MANNERS : ∀ H : Hp, SqT K H p_MANNERS (PD.MANNERS.map V.str))
    (g_LIMITS : mg "LIMITS" = some (.ref p_LIMITS))
    (q_LIMITS : ∀ H : Hp, SqT K H p_LIMITS (PD.LIMITS.map V.str))
    (g_RESTS : mg "RESTS" = some (.ref p_RESTS))
    (q_RESTS : ∀ H : Hp, SqT K H p_RESTS (PD.RESTS.map V.str))
    (g_HOLDERS : mg "HOLDERS" = some (.ref p_HOLDERS))
    (q_HOLDERS : ∀ H : Hp, SqT K H p_HOLDERS (PD.HOLDERS.map V.str))
    (g_F : mg "FORMS" = some (.ref p_F))
    (v_F : K.lookup p_F = some ⟨.type "dict", none, .dict es_F nn_F, #[]⟩)
    (ks_F : es_F.toList.map He.keyOf = He.keysIn w.params ["cell", "row", "choice", "times", "counted", "within", "fill", "if left", "need", "pad"])
    (lo_F : (p_F == sysModules) = false)
    (g_G : mg "LENGTHS" = some (.ref p_G))
    (v_G : K.lookup p_G = some ⟨.type "dict", none, .dict es_G nn_G, #[]⟩)
    (ks_G : es_G.toList.map He.keyOf = He.keysIn w.params ["cell", "row", "choice", "times", "counted", "within", "fill", "if left", "need", "pad"])
    (lo_G : (p_G == sysModules) = false)
    (ff0 : PySem.W.nsIn K p_F "cell" = some (some (.ref f3)))
    (fl0 : PySem.W.nsIn K p_G "cell" = some (some (.int 4 tl0)))
    (ff1 : PySem.W.nsIn K p_F "row" = some (some (.ref f4)))
    (fl1 : PySem.W.nsIn K p_G "row" = some (some (.int 2 tl1)))
    (ff2 : PySem.W.nsIn K p_F "choice" = some (some (.ref f5)))
    (fl2 : PySem.W.nsIn K p_G "choice" = some (some (.int 3 tl2)))
    (ff3 : PySem.W.nsIn K p_F "times" = some (some (.ref f6)))
    (fl3 : PySem.W.nsIn K p_G "times" = some (some (.int 3 tl3)))
    (ff4 : PySem.W.nsIn K p_F "counted" = some (some (.ref f7)))
    (fl4 : PySem.W.nsIn K p_G "counted" = some (some (.int 5 tl4)))
    (ff5 : PySem.W.nsIn K p_F "within" = some (some (.ref f8)))
    (fl5 : PySem.W.nsIn K p_G "within" = some (some (.int 6 tl5)))
    (ff6 : PySem.W.nsIn K p_F "fill" = some (some (.ref f9)))
    (fl6 : PySem.W.nsIn K p_G "fill" = some (some (.int 2 tl6)))
    (ff7 : PySem.W.nsIn K p_F "if left" = some (some (.ref f9)))
    (fl7 : PySem.W.nsIn K p_G "if left" = some (some (.int 2 tl7)))
    (ff8 : PySem.W.nsIn K p_F "need" = some (some (.ref f10)))
    (fl8 : PySem.W.nsIn K p_G "need" = some (some (.int 2 tl8)))
    (ff9 : PySem.W.nsIn K p_F "pad" = some (some (.ref f11)))
    (fl9 : PySem.W.nsIn K p_G "pad" = some (some (.int 3 tl9)))
    (aA : mg "is_from" = some (.ref fA))
    (DA : FunD K "is_from" "is_from" (defArgs s_is_from) (defBody s_is_from) (defScope s_is_from) [.non] [] fA fdA)
    (aB : mg "is_from_or_none" = some (.ref fB))
    (DB : FunD K "is_from_or_none" "is_from_or_none" (defArgs s_is_from_or_none) (defBody s_is_from_or_none) (defScope s_is_from_or_none) [.non] [] fB fdB)
    (gS : mg "Study" = some (.ref CS))
    (clS : Cls K CS)
    (nS_part : NoAttr K CS "part")
    (nS_layouts : NoAttr K CS "layouts")
    (nS_tables : NoAttr K CS "tables")
    (nS_efforts : NoAttr K CS "efforts")
    (mkS : Mk K CS fiS)
    (FiS : Fun K "__init__" "Study.__init__" s_Study_init fiS fdiS)
    (gR : mg "Reader" = some (.ref CR))
    (clR : Cls K CR)
    (nR_part : NoAttr K CR "part")
    (nR_study : NoAttr K CR "study")
    (mkR : Mk K CR fiR)
    (FiR : Fun K "__init__" "Reader.__init__" s_Reader_init fiR fdiR)
    (gN : mg "NoPart" = some (.ref CN))
    (ON : OexC K CN)
    (noN : PySem.W.findIn K (.ref CN) "path" = some none)
    (gaN : PySem.W.findIn K (.ref CN) "__getattribute__" = some (some (.builtin "BaseException.__getattribute__")))
    (ggN : PySem.W.findIn K (.ref CN) "__getattr__" = some none)
    (bbN : PySem.W.subIn K (.ref CN) (.type "BaseException") = some true)
    (hdN : PySem.W.hasDictIn K CN = true)
    (tN : PySem.W.typeIn K (.ref CN) = some (.type "type"))
    (inN : PySem.W.findIn K (.ref CN) "__init__" = some (some (.ref fxN)))
    (tyN : PySem.W.typeIn K (.ref fxN) = some (.type "function"))
    (FxN : Fun K "__init__" "NoPart.__init__" s_NoPart_init fxN fdxN)
    (sNN : PySem.W.subIn K (.ref CN) (.ref CN) = some true)
    (caN : PySem.W.findIn K (.ref CN) "__class__" = some (some (.builtin "object.__class__")))
    (moN : PySem.W.mroIn K CN (.type "object") = some true)
    (cnO : PySem.W.specialIn K (.builtin "object.__class__") "__get__" = some (some (.builtin "getset_descriptor.__get__")))
    (ctO : PySem.W.takesIn K (.builtin "object.__class__") = some true)
    (gL : mg "LimitError" = some (.ref CL))
    (sNL : PySem.W.subIn K (.ref CN) (.ref CL) = some true)
    (icL : PySem.W.isClsIn K CL = true)
    (tyL : PySem.W.typeIn K (.ref CL) = some (.type "type"))
    (caR : PySem.W.findIn K (.ref CR) "__class__" = some (some (.builtin "object.__class__")))
    (moR : PySem.W.mroIn K CR (.type "object") = some true)
    (icR : PySem.W.isClsIn K CR = true)
    (tyR : PySem.W.typeIn K (.ref CR) = some (.type "type"))
    (sTR : PySem.W.subIn K (.type "tuple") (.ref CR) = some false)
    (nfR : PySem.W.notFirst K CR (.type "tuple") = true)
    (eqR : PySem.W.findIn K (.ref CR) "__eq__" = some (some (.ref fQ)))
    (iQ : PySem.W.isFn K (.ref fQ) = true)
    (FQ : Fun K "__eq__" "Reader.__eq__" s_Reader_eq fQ fdQ)
    : (∀ (s : Shared) (v : Value), BindsTo s fd43 ⟨[v], []⟩ [("script", v)]) ∧ ∀ base : Heap, K.In base → base.Ns mainGlobals mg → FnOk l.prog w K mg base CX0 32 f43 fd43 ["script"] (spLaw K) := by
  have b1 := F1.binds (ps := ["value"]) fun _ _ _ _ _ _ us hl => match us, hl with | [_], _ => rfl
  have A1 : At K mg "is_integer" s_is_integer ["value"] f1 fd1 := ⟨F1, a1, b1⟩
  have b2 := F2.binds (ps := ["value", "words"]) fun _ _ _ _ _ _ us hl => match us, hl with | [_, _], _ => rfl
  have A2 : At K mg "is_one_of" s_is_one_of ["value", "words"] f2 fd2 := ⟨F2, a2, b2⟩
  have b3 := F3.binds (ps := ["part"]) fun _ _ _ _ _ _ us hl => match us, hl with | [_], _ => rfl
  have A3 : At K mg "is_cell" s_is_cell ["part"] f3 fd3 := ⟨F3, a3, b3⟩
  have b4 := F4.binds (ps := ["part"]) fun _ _ _ _ _ _ us hl => match us, hl with | [_], _ => rfl
  have A4 : At K mg "is_row" s_is_row ["part"] f4 fd4 := ⟨F4, a4, b4⟩
  have b5 := F5.binds (ps := ["part"]) fun _ _ _ _ _ _ us hl => match us, hl with | [_], _ => rfl
  have A5 : At K mg "is_choice" s_is_choice ["part"] f5 fd5 := ⟨F5, a5, b5⟩
  have b6 := F6.binds (ps := ["part"]) fun _ _ _ _ _ _ us hl => match us, hl with | [_], _ => rfl
  have A6 : At K mg "is_times" s_is_times ["part"] f6 fd6 := ⟨F6, a6, b6⟩
  have b7 := F7.binds (ps := ["part"]) fun _ _ _ _ _ _ us hl => match us, hl with | [_], _ => rfl
  have A7 : At K mg "is_counted" s_is_counted ["part"] f7 fd7 := ⟨F7, a7, b7⟩
  have b8 := F8.binds (ps := ["part"]) fun _ _ _ _ _ _ us hl => match us, hl with | [_], _ => rfl
  have A8 : At K mg "is_within" s_is_within ["part"] f8 fd8 := ⟨F8, a8, b8⟩
  have b9 := F9.binds (ps := ["part"]) fun _ _ _ _ _ _ us hl => match us, hl with | [_], _ => rfl
  have A9 : At K mg "is_holder" s_is_holder ["part"] f9 fd9 := ⟨F9, a9, b9⟩
  have b10 := F10.binds (ps := ["part"]) fun _ _ _ _ _ _ us hl => match us, hl with | [_], _ => rfl
  have A10 : At K mg "is_need" s_is_need ["part"] f10 fd10 := ⟨F10, a10, b10⟩
  have b11 := F11.binds (ps := ["part"]) fun _ _ _ _ _ _ us hl => match us, hl with | [_], _ => rfl
  have A11 : At K mg "is_pad" s_is_pad ["part"] f11 fd11 := ⟨F11, a11, b11⟩
  have b12 := F12.binds (ps := ["thing"]) fun _ _ _ _ _ _ us hl => match us, hl with | [_], _ => rfl
  have A12 : At K mg "has_form" s_has_form ["thing"] f12 fd12 := ⟨F12, a12, b12⟩
  have b13 := F13.binds (ps := ["part"]) fun _ _ _ _ _ _ us hl => match us, hl with | [_], _ => rfl
  have A13 : At K mg "is_barred_from_told" s_is_barred_from_told ["part"] f13 fd13 := ⟨F13, a13, b13⟩
  have b14 := F14.binds (ps := ["part"]) fun _ _ _ _ _ _ us hl => match us, hl with | [_], _ => rfl
  have A14 : At K mg "suits_its_part" s_suits_its_part ["part"] f14 fd14 := ⟨F14, a14, b14⟩
  have b15 := F15.binds (ps := ["part"]) fun _ _ _ _ _ _ us hl => match us, hl with | [_], _ => rfl
  have A15 : At K mg "counted_parts" s_counted_parts ["part"] f15 fd15 := ⟨F15, a15, b15⟩
  have b16 := F16.binds (ps := ["thing"]) fun _ _ _ _ _ _ us hl => match us, hl with | [_], _ => rfl
  have A16 : At K mg "is_part" s_is_part ["thing"] f16 fd16 := ⟨F16, a16, b16⟩
  have b17 := F17.binds (ps := ["part"]) fun _ _ _ _ _ _ us hl => match us, hl with | [_], _ => rfl
  have A17 : At K mg "size_of" s_size_of ["part"] f17 fd17 := ⟨F17, a17, b17⟩
  have b18 := F18.binds (ps := ["part"]) fun _ _ _ _ _ _ us hl => match us, hl with | [_], _ => rfl
  have A18 : At K mg "parts_of" s_parts_of ["part"] f18 fd18 := ⟨F18, a18, b18⟩
  have b19 := F19.binds (ps := ["part"]) fun _ _ _ _ _ _ us hl => match us, hl with | [_], _ => rfl
  have A19 : At K mg "subparts" s_subparts ["part"] f19 fd19 := ⟨F19, a19, b19⟩
  have b20 := F20.binds (ps := ["part", "path"]) fun _ _ _ _ _ _ us hl => match us, hl with | [_, _], _ => rfl
  have A20 : At K mg "first_wrong" s_first_wrong ["part", "path"] f20 fd20 := ⟨F20, a20, b20⟩
  have b21 := F21.binds (ps := ["part"]) fun _ _ _ _ _ _ us hl => match us, hl with | [_], _ => rfl
  have A21 : At K mg "check_part" s_check_part ["part"] f21 fd21 := ⟨F21, a21, b21⟩
  have b22 := F22.binds (ps := ["script", "k"]) fun _ _ _ _ _ _ us hl => match us, hl with | [_, _], _ => rfl
  have A22 : At K mg "_law_pool" s_law_pool ["script", "k"] f22 fd22 := ⟨F22, a22, b22⟩
  have b23 := F23.binds (ps := ["pool", "count"]) fun _ _ _ _ _ _ us hl => match us, hl with | [_, _], _ => rfl
  have A23 : At K mg "_law_draw" s_law_draw ["pool", "count"] f23 fd23 := ⟨F23, a23, b23⟩
  have b24 := F24.binds (ps := ["part"]) fun _ _ _ _ _ _ us hl => match us, hl with | [_], _ => rfl
  have A24 : At K mg "_law_children" s_law_children ["part"] f24 fd24 := ⟨F24, a24, b24⟩
  have b25 := F25.binds (ps := ["part"]) fun _ _ _ _ _ _ us hl => match us, hl with | [_], _ => rfl
  have A25 : At K mg "_law_size" s_law_size ["part"] f25 fd25 := ⟨F25, a25, b25⟩
  have b26 := F26.binds (ps := ["pool", "how", "told"]) fun _ _ _ _ _ _ us hl => match us, hl with | [_, _, _], _ => rfl
  have A26 : At K mg "_law_leaf" s_law_leaf ["pool", "how", "told"] f26 fd26 := ⟨F26, a26, b26⟩
  have b27 := F27.binds (ps := ["pool", "room", "depth", "limits", "told"]) fun _ _ _ _ _ _ us hl => match us, hl with | [_, _, _, _, _], _ => rfl
  have A27 : At K mg "_law_options" s_law_options ["pool", "room", "depth", "limits", "told"] f27 fd27 := ⟨F27, a27, b27⟩
  have b28 := F28.binds (ps := ["pool", "how", "room", "depth", "limits", "told"]) fun _ _ _ _ _ _ us hl => match us, hl with | [_, _, _, _, _, _], _ => rfl
  have A28 : At K mg "_law_counted" s_law_counted ["pool", "how", "room", "depth", "limits", "told"] f28 fd28 := ⟨F28, a28, b28⟩
  have b29 := F29.binds (ps := ["pool", "how", "room", "depth", "limits"]) fun _ _ _ _ _ _ us hl => match us, hl with | [_, _, _, _, _], _ => rfl
  have A29 : At K mg "_law_within" s_law_within ["pool", "how", "room", "depth", "limits"] f29 fd29 := ⟨F29, a29, b29⟩
  have b30 := F30.binds (ps := ["pool", "room", "depth", "limits", "told"]) fun _ _ _ _ _ _ us hl => match us, hl with | [_, _, _, _, _], _ => rfl
  have A30 : At K mg "_law_part" s_law_part ["pool", "room", "depth", "limits", "told"] f30 fd30 := ⟨F30, a30, b30⟩
  have b31 := F31.binds (ps := ["thing", "low", "high"]) fun _ _ _ _ _ _ us hl => match us, hl with | [_, _, _], _ => rfl
  have A31 : At K mg "_law_whole" s_law_whole ["thing", "low", "high"] f31 fd31 := ⟨F31, a31, b31⟩
  have b32 := F32.binds (ps := ["thing", "high"]) fun _ _ _ _ _ _ us hl => match us, hl with | [_, _], _ => rfl
  have A32 : At K mg "_law_bound" s_law_bound ["thing", "high"] f32 fd32 := ⟨F32, a32, b32⟩
  have b33 := F33.binds (ps := ["thing"]) fun _ _ _ _ _ _ us hl => match us, hl with | [_], _ => rfl
  have A33 : At K mg "_law_options_good" s_law_options_good ["thing"] f33 fd33 := ⟨F33, a33, b33⟩
  have b34 := F34.binds (ps := ["part"]) fun _ _ _ _ _ _ us hl => match us, hl with | [_], _ => rfl
  have A34 : At K mg "_law_form" s_law_form ["part"] f34 fd34 := ⟨F34, a34, b34⟩
  have b35 := F35.binds (ps := ["part"]) fun _ _ _ _ _ _ us hl => match us, hl with | [_], _ => rfl
  have A35 : At K mg "_law_asks" s_law_asks ["part"] f35 fd35 := ⟨F35, a35, b35⟩
  have b36 := F36.binds (ps := ["part", "path"]) fun _ _ _ _ _ _ us hl => match us, hl with | [_, _], _ => rfl
  have A36 : At K mg "_law_wrong" s_law_wrong ["part", "path"] f36 fd36 := ⟨F36, a36, b36⟩
  have b37 := F37.binds (ps := ["part", "is_unrolled"]) fun _ _ _ _ _ _ us hl => match us, hl with | [_, _], _ => rfl
  have A37 : At K mg "_law_many" s_law_many ["part", "is_unrolled"] f37 fd37 := ⟨F37, a37, b37⟩
  have b38 := F38.binds (ps := ["part"]) fun _ _ _ _ _ _ us hl => match us, hl with | [_], _ => rfl
  have A38 : At K mg "_law_where" s_law_where ["part"] f38 fd38 := ⟨F38, a38, b38⟩
  have b39 := F39.binds (ps := ["part", "path", "other"]) fun _ _ _ _ _ _ us hl => match us, hl with | [_, _, _], _ => rfl
  have A39 : At K mg "_law_changed" s_law_changed ["part", "path", "other"] f39 fd39 := ⟨F39, a39, b39⟩
  have b40 := F40.binds (ps := ["part"]) fun _ _ _ _ _ _ us hl => match us, hl with | [_], _ => rfl
  have A40 : At K mg "_law_paths" s_law_paths ["part"] f40 fd40 := ⟨F40, a40, b40⟩
  have b41 := F41.binds (ps := ["pool", "part"]) fun _ _ _ _ _ _ us hl => match us, hl with | [_, _], _ => rfl
  have A41 : At K mg "_law_odd" s_law_odd ["pool", "part"] f41 fd41 := ⟨F41, a41, b41⟩
  have b42 := F42.binds (ps := ["part"]) fun _ _ _ _ _ _ us hl => match us, hl with | [_], _ => rfl
  have A42 : At K mg "_law_told" s_law_told ["part"] f42 fd42 := ⟨F42, a42, b42⟩
  have T : Txt K mg ⟨p_MANNERS, p_LIMITS, p_RESTS, p_HOLDERS, p_F, p_G⟩ := ⟨z_len, z_list, z_tuple, z_int, z_str, z_bool, z_abs, z_sum, z_all, z_any, z_max, z_min, z_range, z_enumerate, z_isinstance, z_zip, g_MANNERS, g_LIMITS, g_RESTS, g_HOLDERS, g_F, g_G, q_MANNERS, q_LIMITS, q_RESTS, q_HOLDERS, g_MOST_CELL_BOUND, g_MOST_DEEP, g_MOST_PARTS, g_MOST_COUNTED⟩
  have AA : AtD K mg "is_from" s_is_from ["value", "low", "high"] [.non] fA fdA := ⟨DA, aA, by
      obtain ⟨ds, hv, hb⟩ := DA.binds1 (ps := ["value", "low", "high"]) 3 1 (by simp) (by rfl) (fun T kV doc pm an cdv ct us its hu hi => match us, hu, its, hi with | [_, _, _], _, [_], _ => ⟨_, rfl, rfl⟩)
      cases hv
      exact hb, DA.binds1 (ps := ["value", "low", "high"]) 2 0 (by simp) (by rfl) (fun T kV doc pm an cdv ct us its hu hi => match us, hu, its, hi with | [_, _], _, [_], _ => ⟨_, rfl, rfl⟩)⟩
  have AB : AtD K mg "is_from_or_none" s_is_from_or_none ["value", "low", "high"] [.non] fB fdB := ⟨DB, aB, by
      obtain ⟨ds, hv, hb⟩ := DB.binds1 (ps := ["value", "low", "high"]) 3 1 (by simp) (by rfl) (fun T kV doc pm an cdv ct us its hu hi => match us, hu, its, hi with | [_, _, _], _, [_], _ => ⟨_, rfl, rfl⟩)
      cases hv
      exact hb, DB.binds1 (ps := ["value", "low", "high"]) 2 0 (by simp) (by rfl) (fun T kV doc pm an cdv ct us its hu hi => match us, hu, its, hi with | [_, _], _, [_], _ => ⟨_, rfl, rfl⟩)⟩
  have biS := FiS.binds (ps := ["self", "part"]) fun _ _ _ _ _ _ us hl => match us, hl with | [_, _], _ => rfl
  have biR := FiR.binds (ps := ["self", "part"]) fun _ _ _ _ _ _ us hl => match us, hl with | [_, _], _ => rfl
  have bQ := FQ.binds (ps := ["self", "other"]) fun _ _ _ _ _ _ us hl => match us, hl with | [_, _], _ => rfl
  have bxN := FxN.binds (ps := ["self", "path"]) fun _ _ _ _ _ _ us hl => match us, hl with | [_, _], _ => rfl
  obtain ⟨oc_, od_, kV_, doc_, pm_, an_, cdv_, ct_, osl_, rfl, lk_, hcd_⟩ := F43.ex
  refine ⟨fun s v => .of_eq rfl, fun base _ _ => ?_⟩
  have ErN : ErrC l.prog w K mg base "NoPart" CN "path" := ⟨gN, ON, noN, ⟨gaN, ggN, bbN, hdN⟩, fxN, _, _, inN, tyN, ok_initE FxN sc_NoPart_init rfl ON noN (Or.inl rfl) (Or.inl rfl) (fun _ => rfl) (by decide) (by decide), bxN⟩
  have C_is_integer := A1.cal (ok_is_integer (P := l.prog) (w := w) (base := base) T A1)
  have C_is_from : CalFrom l.prog w K mg base := AA.cal (ok_is_from (P := l.prog) (w := w) (base := base) T C_is_integer AA)
  have C_orn : CalOrn l.prog w K mg base := AB.cal (ok_is_from_or_none (P := l.prog) (w := w) (base := base) T C_is_from AB)
  have C_one := A2.cal (ok_is_one_of (P := l.prog) (w := w) (base := base) T A2)
  have H_is_cell := A3.held (ok_is_cell (P := l.prog) (w := w) (base := base) T C_is_from C_orn C_one A3)
  have H_is_row := A4.held (ok_is_row (P := l.prog) (w := w) (base := base) T A4)
  have H_is_choice := A5.held (ok_is_choice (P := l.prog) (w := w) (base := base) T C_is_from C_one A5)
  have H_is_times := A6.held (ok_is_times (P := l.prog) (w := w) (base := base) T C_is_from A6)
  have H_is_counted := A7.held (ok_is_counted (P := l.prog) (w := w) (base := base) T C_orn C_one A7)
  have H_is_within := A8.held (ok_is_within (P := l.prog) (w := w) (base := base) T C_orn C_one A8)
  have H_is_holder := A9.held (ok_is_holder (P := l.prog) (w := w) (base := base) T A9)
  have H_is_need := A10.held (ok_is_need (P := l.prog) (w := w) (base := base) T C_is_from A10)
  have H_is_pad := A11.held (ok_is_pad (P := l.prog) (w := w) (base := base) T C_is_from C_one A11)
  have kF : ∀ wd f, PySem.W.nsIn K p_F wd = some (some (.ref f)) → KDct K w p_F wd (.ref f) := fun wd f e => ⟨_, _, _, v_F, He.keysLit_of ks_F, e, rfl⟩
  have kG : ∀ wd i t, PySem.W.nsIn K p_G wd = some (some (.int i t)) → KDct K w p_G wd (.int i) := fun wd i t e => ⟨_, _, _, v_G, He.keysLit_of ks_G, e, ⟨t, rfl⟩⟩
  have Fo : Forms l.prog w K mg base ⟨p_MANNERS, p_LIMITS, p_RESTS, p_HOLDERS, p_F, p_G⟩ := by
    refine ⟨⟨_, _, v_F, He.keysLit_of ks_F, lo_F⟩, fun wd n p h => ?_, fun wd h => ns_missing v_F ks_F fun k hk => ?_⟩
    · unfold PD.formAt at h
      by_cases e0 : wd = "cell"
      · rw [if_pos e0] at h
        cases h
        subst e0
        exact ⟨⟨_, kF _ _ ff0, H_is_cell⟩, kG _ _ _ fl0⟩
      rw [if_neg e0] at h
      by_cases e1 : wd = "row"
      · rw [if_pos e1] at h
        cases h
        subst e1
        exact ⟨⟨_, kF _ _ ff1, H_is_row⟩, kG _ _ _ fl1⟩
      rw [if_neg e1] at h
      by_cases e2 : wd = "choice"
      · rw [if_pos e2] at h
        cases h
        subst e2
        exact ⟨⟨_, kF _ _ ff2, H_is_choice⟩, kG _ _ _ fl2⟩
      rw [if_neg e2] at h
      by_cases e3 : wd = "times"
      · rw [if_pos e3] at h
        cases h
        subst e3
        exact ⟨⟨_, kF _ _ ff3, H_is_times⟩, kG _ _ _ fl3⟩
      rw [if_neg e3] at h
      by_cases e4 : wd = "counted"
      · rw [if_pos e4] at h
        cases h
        subst e4
        exact ⟨⟨_, kF _ _ ff4, H_is_counted⟩, kG _ _ _ fl4⟩
      rw [if_neg e4] at h
      by_cases e5 : wd = "within"
      · rw [if_pos e5] at h
        cases h
        subst e5
        exact ⟨⟨_, kF _ _ ff5, H_is_within⟩, kG _ _ _ fl5⟩
      rw [if_neg e5] at h
      by_cases e6 : wd = "fill"
      · rw [if_pos e6] at h
        cases h
        subst e6
        exact ⟨⟨_, kF _ _ ff6, H_is_holder⟩, kG _ _ _ fl6⟩
      rw [if_neg e6] at h
      by_cases e7 : wd = "if left"
      · rw [if_pos e7] at h
        cases h
        subst e7
        exact ⟨⟨_, kF _ _ ff7, H_is_holder⟩, kG _ _ _ fl7⟩
      rw [if_neg e7] at h
      by_cases e8 : wd = "need"
      · rw [if_pos e8] at h
        cases h
        subst e8
        exact ⟨⟨_, kF _ _ ff8, H_is_need⟩, kG _ _ _ fl8⟩
      rw [if_neg e8] at h
      by_cases e9 : wd = "pad"
      · rw [if_pos e9] at h
        cases h
        subst e9
        exact ⟨⟨_, kF _ _ ff9, H_is_pad⟩, kG _ _ _ fl9⟩
      rw [if_neg e9] at h
      cases h
    · rintro rfl
      unfold PD.formAt at h
      by_cases e0 : k = "cell"
      · rw [if_pos e0] at h
        cases h
      rw [if_neg e0] at h
      by_cases e1 : k = "row"
      · rw [if_pos e1] at h
        cases h
      rw [if_neg e1] at h
      by_cases e2 : k = "choice"
      · rw [if_pos e2] at h
        cases h
      rw [if_neg e2] at h
      by_cases e3 : k = "times"
      · rw [if_pos e3] at h
        cases h
      rw [if_neg e3] at h
      by_cases e4 : k = "counted"
      · rw [if_pos e4] at h
        cases h
      rw [if_neg e4] at h
      by_cases e5 : k = "within"
      · rw [if_pos e5] at h
        cases h
      rw [if_neg e5] at h
      by_cases e6 : k = "fill"
      · rw [if_pos e6] at h
        cases h
      rw [if_neg e6] at h
      by_cases e7 : k = "if left"
      · rw [if_pos e7] at h
        cases h
      rw [if_neg e7] at h
      by_cases e8 : k = "need"
      · rw [if_pos e8] at h
        cases h
      rw [if_neg e8] at h
      by_cases e9 : k = "pad"
      · rw [if_pos e9] at h
        cases h
      rw [if_neg e9] at h
      simp only [List.mem_cons, List.mem_nil_iff, or_false, e0, e1, e2, e3, e4, e5, e6, e7, e8, e9] at hk
  have C_hf := A12.cal (ok_has_form (P := l.prog) (w := w) (base := base) T Fo A12)
  have C_po := A18.cal (ok_parts_of (P := l.prog) (w := w) (base := base) T A18)
  have C_su : ∀ h, h ≤ 20 → Cal l.prog w K mg base (h + 5) "suits_its_part" ["part"] (SpR K (R_suits h)) := fun h hh => A14.cal (ok_suits_its_part (P := l.prog) (w := w) (base := base) hh T A14 A18 A17 A19 A13)
  have Fw : Fws l.prog w K mg base := ⟨C_hf, C_po, C_su⟩
  have Ck : Chks l.prog w K mg base := ⟨C_hf, C_po, C_su 8 (by decide), A20.cal (ok_first_wrong (P := l.prog) (w := w) (base := base) T Fw A20 8 (by decide)), A19.cal (ok_subparts (P := l.prog) (w := w) (base := base) T A19 A18 8 (by decide)), A15.cal (ok_counted_parts (P := l.prog) (w := w) (base := base) T A15 A18 8)⟩
  have C_check_part := A21.calE (ok_check_part (P := l.prog) (w := w) (base := base) T Ck ErN A21)
  have C_is_part := A16.cal (ok_is_part (P := l.prog) (w := w) (base := base) T Ck A16)
  have St : StC l.prog w K mg base CS := ⟨gS, fiS, _, mkS, ok_study (P := l.prog) (w := w) (base := base) T clS nS_part nS_layouts nS_tables nS_efforts FiS, biS⟩
  have Rd : RdC l.prog w K mg base CN CR := ⟨gR, clR, nR_part, fiR, _, mkR, ok_reader (P := l.prog) (w := w) (base := base) T C_check_part St clR nR_part nR_study FiR, biR⟩
  have RI : RdI K CR := ⟨caR, cnO, ctO, moR, kit_own icR tyR (fun e => Value.noConfusion e) sTR⟩
  have RE : RdE l.prog w K mg base CR fQ _ := ⟨eqR, iQ, ok_req (P := l.prog) (w := w) (base := base) T (gR) clR nR_part RI FQ, bQ, nfR⟩
  have C_law_pool := A22.cal (G.ok_law_pool (P := l.prog) (w := w) (base := base) T A22)
  have C_law_draw := A23.cal (G.ok_law_draw (P := l.prog) (w := w) (base := base) T A23)
  have C_law_part : G.CalPart l.prog w K mg base 7 := A30.cal (G.ok_law_part (P := l.prog) (w := w) (base := base) T ⟨A23, A24, A25, A26, A27, A28, A29, A30⟩ 7)
  have C_law_whole : CalWhole l.prog w K mg base := A31.cal (ok_law_whole (P := l.prog) (w := w) (base := base) T A31)
  have C_law_bound : CalBound l.prog w K mg base := A32.cal (ok_law_bound (P := l.prog) (w := w) (base := base) T C_law_whole A32)
  have C_law_good : CalGood l.prog w K mg base := A33.cal (ok_law_options_good (P := l.prog) (w := w) (base := base) T C_law_whole A33)
  have C_law_form := A34.cal (ok_law_form (P := l.prog) (w := w) (base := base) T C_law_whole C_law_bound C_law_good A34)
  have C_law_children := A24.cal (ok_law_children (P := l.prog) (w := w) (base := base) T A24)
  have Lw : Lws l.prog w K mg base := ⟨C_law_form, C_law_children, fun h => A25.cal (ok_law_size (P := l.prog) (w := w) (base := base) T A25 A24 h), fun h => A35.cal (ok_law_asks (P := l.prog) (w := w) (base := base) T A35 A24 h)⟩
  have C_law_wrong := A36.cal (ok_law_wrong (P := l.prog) (w := w) (base := base) T Lw A36 8 (by decide))
  have C_law_many := A37.cal (ok_law_many (P := l.prog) (w := w) (base := base) T A37 A24 8)
  have C_law_where := A38.cal (ok_law_where (P := l.prog) (w := w) (base := base) T C_law_wrong C_law_many A38)
  have C_law_changed := A39.cal (ok_law_changed (P := l.prog) (w := w) (base := base) T A39 A24 8)
  have C_law_paths := A40.cal (ok_law_paths (P := l.prog) (w := w) (base := base) T A40 A24 8 (by decide))
  have C_law_odd := A41.cal (ok_law_odd (P := l.prog) (w := w) (base := base) T A41 A23)
  have C_law_told := A42.cal (ok_law_told (P := l.prog) (w := w) (base := base) T Rd ErN (PySem.W.exm_ref bbN hdN tN sNN) ⟨gaN, ggN, bbN, hdN, caN, cnO, ctO, moN⟩ (gL) (kit_ownT icL tyL sNL) RE A42)
  exact ok_law T F43 C_law_pool C_law_draw C_law_part C_law_where C_is_part C_law_told C_law_paths C_law_changed C_law_odd

/-! the Hook -/
def dd0 : He.DefD := ⟨("is_integer", none), "is_integer", "is_integer", defArgs s_is_integer, defBody s_is_integer, defScope s_is_integer, [], []⟩
def dd1 : He.DefD := ⟨("is_one_of", none), "is_one_of", "is_one_of", defArgs s_is_one_of, defBody s_is_one_of, defScope s_is_one_of, [], []⟩
def dd2 : He.DefD := ⟨("is_cell", none), "is_cell", "is_cell", defArgs s_is_cell, defBody s_is_cell, defScope s_is_cell, [], []⟩
def dd3 : He.DefD := ⟨("is_row", none), "is_row", "is_row", defArgs s_is_row, defBody s_is_row, defScope s_is_row, [], []⟩
def dd4 : He.DefD := ⟨("is_choice", none), "is_choice", "is_choice", defArgs s_is_choice, defBody s_is_choice, defScope s_is_choice, [], []⟩
def dd5 : He.DefD := ⟨("is_times", none), "is_times", "is_times", defArgs s_is_times, defBody s_is_times, defScope s_is_times, [], []⟩
def dd6 : He.DefD := ⟨("is_counted", none), "is_counted", "is_counted", defArgs s_is_counted, defBody s_is_counted, defScope s_is_counted, [], []⟩
def dd7 : He.DefD := ⟨("is_within", none), "is_within", "is_within", defArgs s_is_within, defBody s_is_within, defScope s_is_within, [], []⟩
def dd8 : He.DefD := ⟨("is_holder", none), "is_holder", "is_holder", defArgs s_is_holder, defBody s_is_holder, defScope s_is_holder, [], []⟩
def dd9 : He.DefD := ⟨("is_need", none), "is_need", "is_need", defArgs s_is_need, defBody s_is_need, defScope s_is_need, [], []⟩
def dd10 : He.DefD := ⟨("is_pad", none), "is_pad", "is_pad", defArgs s_is_pad, defBody s_is_pad, defScope s_is_pad, [], []⟩
def dd11 : He.DefD := ⟨("has_form", none), "has_form", "has_form", defArgs s_has_form, defBody s_has_form, defScope s_has_form, [], []⟩
def dd12 : He.DefD := ⟨("is_barred_from_told", none), "is_barred_from_told", "is_barred_from_told", defArgs s_is_barred_from_told, defBody s_is_barred_from_told, defScope s_is_barred_from_told, [], []⟩
def dd13 : He.DefD := ⟨("suits_its_part", none), "suits_its_part", "suits_its_part", defArgs s_suits_its_part, defBody s_suits_its_part, defScope s_suits_its_part, [], []⟩
def dd14 : He.DefD := ⟨("counted_parts", none), "counted_parts", "counted_parts", defArgs s_counted_parts, defBody s_counted_parts, defScope s_counted_parts, [], []⟩
def dd15 : He.DefD := ⟨("is_part", none), "is_part", "is_part", defArgs s_is_part, defBody s_is_part, defScope s_is_part, [], []⟩
def dd16 : He.DefD := ⟨("size_of", none), "size_of", "size_of", defArgs s_size_of, defBody s_size_of, defScope s_size_of, [], []⟩
def dd17 : He.DefD := ⟨("parts_of", none), "parts_of", "parts_of", defArgs s_parts_of, defBody s_parts_of, defScope s_parts_of, [], []⟩
def dd18 : He.DefD := ⟨("subparts", none), "subparts", "subparts", defArgs s_subparts, defBody s_subparts, defScope s_subparts, [], []⟩
def dd19 : He.DefD := ⟨("first_wrong", none), "first_wrong", "first_wrong", defArgs s_first_wrong, defBody s_first_wrong, defScope s_first_wrong, [], []⟩
def dd20 : He.DefD := ⟨("check_part", none), "check_part", "check_part", defArgs s_check_part, defBody s_check_part, defScope s_check_part, [], []⟩
def dd21 : He.DefD := ⟨("_law_pool", none), "_law_pool", "_law_pool", defArgs s_law_pool, defBody s_law_pool, defScope s_law_pool, [], []⟩
def dd22 : He.DefD := ⟨("_law_draw", none), "_law_draw", "_law_draw", defArgs s_law_draw, defBody s_law_draw, defScope s_law_draw, [], []⟩
def dd23 : He.DefD := ⟨("_law_children", none), "_law_children", "_law_children", defArgs s_law_children, defBody s_law_children, defScope s_law_children, [], []⟩
def dd24 : He.DefD := ⟨("_law_size", none), "_law_size", "_law_size", defArgs s_law_size, defBody s_law_size, defScope s_law_size, [], []⟩
def dd25 : He.DefD := ⟨("_law_leaf", none), "_law_leaf", "_law_leaf", defArgs s_law_leaf, defBody s_law_leaf, defScope s_law_leaf, [], []⟩
def dd26 : He.DefD := ⟨("_law_options", none), "_law_options", "_law_options", defArgs s_law_options, defBody s_law_options, defScope s_law_options, [], []⟩
def dd27 : He.DefD := ⟨("_law_counted", none), "_law_counted", "_law_counted", defArgs s_law_counted, defBody s_law_counted, defScope s_law_counted, [], []⟩
def dd28 : He.DefD := ⟨("_law_within", none), "_law_within", "_law_within", defArgs s_law_within, defBody s_law_within, defScope s_law_within, [], []⟩
def dd29 : He.DefD := ⟨("_law_part", none), "_law_part", "_law_part", defArgs s_law_part, defBody s_law_part, defScope s_law_part, [], []⟩
def dd30 : He.DefD := ⟨("_law_whole", none), "_law_whole", "_law_whole", defArgs s_law_whole, defBody s_law_whole, defScope s_law_whole, [], []⟩
def dd31 : He.DefD := ⟨("_law_bound", none), "_law_bound", "_law_bound", defArgs s_law_bound, defBody s_law_bound, defScope s_law_bound, [], []⟩
def dd32 : He.DefD := ⟨("_law_options_good", none), "_law_options_good", "_law_options_good", defArgs s_law_options_good, defBody s_law_options_good, defScope s_law_options_good, [], []⟩
def dd33 : He.DefD := ⟨("_law_form", none), "_law_form", "_law_form", defArgs s_law_form, defBody s_law_form, defScope s_law_form, [], []⟩
def dd34 : He.DefD := ⟨("_law_asks", none), "_law_asks", "_law_asks", defArgs s_law_asks, defBody s_law_asks, defScope s_law_asks, [], []⟩
def dd35 : He.DefD := ⟨("_law_wrong", none), "_law_wrong", "_law_wrong", defArgs s_law_wrong, defBody s_law_wrong, defScope s_law_wrong, [], []⟩
def dd36 : He.DefD := ⟨("_law_many", none), "_law_many", "_law_many", defArgs s_law_many, defBody s_law_many, defScope s_law_many, [], []⟩
def dd37 : He.DefD := ⟨("_law_where", none), "_law_where", "_law_where", defArgs s_law_where, defBody s_law_where, defScope s_law_where, [], []⟩
def dd38 : He.DefD := ⟨("_law_changed", none), "_law_changed", "_law_changed", defArgs s_law_changed, defBody s_law_changed, defScope s_law_changed, [], []⟩
def dd39 : He.DefD := ⟨("_law_paths", none), "_law_paths", "_law_paths", defArgs s_law_paths, defBody s_law_paths, defScope s_law_paths, [], []⟩
def dd40 : He.DefD := ⟨("_law_odd", none), "_law_odd", "_law_odd", defArgs s_law_odd, defBody s_law_odd, defScope s_law_odd, [], []⟩
def dd41 : He.DefD := ⟨("_law_told", none), "_law_told", "_law_told", defArgs s_law_told, defBody s_law_told, defScope s_law_told, [], []⟩
def dd42 : He.DefD := ⟨("law", none), "law", "law", defArgs s_law, defBody s_law, defScope s_law, [], []⟩
def dd43 : He.DefD := ⟨("is_from", none), "is_from", "is_from", defArgs s_is_from, defBody s_is_from, defScope s_is_from, [.non], []⟩
def dd44 : He.DefD := ⟨("is_from_or_none", none), "is_from_or_none", "is_from_or_none", defArgs s_is_from_or_none, defBody s_is_from_or_none, defScope s_is_from_or_none, [.non], []⟩
def dd45 : He.DefD := ⟨("Study", some "__init__"), "__init__", "Study.__init__", defArgs s_Study_init, defBody s_Study_init, defScope s_Study_init, [], []⟩
def dd46 : He.DefD := ⟨("Reader", some "__init__"), "__init__", "Reader.__init__", defArgs s_Reader_init, defBody s_Reader_init, defScope s_Reader_init, [], []⟩
def dd47 : He.DefD := ⟨("NoPart", some "__init__"), "__init__", "NoPart.__init__", defArgs s_NoPart_init, defBody s_NoPart_init, defScope s_NoPart_init, [], []⟩
def dd48 : He.DefD := ⟨("Reader", some "__eq__"), "__eq__", "Reader.__eq__", defArgs s_Reader_eq, defBody s_Reader_eq, defScope s_Reader_eq, [], []⟩
def fnL0 : List He.DefD := [dd0, dd1, dd2, dd3, dd4, dd5, dd6, dd7, dd8, dd9, dd10, dd11]
def fnL1 : List He.DefD := [dd12, dd13, dd14, dd15, dd16, dd17, dd18, dd19, dd20, dd21, dd22, dd23]
def fnL2 : List He.DefD := [dd24, dd25, dd26, dd27, dd28, dd29, dd30, dd31, dd32, dd33, dd34, dd35]
def fnL3 : List He.DefD := [dd36, dd37, dd38, dd39, dd40, dd41, dd42, dd43, dd44, dd45, dd46, dd47]
def fnL4 : List He.DefD := [dd48]
def fnL : List He.DefD := fnL0 ++ (fnL1 ++ (fnL2 ++ (fnL3 ++ (fnL4))))
def faL0 : List He.Fa := [.glo "is_integer", .glo "is_one_of", .glo "is_cell", .glo "is_row", .glo "is_choice", .glo "is_times", .glo "is_counted", .glo "is_within", .glo "is_holder", .glo "is_need", .glo "is_pad", .glo "has_form"]
def faL1 : List He.Fa := [.glo "is_barred_from_told", .glo "suits_its_part", .glo "counted_parts", .glo "is_part", .glo "size_of", .glo "parts_of", .glo "subparts", .glo "first_wrong", .glo "check_part", .glo "_law_pool", .glo "_law_draw", .glo "_law_children"]
def faL2 : List He.Fa := [.glo "_law_size", .glo "_law_leaf", .glo "_law_options", .glo "_law_counted", .glo "_law_within", .glo "_law_part", .glo "_law_whole", .glo "_law_bound", .glo "_law_options_good", .glo "_law_form", .glo "_law_asks", .glo "_law_wrong"]
def faL3 : List He.Fa := [.glo "_law_many", .glo "_law_where", .glo "_law_changed", .glo "_law_paths", .glo "_law_odd", .glo "_law_told", .glo "law", .free "len", .free "list", .free "tuple", .free "int", .free "str"]
def faL4 : List He.Fa := [.free "bool", .free "abs", .free "sum", .free "all", .free "any", .free "max", .free "min", .free "range", .free "enumerate", .free "isinstance", .free "zip", .int "MOST_CELL_BOUND" 1000000]
def faL5 : List He.Fa := [.int "MOST_DEEP" 8, .int "MOST_PARTS" 60, .int "MOST_COUNTED" 1000, .glo "MANNERS", .glo "LIMITS", .glo "RESTS", .glo "HOLDERS", .glo "FORMS", .glo "LENGTHS", .glo "is_from", .glo "is_from_or_none", .glo "Study"]
def faL6 : List He.Fa := [.cls "Study", .noat "Study" "part", .noat "Study" "layouts", .noat "Study" "tables", .noat "Study" "efforts", .mkr "Study", .glo "Reader", .cls "Reader", .noat "Reader" "part", .noat "Reader" "study", .mkr "Reader", .glo "NoPart"]
def faL7 : List He.Fa := [.glo "LimitError"]
def faL : List He.Fa := faL0 ++ (faL1 ++ (faL2 ++ (faL3 ++ (faL4 ++ (faL5 ++ (faL6 ++ (faL7)))))))
def exL0 (K : PySem.W.Frag) : List Bool := [HX.noDfl K (He.fAd K ("is_integer", none)), HX.noDfl K (He.fAd K ("is_one_of", none)), HX.noDfl K (He.fAd K ("is_cell", none)), HX.noDfl K (He.fAd K ("is_row", none)), HX.noDfl K (He.fAd K ("is_choice", none)), HX.noDfl K (He.fAd K ("is_times", none)), HX.noDfl K (He.fAd K ("is_counted", none)), HX.noDfl K (He.fAd K ("is_within", none)), HX.noDfl K (He.fAd K ("is_holder", none)), HX.noDfl K (He.fAd K ("is_need", none)), HX.noDfl K (He.fAd K ("is_pad", none)), HX.noDfl K (He.fAd K ("has_form", none))]
def exL1 (K : PySem.W.Frag) : List Bool := [HX.noDfl K (He.fAd K ("is_barred_from_told", none)), HX.noDfl K (He.fAd K ("suits_its_part", none)), HX.noDfl K (He.fAd K ("counted_parts", none)), HX.noDfl K (He.fAd K ("is_part", none)), HX.noDfl K (He.fAd K ("size_of", none)), HX.noDfl K (He.fAd K ("parts_of", none)), HX.noDfl K (He.fAd K ("subparts", none)), HX.noDfl K (He.fAd K ("first_wrong", none)), HX.noDfl K (He.fAd K ("check_part", none)), HX.noDfl K (He.fAd K ("_law_pool", none)), HX.noDfl K (He.fAd K ("_law_draw", none)), HX.noDfl K (He.fAd K ("_law_children", none))]
def exL2 (K : PySem.W.Frag) : List Bool := [HX.noDfl K (He.fAd K ("_law_size", none)), HX.noDfl K (He.fAd K ("_law_leaf", none)), HX.noDfl K (He.fAd K ("_law_options", none)), HX.noDfl K (He.fAd K ("_law_counted", none)), HX.noDfl K (He.fAd K ("_law_within", none)), HX.noDfl K (He.fAd K ("_law_part", none)), HX.noDfl K (He.fAd K ("_law_whole", none)), HX.noDfl K (He.fAd K ("_law_bound", none)), HX.noDfl K (He.fAd K ("_law_options_good", none)), HX.noDfl K (He.fAd K ("_law_form", none)), HX.noDfl K (He.fAd K ("_law_asks", none)), HX.noDfl K (He.fAd K ("_law_wrong", none))]
def exL3 (K : PySem.W.Frag) : List Bool := [HX.noDfl K (He.fAd K ("_law_many", none)), HX.noDfl K (He.fAd K ("_law_where", none)), HX.noDfl K (He.fAd K ("_law_changed", none)), HX.noDfl K (He.fAd K ("_law_paths", none)), HX.noDfl K (He.fAd K ("_law_odd", none)), HX.noDfl K (He.fAd K ("_law_told", none)), HX.noDfl K (He.fAd K ("law", none)), HX.tupB K (He.ga K "MANNERS") [He.Dv.str "checked", He.Dv.str "bare"], HX.tupB K (He.ga K "LIMITS") [He.Dv.str "nested", He.Dv.str "cut", He.Dv.str "told"], HX.tupB K (He.ga K "RESTS") [He.Dv.str "skip", He.Dv.str "exact"], HX.tupB K (He.ga K "HOLDERS") [He.Dv.str "times", He.Dv.str "counted", He.Dv.str "within", He.Dv.str "fill", He.Dv.str "if left"], decide (PySem.W.nsIn K (He.ga K "FORMS") "cell" = some (some (.ref (He.ga K "is_cell"))))]
def exL4 (K : PySem.W.Frag) : List Bool := [HX.intAt K (He.ga K "LENGTHS") "cell" 4, decide (PySem.W.nsIn K (He.ga K "FORMS") "row" = some (some (.ref (He.ga K "is_row")))), HX.intAt K (He.ga K "LENGTHS") "row" 2, decide (PySem.W.nsIn K (He.ga K "FORMS") "choice" = some (some (.ref (He.ga K "is_choice")))), HX.intAt K (He.ga K "LENGTHS") "choice" 3, decide (PySem.W.nsIn K (He.ga K "FORMS") "times" = some (some (.ref (He.ga K "is_times")))), HX.intAt K (He.ga K "LENGTHS") "times" 3, decide (PySem.W.nsIn K (He.ga K "FORMS") "counted" = some (some (.ref (He.ga K "is_counted")))), HX.intAt K (He.ga K "LENGTHS") "counted" 5, decide (PySem.W.nsIn K (He.ga K "FORMS") "within" = some (some (.ref (He.ga K "is_within")))), HX.intAt K (He.ga K "LENGTHS") "within" 6, decide (PySem.W.nsIn K (He.ga K "FORMS") "fill" = some (some (.ref (He.ga K "is_holder"))))]
def exL5 (K : PySem.W.Frag) : List Bool := [HX.intAt K (He.ga K "LENGTHS") "fill" 2, decide (PySem.W.nsIn K (He.ga K "FORMS") "if left" = some (some (.ref (He.ga K "is_holder")))), HX.intAt K (He.ga K "LENGTHS") "if left" 2, decide (PySem.W.nsIn K (He.ga K "FORMS") "need" = some (some (.ref (He.ga K "is_need")))), HX.intAt K (He.ga K "LENGTHS") "need" 2, decide (PySem.W.nsIn K (He.ga K "FORMS") "pad" = some (some (.ref (He.ga K "is_pad")))), HX.intAt K (He.ga K "LENGTHS") "pad" 3, HX.noDfl K (He.fAd K ("Study", some "__init__")), HX.noDfl K (He.fAd K ("Reader", some "__init__")), HX.oexB K (He.ga K "NoPart"), decide (PySem.W.findIn K (.ref (He.ga K "NoPart")) "path" = some none), decide (PySem.W.findIn K (.ref (He.ga K "NoPart")) "__getattribute__" = some (some (.builtin "BaseException.__getattribute__")))]
def exL6 (K : PySem.W.Frag) : List Bool := [decide (PySem.W.findIn K (.ref (He.ga K "NoPart")) "__getattr__" = some none), decide (PySem.W.subIn K (.ref (He.ga K "NoPart")) (.type "BaseException") = some true), decide (PySem.W.hasDictIn K (He.ga K "NoPart") = true), decide (PySem.W.typeIn K (.ref (He.ga K "NoPart")) = some (.type "type")), decide (PySem.W.findIn K (.ref (He.ga K "NoPart")) "__init__" = some (some (.ref (He.ma K (He.ga K "NoPart") "__init__")))), decide (PySem.W.typeIn K (.ref (He.ma K (He.ga K "NoPart") "__init__")) = some (.type "function")), HX.noDfl K (He.fAd K ("NoPart", some "__init__")), decide (PySem.W.subIn K (.ref (He.ga K "NoPart")) (.ref (He.ga K "NoPart")) = some true), decide (PySem.W.findIn K (.ref (He.ga K "NoPart")) "__class__" = some (some (.builtin "object.__class__"))), decide (PySem.W.mroIn K (He.ga K "NoPart") (.type "object") = some true), decide (PySem.W.specialIn K (.builtin "object.__class__") "__get__" = some (some (.builtin "getset_descriptor.__get__"))), decide (PySem.W.takesIn K (.builtin "object.__class__") = some true)]
def exL7 (K : PySem.W.Frag) : List Bool := [decide (PySem.W.subIn K (.ref (He.ga K "NoPart")) (.ref (He.ga K "LimitError")) = some true), decide (PySem.W.isClsIn K (He.ga K "LimitError") = true), decide (PySem.W.typeIn K (.ref (He.ga K "LimitError")) = some (.type "type")), decide (PySem.W.findIn K (.ref (He.ga K "Reader")) "__class__" = some (some (.builtin "object.__class__"))), decide (PySem.W.mroIn K (He.ga K "Reader") (.type "object") = some true), decide (PySem.W.isClsIn K (He.ga K "Reader") = true), decide (PySem.W.typeIn K (.ref (He.ga K "Reader")) = some (.type "type")), decide (PySem.W.subIn K (.type "tuple") (.ref (He.ga K "Reader")) = some false), decide (PySem.W.notFirst K (He.ga K "Reader") (.type "tuple") = true), decide (PySem.W.findIn K (.ref (He.ga K "Reader")) "__eq__" = some (some (.ref (He.ma K (He.ga K "Reader") "__eq__")))), decide (PySem.W.isFn K (.ref (He.ma K (He.ga K "Reader") "__eq__")) = true), HX.noDfl K (He.fAd K ("Reader", some "__eq__"))]
def exL (K : PySem.W.Frag) : List Bool := exL0 K ++ (exL1 K ++ (exL2 K ++ (exL3 K ++ (exL4 K ++ (exL5 K ++ (exL6 K ++ (exL7 K)))))))
def tb0 : He.Tab := (fun K => He.ga K "FORMS", ["cell", "row", "choice", "times", "counted", "within", "fill", "if left", "need", "pad"])
def tb1 : He.Tab := (fun K => He.ga K "LENGTHS", ["cell", "row", "choice", "times", "counted", "within", "fill", "if left", "need", "pad"])
def tsL : List He.Tab := [tb0, tb1]
def exB (K : PySem.W.Frag) : Bool := (exL K).all id
theorem tab_at {fa : List He.Fa} {fn : List He.DefD} {ts : List He.Tab} {w : World} {K : PySem.W.Frag} (c : He.SaysT fa fn ts w K) (i : Nat) {t : He.Tab} (h : ts[i]? = some t := by rfl) : He.dicW K (t.1 K) = some (He.keysIn w.params t.2) := by
  have e : ts.map (fun t => He.dicW K (t.1 K)) = ts.map fun t => some (He.keysIn w.params t.2) := congrArg (fun z : He.AlT => z.2) c
  have e2 : (ts.map fun t => He.dicW K (t.1 K))[i]? = (ts.map fun t => some (He.keysIn w.params t.2))[i]? := by rw [e]
  rw [List.getElem?_map, List.getElem?_map, h] at e2
  exact Option.some.inj e2
theorem facts {l : PySem.W.OpenLaw} {w : World} {K : PySem.W.Frag} {h : Heap} {mg : Str → Option Value} {f : Addr} (X : K.In h) (G : h.Ns mainGlobals mg) (hfa : mg ("law" : Str) = some (.ref f)) (c : HL.Says faL fnL tsL exB w K) :
    ∃ fd : FuncData, (∀ (s : Shared) (v : Value), BindsTo s fd ⟨[v], []⟩ [("script", v)]) ∧ ∀ base : Heap, K.In base → base.Ns mainGlobals mg → FnOk l.prog w K mg base CX0 32 f fd ["script"] (spLaw K) := by
  have E : ∀ (i : Nat) {b : Bool}, (exL K)[i]? = some b → b = true := fun i b hb => List.all_eq_true.mp (show (exL K).all id = true from c.more) b (List.mem_of_getElem? hb)
  have e := hfa.symm.trans (He.glo_ok X G (c.t.d.fact 42 (f := .glo "law") rfl))
  cases e
  obtain ⟨fd1, D1⟩ := c.t.d.def_ 0 (d := dd0) rfl
  have H1 : Fun K "is_integer" "is_integer" s_is_integer (He.fAd K ("is_integer", none)) fd1 := HX.fun_of D1 (E 0 rfl)
  obtain ⟨fd2, D2⟩ := c.t.d.def_ 1 (d := dd1) rfl
  have H2 : Fun K "is_one_of" "is_one_of" s_is_one_of (He.fAd K ("is_one_of", none)) fd2 := HX.fun_of D2 (E 1 rfl)
  obtain ⟨fd3, D3⟩ := c.t.d.def_ 2 (d := dd2) rfl
  have H3 : Fun K "is_cell" "is_cell" s_is_cell (He.fAd K ("is_cell", none)) fd3 := HX.fun_of D3 (E 2 rfl)
  obtain ⟨fd4, D4⟩ := c.t.d.def_ 3 (d := dd3) rfl
  have H4 : Fun K "is_row" "is_row" s_is_row (He.fAd K ("is_row", none)) fd4 := HX.fun_of D4 (E 3 rfl)
  obtain ⟨fd5, D5⟩ := c.t.d.def_ 4 (d := dd4) rfl
  have H5 : Fun K "is_choice" "is_choice" s_is_choice (He.fAd K ("is_choice", none)) fd5 := HX.fun_of D5 (E 4 rfl)
  obtain ⟨fd6, D6⟩ := c.t.d.def_ 5 (d := dd5) rfl
  have H6 : Fun K "is_times" "is_times" s_is_times (He.fAd K ("is_times", none)) fd6 := HX.fun_of D6 (E 5 rfl)
  obtain ⟨fd7, D7⟩ := c.t.d.def_ 6 (d := dd6) rfl
  have H7 : Fun K "is_counted" "is_counted" s_is_counted (He.fAd K ("is_counted", none)) fd7 := HX.fun_of D7 (E 6 rfl)
  obtain ⟨fd8, D8⟩ := c.t.d.def_ 7 (d := dd7) rfl
  have H8 : Fun K "is_within" "is_within" s_is_within (He.fAd K ("is_within", none)) fd8 := HX.fun_of D8 (E 7 rfl)
  obtain ⟨fd9, D9⟩ := c.t.d.def_ 8 (d := dd8) rfl
  have H9 : Fun K "is_holder" "is_holder" s_is_holder (He.fAd K ("is_holder", none)) fd9 := HX.fun_of D9 (E 8 rfl)
  obtain ⟨fd10, D10⟩ := c.t.d.def_ 9 (d := dd9) rfl
  have H10 : Fun K "is_need" "is_need" s_is_need (He.fAd K ("is_need", none)) fd10 := HX.fun_of D10 (E 9 rfl)
  obtain ⟨fd11, D11⟩ := c.t.d.def_ 10 (d := dd10) rfl
  have H11 : Fun K "is_pad" "is_pad" s_is_pad (He.fAd K ("is_pad", none)) fd11 := HX.fun_of D11 (E 10 rfl)
  obtain ⟨fd12, D12⟩ := c.t.d.def_ 11 (d := dd11) rfl
  have H12 : Fun K "has_form" "has_form" s_has_form (He.fAd K ("has_form", none)) fd12 := HX.fun_of D12 (E 11 rfl)
  obtain ⟨fd13, D13⟩ := c.t.d.def_ 12 (d := dd12) rfl
  have H13 : Fun K "is_barred_from_told" "is_barred_from_told" s_is_barred_from_told (He.fAd K ("is_barred_from_told", none)) fd13 := HX.fun_of D13 (E 12 rfl)
  obtain ⟨fd14, D14⟩ := c.t.d.def_ 13 (d := dd13) rfl
  have H14 : Fun K "suits_its_part" "suits_its_part" s_suits_its_part (He.fAd K ("suits_its_part", none)) fd14 := HX.fun_of D14 (E 13 rfl)
  obtain ⟨fd15, D15⟩ := c.t.d.def_ 14 (d := dd14) rfl
  have H15 : Fun K "counted_parts" "counted_parts" s_counted_parts (He.fAd K ("counted_parts", none)) fd15 := HX.fun_of D15 (E 14 rfl)
  obtain ⟨fd16, D16⟩ := c.t.d.def_ 15 (d := dd15) rfl
  have H16 : Fun K "is_part" "is_part" s_is_part (He.fAd K ("is_part", none)) fd16 := HX.fun_of D16 (E 15 rfl)
  obtain ⟨fd17, D17⟩ := c.t.d.def_ 16 (d := dd16) rfl
  have H17 : Fun K "size_of" "size_of" s_size_of (He.fAd K ("size_of", none)) fd17 := HX.fun_of D17 (E 16 rfl)
  obtain ⟨fd18, D18⟩ := c.t.d.def_ 17 (d := dd17) rfl
  have H18 : Fun K "parts_of" "parts_of" s_parts_of (He.fAd K ("parts_of", none)) fd18 := HX.fun_of D18 (E 17 rfl)
  obtain ⟨fd19, D19⟩ := c.t.d.def_ 18 (d := dd18) rfl
  have H19 : Fun K "subparts" "subparts" s_subparts (He.fAd K ("subparts", none)) fd19 := HX.fun_of D19 (E 18 rfl)
  obtain ⟨fd20, D20⟩ := c.t.d.def_ 19 (d := dd19) rfl
  have H20 : Fun K "first_wrong" "first_wrong" s_first_wrong (He.fAd K ("first_wrong", none)) fd20 := HX.fun_of D20 (E 19 rfl)
  obtain ⟨fd21, D21⟩ := c.t.d.def_ 20 (d := dd20) rfl
  have H21 : Fun K "check_part" "check_part" s_check_part (He.fAd K ("check_part", none)) fd21 := HX.fun_of D21 (E 20 rfl)
  obtain ⟨fd22, D22⟩ := c.t.d.def_ 21 (d := dd21) rfl
  have H22 : Fun K "_law_pool" "_law_pool" s_law_pool (He.fAd K ("_law_pool", none)) fd22 := HX.fun_of D22 (E 21 rfl)
  obtain ⟨fd23, D23⟩ := c.t.d.def_ 22 (d := dd22) rfl
  have H23 : Fun K "_law_draw" "_law_draw" s_law_draw (He.fAd K ("_law_draw", none)) fd23 := HX.fun_of D23 (E 22 rfl)
  obtain ⟨fd24, D24⟩ := c.t.d.def_ 23 (d := dd23) rfl
  have H24 : Fun K "_law_children" "_law_children" s_law_children (He.fAd K ("_law_children", none)) fd24 := HX.fun_of D24 (E 23 rfl)
  obtain ⟨fd25, D25⟩ := c.t.d.def_ 24 (d := dd24) rfl
  have H25 : Fun K "_law_size" "_law_size" s_law_size (He.fAd K ("_law_size", none)) fd25 := HX.fun_of D25 (E 24 rfl)
  obtain ⟨fd26, D26⟩ := c.t.d.def_ 25 (d := dd25) rfl
  have H26 : Fun K "_law_leaf" "_law_leaf" s_law_leaf (He.fAd K ("_law_leaf", none)) fd26 := HX.fun_of D26 (E 25 rfl)
  obtain ⟨fd27, D27⟩ := c.t.d.def_ 26 (d := dd26) rfl
  have H27 : Fun K "_law_options" "_law_options" s_law_options (He.fAd K ("_law_options", none)) fd27 := HX.fun_of D27 (E 26 rfl)
  obtain ⟨fd28, D28⟩ := c.t.d.def_ 27 (d := dd27) rfl
  have H28 : Fun K "_law_counted" "_law_counted" s_law_counted (He.fAd K ("_law_counted", none)) fd28 := HX.fun_of D28 (E 27 rfl)
  obtain ⟨fd29, D29⟩ := c.t.d.def_ 28 (d := dd28) rfl
  have H29 : Fun K "_law_within" "_law_within" s_law_within (He.fAd K ("_law_within", none)) fd29 := HX.fun_of D29 (E 28 rfl)
  obtain ⟨fd30, D30⟩ := c.t.d.def_ 29 (d := dd29) rfl
  have H30 : Fun K "_law_part" "_law_part" s_law_part (He.fAd K ("_law_part", none)) fd30 := HX.fun_of D30 (E 29 rfl)
  obtain ⟨fd31, D31⟩ := c.t.d.def_ 30 (d := dd30) rfl
  have H31 : Fun K "_law_whole" "_law_whole" s_law_whole (He.fAd K ("_law_whole", none)) fd31 := HX.fun_of D31 (E 30 rfl)
  obtain ⟨fd32, D32⟩ := c.t.d.def_ 31 (d := dd31) rfl
  have H32 : Fun K "_law_bound" "_law_bound" s_law_bound (He.fAd K ("_law_bound", none)) fd32 := HX.fun_of D32 (E 31 rfl)
  obtain ⟨fd33, D33⟩ := c.t.d.def_ 32 (d := dd32) rfl
  have H33 : Fun K "_law_options_good" "_law_options_good" s_law_options_good (He.fAd K ("_law_options_good", none)) fd33 := HX.fun_of D33 (E 32 rfl)
  obtain ⟨fd34, D34⟩ := c.t.d.def_ 33 (d := dd33) rfl
  have H34 : Fun K "_law_form" "_law_form" s_law_form (He.fAd K ("_law_form", none)) fd34 := HX.fun_of D34 (E 33 rfl)
  obtain ⟨fd35, D35⟩ := c.t.d.def_ 34 (d := dd34) rfl
  have H35 : Fun K "_law_asks" "_law_asks" s_law_asks (He.fAd K ("_law_asks", none)) fd35 := HX.fun_of D35 (E 34 rfl)
  obtain ⟨fd36, D36⟩ := c.t.d.def_ 35 (d := dd35) rfl
  have H36 : Fun K "_law_wrong" "_law_wrong" s_law_wrong (He.fAd K ("_law_wrong", none)) fd36 := HX.fun_of D36 (E 35 rfl)
  obtain ⟨fd37, D37⟩ := c.t.d.def_ 36 (d := dd36) rfl
  have H37 : Fun K "_law_many" "_law_many" s_law_many (He.fAd K ("_law_many", none)) fd37 := HX.fun_of D37 (E 36 rfl)
  obtain ⟨fd38, D38⟩ := c.t.d.def_ 37 (d := dd37) rfl
  have H38 : Fun K "_law_where" "_law_where" s_law_where (He.fAd K ("_law_where", none)) fd38 := HX.fun_of D38 (E 37 rfl)
  obtain ⟨fd39, D39⟩ := c.t.d.def_ 38 (d := dd38) rfl
  have H39 : Fun K "_law_changed" "_law_changed" s_law_changed (He.fAd K ("_law_changed", none)) fd39 := HX.fun_of D39 (E 38 rfl)
  obtain ⟨fd40, D40⟩ := c.t.d.def_ 39 (d := dd39) rfl
  have H40 : Fun K "_law_paths" "_law_paths" s_law_paths (He.fAd K ("_law_paths", none)) fd40 := HX.fun_of D40 (E 39 rfl)
  obtain ⟨fd41, D41⟩ := c.t.d.def_ 40 (d := dd40) rfl
  have H41 : Fun K "_law_odd" "_law_odd" s_law_odd (He.fAd K ("_law_odd", none)) fd41 := HX.fun_of D41 (E 40 rfl)
  obtain ⟨fd42, D42⟩ := c.t.d.def_ 41 (d := dd41) rfl
  have H42 : Fun K "_law_told" "_law_told" s_law_told (He.fAd K ("_law_told", none)) fd42 := HX.fun_of D42 (E 41 rfl)
  obtain ⟨fd43, D43⟩ := c.t.d.def_ 42 (d := dd42) rfl
  have H43 : Fun K "law" "law" s_law (He.fAd K ("law", none)) fd43 := HX.fun_of D43 (E 42 rfl)
  obtain ⟨esF, nnF, vF, ksF, loF⟩ := HX.dic_ok (tab_at c.t 0 (t := tb0) rfl)
  obtain ⟨esG, nnG, vG, ksG, loG⟩ := HX.dic_ok (tab_at c.t 1 (t := tb1) rfl)
  obtain ⟨t0, e0⟩ := HX.intAt_ok (E 48 rfl)
  obtain ⟨t1, e1⟩ := HX.intAt_ok (E 50 rfl)
  obtain ⟨t2, e2⟩ := HX.intAt_ok (E 52 rfl)
  obtain ⟨t3, e3⟩ := HX.intAt_ok (E 54 rfl)
  obtain ⟨t4, e4⟩ := HX.intAt_ok (E 56 rfl)
  obtain ⟨t5, e5⟩ := HX.intAt_ok (E 58 rfl)
  obtain ⟨t6, e6⟩ := HX.intAt_ok (E 60 rfl)
  obtain ⟨t7, e7⟩ := HX.intAt_ok (E 62 rfl)
  obtain ⟨t8, e8⟩ := HX.intAt_ok (E 64 rfl)
  obtain ⟨t9, e9⟩ := HX.intAt_ok (E 66 rfl)
  obtain ⟨fdA, DA⟩ := c.t.d.def_ 43 (d := dd43) rfl
  obtain ⟨fdB, DB⟩ := c.t.d.def_ 44 (d := dd44) rfl
  obtain ⟨fdiS, DiS⟩ := c.t.d.def_ 45 (d := dd45) rfl
  have HiS : Fun K "__init__" "Study.__init__" s_Study_init (He.fAd K ("Study", some "__init__")) fdiS := HX.fun_of DiS (E 67 rfl)
  obtain ⟨fdiR, DiR⟩ := c.t.d.def_ 46 (d := dd46) rfl
  have HiR : Fun K "__init__" "Reader.__init__" s_Reader_init (He.fAd K ("Reader", some "__init__")) fdiR := HX.fun_of DiR (E 68 rfl)
  obtain ⟨fdxN, DxN⟩ := c.t.d.def_ 47 (d := dd47) rfl
  have HxN : Fun K "__init__" "NoPart.__init__" s_NoPart_init (He.fAd K ("NoPart", some "__init__")) fdxN := HX.fun_of DxN (E 78 rfl)
  obtain ⟨fdQ, DQ⟩ := c.t.d.def_ 48 (d := dd48) rfl
  have HQ : Fun K "__eq__" "Reader.__eq__" s_Reader_eq (He.fAd K ("Reader", some "__eq__")) fdQ := HX.fun_of DQ (E 95 rfl)
  exact ⟨_, all_mk (He.glo_ok X G (c.t.d.fact 0 (f := .glo "is_integer") rfl)) H1 (He.glo_ok X G (c.t.d.fact 1 (f := .glo "is_one_of") rfl)) H2 (He.glo_ok X G (c.t.d.fact 2 (f := .glo "is_cell") rfl)) H3 (He.glo_ok X G (c.t.d.fact 3 (f := .glo "is_row") rfl)) H4 (He.glo_ok X G (c.t.d.fact 4 (f := .glo "is_choice") rfl)) H5 (He.glo_ok X G (c.t.d.fact 5 (f := .glo "is_times") rfl)) H6 (He.glo_ok X G (c.t.d.fact 6 (f := .glo "is_counted") rfl)) H7 (He.glo_ok X G (c.t.d.fact 7 (f := .glo "is_within") rfl)) H8 (He.glo_ok X G (c.t.d.fact 8 (f := .glo "is_holder") rfl)) H9 (He.glo_ok X G (c.t.d.fact 9 (f := .glo "is_need") rfl)) H10 (He.glo_ok X G (c.t.d.fact 10 (f := .glo "is_pad") rfl)) H11 (He.glo_ok X G (c.t.d.fact 11 (f := .glo "has_form") rfl)) H12 (He.glo_ok X G (c.t.d.fact 12 (f := .glo "is_barred_from_told") rfl)) H13 (He.glo_ok X G (c.t.d.fact 13 (f := .glo "suits_its_part") rfl)) H14 (He.glo_ok X G (c.t.d.fact 14 (f := .glo "counted_parts") rfl)) H15 (He.glo_ok X G (c.t.d.fact 15 (f := .glo "is_part") rfl)) H16 (He.glo_ok X G (c.t.d.fact 16 (f := .glo "size_of") rfl)) H17 (He.glo_ok X G (c.t.d.fact 17 (f := .glo "parts_of") rfl)) H18 (He.glo_ok X G (c.t.d.fact 18 (f := .glo "subparts") rfl)) H19 (He.glo_ok X G (c.t.d.fact 19 (f := .glo "first_wrong") rfl)) H20 (He.glo_ok X G (c.t.d.fact 20 (f := .glo "check_part") rfl)) H21 (He.glo_ok X G (c.t.d.fact 21 (f := .glo "_law_pool") rfl)) H22 (He.glo_ok X G (c.t.d.fact 22 (f := .glo "_law_draw") rfl)) H23 (He.glo_ok X G (c.t.d.fact 23 (f := .glo "_law_children") rfl)) H24 (He.glo_ok X G (c.t.d.fact 24 (f := .glo "_law_size") rfl)) H25 (He.glo_ok X G (c.t.d.fact 25 (f := .glo "_law_leaf") rfl)) H26 (He.glo_ok X G (c.t.d.fact 26 (f := .glo "_law_options") rfl)) H27 (He.glo_ok X G (c.t.d.fact 27 (f := .glo "_law_counted") rfl)) H28 (He.glo_ok X G (c.t.d.fact 28 (f := .glo "_law_within") rfl)) H29 (He.glo_ok X G (c.t.d.fact 29 (f := .glo "_law_part") rfl)) H30 (He.glo_ok X G (c.t.d.fact 30 (f := .glo "_law_whole") rfl)) H31 (He.glo_ok X G (c.t.d.fact 31 (f := .glo "_law_bound") rfl)) H32 (He.glo_ok X G (c.t.d.fact 32 (f := .glo "_law_options_good") rfl)) H33 (He.glo_ok X G (c.t.d.fact 33 (f := .glo "_law_form") rfl)) H34 (He.glo_ok X G (c.t.d.fact 34 (f := .glo "_law_asks") rfl)) H35 (He.glo_ok X G (c.t.d.fact 35 (f := .glo "_law_wrong") rfl)) H36 (He.glo_ok X G (c.t.d.fact 36 (f := .glo "_law_many") rfl)) H37 (He.glo_ok X G (c.t.d.fact 37 (f := .glo "_law_where") rfl)) H38 (He.glo_ok X G (c.t.d.fact 38 (f := .glo "_law_changed") rfl)) H39 (He.glo_ok X G (c.t.d.fact 39 (f := .glo "_law_paths") rfl)) H40 (He.glo_ok X G (c.t.d.fact 40 (f := .glo "_law_odd") rfl)) H41 (He.glo_ok X G (c.t.d.fact 41 (f := .glo "_law_told") rfl)) H42 (He.glo_ok X G (c.t.d.fact 42 (f := .glo "law") rfl)) H43 (He.free_ok X G (c.t.d.fact 43 (f := .free "len") rfl)) (He.free_ok X G (c.t.d.fact 44 (f := .free "list") rfl)) (He.free_ok X G (c.t.d.fact 45 (f := .free "tuple") rfl)) (He.free_ok X G (c.t.d.fact 46 (f := .free "int") rfl)) (He.free_ok X G (c.t.d.fact 47 (f := .free "str") rfl)) (He.free_ok X G (c.t.d.fact 48 (f := .free "bool") rfl)) (He.free_ok X G (c.t.d.fact 49 (f := .free "abs") rfl)) (He.free_ok X G (c.t.d.fact 50 (f := .free "sum") rfl)) (He.free_ok X G (c.t.d.fact 51 (f := .free "all") rfl)) (He.free_ok X G (c.t.d.fact 52 (f := .free "any") rfl)) (He.free_ok X G (c.t.d.fact 53 (f := .free "max") rfl)) (He.free_ok X G (c.t.d.fact 54 (f := .free "min") rfl)) (He.free_ok X G (c.t.d.fact 55 (f := .free "range") rfl)) (He.free_ok X G (c.t.d.fact 56 (f := .free "enumerate") rfl)) (He.free_ok X G (c.t.d.fact 57 (f := .free "isinstance") rfl)) (He.free_ok X G (c.t.d.fact 58 (f := .free "zip") rfl)) (He.int_ok X G (c.t.d.fact 59 (f := .int "MOST_CELL_BOUND" 1000000) rfl)) (He.int_ok X G (c.t.d.fact 60 (f := .int "MOST_DEEP" 8) rfl)) (He.int_ok X G (c.t.d.fact 61 (f := .int "MOST_PARTS" 60) rfl)) (He.int_ok X G (c.t.d.fact 62 (f := .int "MOST_COUNTED" 1000) rfl)) (He.glo_ok X G (c.t.d.fact 63 (f := .glo "MANNERS") rfl)) (HX.tup_ok (vs := [He.Dv.str "checked", He.Dv.str "bare"]) (E 43 rfl) (by show 2 ≤ sizeLine; decide)) (He.glo_ok X G (c.t.d.fact 64 (f := .glo "LIMITS") rfl)) (HX.tup_ok (vs := [He.Dv.str "nested", He.Dv.str "cut", He.Dv.str "told"]) (E 44 rfl) (by show 3 ≤ sizeLine; decide)) (He.glo_ok X G (c.t.d.fact 65 (f := .glo "RESTS") rfl)) (HX.tup_ok (vs := [He.Dv.str "skip", He.Dv.str "exact"]) (E 45 rfl) (by show 2 ≤ sizeLine; decide)) (He.glo_ok X G (c.t.d.fact 66 (f := .glo "HOLDERS") rfl)) (HX.tup_ok (vs := [He.Dv.str "times", He.Dv.str "counted", He.Dv.str "within", He.Dv.str "fill", He.Dv.str "if left"]) (E 46 rfl) (by show 5 ≤ sizeLine; decide)) (He.glo_ok X G (c.t.d.fact 67 (f := .glo "FORMS") rfl)) vF ksF loF (He.glo_ok X G (c.t.d.fact 68 (f := .glo "LENGTHS") rfl)) vG ksG loG (of_decide_eq_true (E 47 rfl)) e0 (of_decide_eq_true (E 49 rfl)) e1 (of_decide_eq_true (E 51 rfl)) e2 (of_decide_eq_true (E 53 rfl)) e3 (of_decide_eq_true (E 55 rfl)) e4 (of_decide_eq_true (E 57 rfl)) e5 (of_decide_eq_true (E 59 rfl)) e6 (of_decide_eq_true (E 61 rfl)) e7 (of_decide_eq_true (E 63 rfl)) e8 (of_decide_eq_true (E 65 rfl)) e9 (He.glo_ok X G (c.t.d.fact 69 (f := .glo "is_from") rfl)) DA (He.glo_ok X G (c.t.d.fact 70 (f := .glo "is_from_or_none") rfl)) DB (He.glo_ok X G (c.t.d.fact 71 (f := .glo "Study") rfl)) (He.cls_ok (c.t.d.fact 72 (f := .cls "Study") rfl)) (He.noat_ok (c.t.d.fact 73 (f := .noat "Study" "part") rfl)) (He.noat_ok (c.t.d.fact 74 (f := .noat "Study" "layouts") rfl)) (He.noat_ok (c.t.d.fact 75 (f := .noat "Study" "tables") rfl)) (He.noat_ok (c.t.d.fact 76 (f := .noat "Study" "efforts") rfl)) (He.mkr_ok (c.t.d.fact 77 (f := .mkr "Study") rfl)) HiS (He.glo_ok X G (c.t.d.fact 78 (f := .glo "Reader") rfl)) (He.cls_ok (c.t.d.fact 79 (f := .cls "Reader") rfl)) (He.noat_ok (c.t.d.fact 80 (f := .noat "Reader" "part") rfl)) (He.noat_ok (c.t.d.fact 81 (f := .noat "Reader" "study") rfl)) (He.mkr_ok (c.t.d.fact 82 (f := .mkr "Reader") rfl)) HiR (He.glo_ok X G (c.t.d.fact 83 (f := .glo "NoPart") rfl)) (HX.oex_ok (E 69 rfl)) (of_decide_eq_true (E 70 rfl)) (of_decide_eq_true (E 71 rfl)) (of_decide_eq_true (E 72 rfl)) (of_decide_eq_true (E 73 rfl)) (of_decide_eq_true (E 74 rfl)) (of_decide_eq_true (E 75 rfl)) (of_decide_eq_true (E 76 rfl)) (of_decide_eq_true (E 77 rfl)) HxN (of_decide_eq_true (E 79 rfl)) (of_decide_eq_true (E 80 rfl)) (of_decide_eq_true (E 81 rfl)) (of_decide_eq_true (E 82 rfl)) (of_decide_eq_true (E 83 rfl)) (He.glo_ok X G (c.t.d.fact 84 (f := .glo "LimitError") rfl)) (of_decide_eq_true (E 84 rfl)) (of_decide_eq_true (E 85 rfl)) (of_decide_eq_true (E 86 rfl)) (of_decide_eq_true (E 87 rfl)) (of_decide_eq_true (E 88 rfl)) (of_decide_eq_true (E 89 rfl)) (of_decide_eq_true (E 90 rfl)) (of_decide_eq_true (E 91 rfl)) (of_decide_eq_true (E 92 rfl)) (of_decide_eq_true (E 93 rfl)) (of_decide_eq_true (E 94 rfl)) HQ⟩
def lo0 : List Str := ["_wall", "__name__", "LimitError", "NoPart", "NoRow", "NoWord", "Stopped", "Refused", "Beyond", "Endless", "is_integer", "is_from"]
def lo1 : List Str := ["is_from_or_none", "is_one_of", "MOST_CELLS", "MOST_CELL", "LIMITS", "RESTS", "check_row", "check_bounds", "check_limit", "Limit", "Cursor", "MANNERS"]
def lo2 : List Str := ["HOLDERS", "MOST_CELL_BOUND", "MOST_DEEP", "MOST_PARTS", "MOST_COUNTED", "is_cell", "is_row", "is_choice", "is_times", "is_counted", "is_within", "is_holder"]
def lo3 : List Str := ["is_need", "is_pad", "LENGTHS", "FORMS", "has_form", "is_barred_from_told", "suits_its_part", "counted_parts", "is_part", "size_of", "parts_of", "subparts"]
def lo4 : List Str := ["Study", "first_wrong", "check_part", "Reading", "look_by", "read_number", "take_turn", "read_cell", "read_row", "read_choice", "read_times", "read_counted"]
def lo5 : List Str := ["read_within", "read_fill", "read_if_left", "read_need", "read_pad", "READINGS", "read_part", "outcome_of", "Outcome", "Reader", "_law_pool", "_law_draw"]
def lo6 : List Str := ["_law_children", "_law_size", "_law_leaf", "_law_options", "_law_counted", "_law_within", "_law_part", "_law_whole", "_law_bound", "_law_options_good", "_law_form", "_law_asks"]
def lo7 : List Str := ["_law_wrong", "_law_many", "_law_where", "_law_changed", "_law_paths", "_law_odd", "_law_told"]
def lo : List Str := lo0 ++ (lo1 ++ (lo2 ++ (lo3 ++ (lo4 ++ (lo5 ++ (lo6 ++ (lo7)))))))
abbrev R : PySem.W.OpenRow := PySem.W.OpenLaw.row PySem.Challenge.rw_withinlimits_k02_parts_and_where_they_ar
def asL : List Addr := [3,6,4,21,31,51,70,89,108,127,139,151,160,168,176,183,184,185,192,199,206,237,335,340,341,348,355,362,369,376,383,390,397,404,405,406,413,420,425,430,435,440,445,450,474,485,492,509,521,528,535,542,549,556,563,570,577,584,591,598,605,606,613,621,667,702,713,720,725,730,737,744,751,758,765,772,779,786,793,798,805,810,817,822,827,834,841,846,0,20,30,50,69,88,107,126,138,150,159,167,161,175,169,182,191,198,205,236,334,347,354,361,368,375,382,389,396,403,412,419,424,429,434,439,444,449,473,484,491,508,520,514,527,534,541,548,555,562,569,576,583,590,597,604,612,620,614,666,701,712,719,724,729,736,743,750,757,764,771,778,785,792,797,804,809,816,821,826,833,840,845,15,16,17,18,19,29,32,48,49,67,68,86,87,105,106,124,125,137,149,154,155,156,157,158,162,163,164,165,166,170,171,172,173,174,177,178,179,180,181,186,187,188,189,190,193,194,195,196,197,200,201,202,203,204,220,227,234,235,238,239,255,262,270,278,286,294,302,309,317,324,332,333,336,337,342,343,344,345,346,349,350,351,352,353,356,357,358,359,360,363,364,365,366,367,370,371,372,373,374,377,378,379,380,381,384,385,386,387,388,391,392,393,394,395,398,399,400,401,402,407,408,409,410,411,414,415,416,417,418,421,422,423,426,427,428,431,432,433,436,437,438,441,442,443,446,447,448,464,471,472,475,476,479,480,481,482,483,486,487,488,489,490,506,507,510,511,515,516,517,518,519,522,523,524,525,526,529,530,531,532,533,536,537,538,539,540,543,544,545,546,547,550,551,552,553,554,557,558,559,560,561,564,565,566,567,568,571,572,573,574,575,578,579,580,581,582,585,586,587,588,589,592,593,594,595,596,599,600,601,602,603,607,608,609,610,611,615,616,617,618,619,635,643,650,657,664,665,668,669,685,692,699,700,703,704,707,708,709,710,711,714,715,716,717,718,721,722,723,726,727,728,731,732,733,734,735,738,739,740,741,742,745,746,747,748,749,752,753,754,755,756,759,760,761,762,763,766,767,768,769,770,773,774,775,776,777,780,781,782,783,784,787,788,789,790,791,794,795,796,799,800,801,802,803,806,807,808,811,812,813,814,815,818,819,820,823,824,825,828,829,830,831,832,835,836,837,838,839,842,843,844,47,66,85,104,123,219,226,233,254,261,269,277,285,293,287,301,295,308,316,310,323,331,325,463,470,505,634,642,649,656,663,684,691,698,42,43,44,45,46,61,62,63,64,65,80,81,82,83,84,99,100,101,102,103,118,119,120,121,122,214,215,216,217,218,221,222,223,224,225,228,229,230,231,232,249,250,251,252,253,256,257,258,259,260,268,276,284,288,289,290,291,292,296,297,298,299,300,303,304,305,306,307,311,312,313,314,315,318,319,320,321,322,326,327,328,329,330,458,459,460,461,462,465,466,467,468,469,500,501,502,503,504,629,630,631,632,633,641,644,645,646,647,648,651,652,653,654,655,658,659,660,661,662,679,680,681,682,683,686,687,688,689,690,693,694,695,696,697,263,264,265,266,267,271,272,273,274,275,279,280,281,282,283,636,637,638,639,640]
abbrev hk : PySem.W.Hook := HL.hookL asL faL fnL tsL exB
def ob (s : PySem.W.SharedT) : HL.Al := HL.obsL asL faL fnL tsL exB (HandSHeadRun.getT s)
theorem ob_eq (s : PySem.W.SharedT) : ob s = hk.obs s.abs := HL.obsL_eq (HandSHeadRun.getT_eq s)
end Toy
set_option Elab.async false
set_option linter.all false
set_option maxRecDepth 100000
set_option maxHeartbeats 0
namespace Toy
open PySem PySem.Spec PyProof.Rows L2 StX DL

theorem run0 (w : World) : HandSHeadRun.RunEq R (PySem.W.view R.prog [97]) hk ob 9000 lo (w.withFollow "special-get-raises" false) := by
  intro os
  kernel_rfl
theorem run1 (w : World) : HandSHeadRun.RunEq R (PySem.W.view R.prog [97]) hk ob 9000 lo (w.withFollow "special-get-raises" true) := by
  intro os
  kernel_rfl
theorem run (w : World) : HandSHeadRun.RunEq R (PySem.W.view R.prog [97]) hk ob 9000 lo w :=
  PySem.W.byRow2 "special-get-raises" (P := fun w => HandSHeadRun.RunEq R (PySem.W.view R.prog [97]) hk ob 9000 lo w) run0 run1 w
end Toy
open PySem PySem.W PySem.Calls PyProof.Rows
theorem PySem.Challenge.cw_withinlimits_k02_parts_and_where_they_ar_holds : PySem.Challenge.rw_withinlimits_k02_parts_and_where_they_ar.Holds := by
  w_on; o_law
  refine HandSHeadRun.head_any (r := OpenLaw.row PySem.Challenge.rw_withinlimits_k02_parts_and_where_they_ar) (q := view (OpenLaw.row PySem.Challenge.rw_withinlimits_k02_parts_and_where_they_ar).prog [97]) (H := Toy.hk) (ob := Toy.ob) (M := 9000) (loose := Toy.lo) (d := HandSHeadRun.topDef (OpenLaw.row PySem.Challenge.rw_withinlimits_k02_parts_and_where_they_ar).prog 97) (kwd := []) Toy.ob_eq
    (by kernel_rfl) (fun s => by kernel_rfl) Toy.run (by kernel_rfl) (by kernel_rfl) (by kernel_rfl) (by rfl) (by first | assumption | decide +kernel) (by decide +kernel) ⟨rfl, rfl, rfl, rfl, rfl, by decide +kernel⟩ ?hw ?hc
  case hw => w_witness2
  case hc =>
    refine L2.walk_ofE (l := PySem.Challenge.rw_withinlimits_k02_parts_and_where_they_ar) (n := 63) (k := 32) (x := "script") (CX := L2.CX0) rfl (by decide) (by kernel_rfl) ⟨rfl, by decide, by decide⟩ ?F (fun _ _ _ _ z => z)
    intro w mg fa h Y G hmg0
    obtain ⟨K, KX, c⟩ := Y
    have hmg : mg ("law" : PySem.Str) = some (.ref fa) := by
      have e : (HandSHeadRun.topDef (OpenLaw.row PySem.Challenge.rw_withinlimits_k02_parts_and_where_they_ar).prog 97).name = ("law" : PySem.Str) := by kernel_rfl
      rw [← e]
      exact hmg0
    obtain ⟨fd, hb, hF⟩ := Toy.facts (l := PySem.Challenge.rw_withinlimits_k02_parts_and_where_they_ar) (w := w) KX G hmg c
    exact ⟨K, fd, Toy.spLaw K, KX, hb, fun H a ns hl _ hS => ⟨a, ns, rfl, hS, hl, fun _ => rfl⟩, hF⟩

