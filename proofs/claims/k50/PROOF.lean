import PyProof.Rows.All
import Wide.All
import OpenK.AllK
import Wide.FinOn
import HandS.ForMost
import HandS.Walk
import HandS.Zip
import HandS.Star
import HandS.Wide
import HandS.IsInst
import HandS.TupAny
import HandS.Conv
import KE.GoesZip
import KE.GoesMore
import KE.GoesEnum
import HandS.Evl
import PyProof.InstNe
import HandS.OwnEq
import HandS.SlotsOwn
import HandS.Defaults
import HandS.MakeKw
import HandS.ExcInit
import HandS.WordsExc
import HandS.ExcField
import HandS.DictComp
import HandS.TryOnly
import HandS.Property
import HandS.TryMany
import HandS.ExcIs
import KE.KExcIs
import PySem.Challenge.RW_withinlimits_k50_sets_in_their_shortest
set_option Elab.async false
set_option linter.all false
set_option maxRecDepth 100000
set_option maxHeartbeats 2000000
/-! Data that stands still, and what is owned and changed: readings of pure expressions. -/
namespace DL
open PySem L2 StX

/-! ### heaps: B stands still and may grow; O is what may change -/
def Ex (H H' : Hp) : Prop := ∀ a o, H a = some o → H' a = some o
theorem Ex.refl (H : Hp) : Ex H H := fun _ _ h => h
theorem Ex.trans {H H1 H2 : Hp} (a : Ex H H1) (b : Ex H1 H2) : Ex H H2 := fun x o h => b x o (a x o h)
theorem Ex.new {H : Hp} {p : Addr} {o : HO} (h : H p = none) : Ex H (upd H p o) := fun a u e => by
  rw [upd_ne (ne_of_none e h)]
  exact e
structure W (B O H : Hp) : Prop where
  b : Ex B H
  o : Ex O H
  d : ∀ a, B a = none ∨ O a = none
theorem none_of_ex {B H : Hp} {p : Addr} (e : Ex B H) (h : H p = none) : B p = none := by
  cases h1 : B p with
  | none => rfl
  | some o =>
    rw [e p o h1] at h
    cases h
theorem W.fb {B O H : Hp} {p : Addr} (w : W B O H) (h : H p = none) : B p = none := none_of_ex w.b h
theorem W.fo {B O H : Hp} {p : Addr} (w : W B O H) (h : H p = none) : O p = none := none_of_ex w.o h
/-- a new thing that stands still -/
theorem W.newB {B O H : Hp} {p : Addr} {u : HO} (w : W B O H) (h : H p = none) : W (upd B p u) O (upd H p u) := by
  refine ⟨fun a o e => ?_, fun a o e => ?_, fun a => ?_⟩
  · by_cases hp : a = p
    · subst hp
      rw [upd_same] at e ⊢
      exact e
    · rw [upd_ne hp] at e ⊢
      exact w.b a o e
  · rw [upd_ne (ne_of_none e (w.fo h))]
    exact w.o a o e
  · by_cases hp : a = p
    · subst hp
      exact .inr (w.fo h)
    · rw [upd_ne hp]
      exact w.d a
/-- a new thing that is owned -/
theorem W.newO {B O H : Hp} {p : Addr} {u : HO} (w : W B O H) (h : H p = none) : W B (upd O p u) (upd H p u) := by
  refine ⟨fun a o e => ?_, fun a o e => ?_, fun a => ?_⟩
  · rw [upd_ne (ne_of_none e (w.fb h))]
    exact w.b a o e
  · by_cases hp : a = p
    · subst hp
      rw [upd_same] at e ⊢
      exact e
    · rw [upd_ne hp] at e ⊢
      exact w.o a o e
  · by_cases hp : a = p
    · subst hp
      exact .inl (w.fb h)
    · rw [upd_ne hp]
      exact w.d a
/-- what is owned is changed -/
theorem W.mut {B O H : Hp} {p : Addr} {u v : HO} (w : W B O H) (h : O p = some u) : W B (upd O p v) (upd H p v) := by
  have hb : B p = none := by
    rcases w.d p with q | q
    · exact q
    · rw [q] at h; cases h
  refine ⟨fun a o e => ?_, fun a o e => ?_, fun a => ?_⟩
  · rw [upd_ne (ne_of_none e hb)]
    exact w.b a o e
  · by_cases hp : a = p
    · subst hp
      rw [upd_same] at e ⊢
      exact e
    · rw [upd_ne hp] at e ⊢
      exact w.o a o e
  · by_cases hp : a = p
    · subst hp
      exact .inl hb
    · rw [upd_ne hp]
      exact w.d a
/-- what was owned is given away, to stand still -/
theorem W.give {B O H : Hp} {p : Addr} {u : HO} (w : W B (upd O p u) H) (h : O p = none) : W (upd B p u) O H := by
  have hp' : H p = some u := w.o p u upd_same
  refine ⟨fun a o e => ?_, fun a o e => ?_, fun a => ?_⟩
  · by_cases hp : a = p
    · subst hp
      rw [upd_same] at e
      cases e
      exact hp'
    · rw [upd_ne hp] at e
      exact w.b a o e
  · have hp : a ≠ p := ne_of_none e h
    exact w.o a o (by rw [upd_ne hp]; exact e)
  · by_cases hp : a = p
    · subst hp
      exact .inr h
    · rw [upd_ne hp]
      have := w.d a
      rw [upd_ne hp] at this
      exact this
theorem W.bnone {B O H : Hp} {p : Addr} {u : HO} (w : W B O H) (h : O p = some u) : B p = none := by
  rcases w.d p with q | q
  · exact q
  · rw [q] at h; cases h

/-! ### data: as Dp, each list tracked -/
mutual
inductive Dt (K : PySem.W.Frag) (B : Hp) : V → PyData → Prop
  | non : Dt K B .non .none
  | bl (b : Bool) : Dt K B (.bl b) (.bool b)
  | int (i : Int) : Dt K B (.int i) (.int i)
  | str (x : Str) : Dt K B (.str x) (.str x)
  | lst {a : Addr} {xs : List V} {ds : List PyData} : B a = some (.lst xs) → DtAll K B xs ds → Dt K B (.ref a) (.list ds)
  | tup {a : Addr} {xs : List V} {ds : List PyData} : SqT K B a xs → DtAll K B xs ds → Dt K B (.ref a) (.tuple ds)
  | dct {a : Addr} : B a = some (.dK []) → Dt K B (.ref a) (.dict [])
inductive DtAll (K : PySem.W.Frag) (B : Hp) : List V → List PyData → Prop
  | nil : DtAll K B [] []
  | cons {v : V} {vs : List V} {d : PyData} {ds : List PyData} : Dt K B v d → DtAll K B vs ds → DtAll K B (v :: vs) (d :: ds)
end
mutual
theorem dt_dp {K : PySem.W.Frag} {B : Hp} : ∀ (d : PyData) (v : V), d.canLay0 = true → Dt K B v d → Dp K B v d
  | .none, _, _, h => by cases h; exact .non
  | .bool b, _, _, h => by cases h; exact .bl b
  | .int i, _, _, h => by cases h; exact .int i
  | .str x, _, _, h => by cases h; exact .str x
  | .list ds, _, c, h => by
    cases h with
    | lst hs ha => exact .lst (.inl (.inl hs)) (dt_dps ds _ c ha)
  | .tuple ds, _, c, h => by
    cases h with
    | tup hs ha => exact .tup hs (dt_dps ds _ c ha)
  | .dict _, _, c, _ => by cases c
theorem dt_dps {K : PySem.W.Frag} {B : Hp} : ∀ (ds : List PyData) (vs : List V), PyData.canLayAll0 ds = true → DtAll K B vs ds → DpAll K B vs ds
  | [], _, _, h => by cases h; exact .nil
  | d :: ds, _, c, h => by
    have c2 : (d.canLay0 && PyData.canLayAll0 ds) = true := c
    rw [Bool.and_eq_true] at c2
    cases h with
    | cons h1 h2 => exact .cons (dt_dp d _ c2.1 h1) (dt_dps ds _ c2.2 h2)
end
theorem rd_ex {B B' : Hp} {a : Addr} {u : HO} (e : Ex B B') (h : Rd B a u) : Rd B' a u := by
  rcases h with h | ⟨o, h⟩
  · exact Or.inl (e a _ h)
  · exact Or.inr ⟨o, e a _ h⟩
theorem sl_ex {K : PySem.W.Frag} {B B' : Hp} {a : Addr} {xs : List V} (e : Ex B B') (h : SqL K B a xs) : SqL K B' a xs := by
  rcases h with h | h
  · exact Or.inl (rd_ex e h)
  · exact Or.inr h
theorem st_ex {K : PySem.W.Frag} {B B' : Hp} {a : Addr} {xs : List V} (e : Ex B B') (h : SqT K B a xs) : SqT K B' a xs := by
  rcases h with h | h
  · exact Or.inl (rd_ex e h)
  · exact Or.inr h
mutual
theorem dp_ex {K : PySem.W.Frag} {B B' : Hp} (e : Ex B B') : ∀ (d : PyData) (v : V), Dt K B v d → Dt K B' v d
  | .none, _, h => by cases h; exact .non
  | .bool b, _, h => by cases h; exact .bl b
  | .int i, _, h => by cases h; exact .int i
  | .str x, _, h => by cases h; exact .str x
  | .list ds, _, h => by
    cases h with
    | lst hs ha => exact .lst (e _ _ hs) (dps_ex e ds _ ha)
  | .tuple ds, _, h => by
    cases h with
    | tup hs ha => exact .tup (st_ex e hs) (dps_ex e ds _ ha)
  | .dict _, _, h => by
    cases h with
    | dct h => exact .dct (e _ _ h)
theorem dps_ex {K : PySem.W.Frag} {B B' : Hp} (e : Ex B B') : ∀ (ds : List PyData) (vs : List V), DtAll K B vs ds → DtAll K B' vs ds
  | [], _, h => by cases h; exact .nil
  | d :: ds, _, h => by
    cases h with
    | cons h1 h2 => exact .cons (dp_ex e d _ h1) (dps_ex e ds _ h2)
end
section
variable {K : PySem.W.Frag} {B : Hp}
theorem dps_len : ∀ {ds : List PyData} {vs : List V}, DtAll K B vs ds → vs.length = ds.length
  | [], _, h => by cases h; rfl
  | _ :: ds, _, h => by
    cases h with
    | cons h1 h2 => simp [dps_len h2]
theorem dps_get : ∀ {ds : List PyData} {vs : List V} {i : Nat} {d : PyData}, DtAll K B vs ds → ds[i]? = some d → ∃ v, vs[i]? = some v ∧ Dt K B v d
  | [], _, _, _, _, h => by simp at h
  | x :: ds, _, 0, d, h, e => by
    cases h with
    | cons h1 h2 =>
      simp at e
      subst e
      exact ⟨_, rfl, h1⟩
  | x :: ds, _, i + 1, d, h, e => by
    cases h with
    | cons h1 h2 =>
      simp at e
      obtain ⟨v, hv, dv⟩ := dps_get h2 e
      exact ⟨v, by simpa using hv, dv⟩
theorem dps_getV : ∀ {ds : List PyData} {vs : List V} {i : Nat} {v : V}, DtAll K B vs ds → vs[i]? = some v → ∃ d, ds[i]? = some d ∧ Dt K B v d
  | [], _, _, _, h, e => by cases h; simp at e
  | x :: ds, _, 0, v, h, e => by
    cases h with
    | cons h1 h2 =>
      simp at e
      subst e
      exact ⟨_, rfl, h1⟩
  | x :: ds, _, i + 1, v, h, e => by
    cases h with
    | cons h1 h2 =>
      simp at e
      obtain ⟨d, hd, dv⟩ := dps_getV h2 e
      exact ⟨d, by simpa using hd, dv⟩
theorem dps_app : ∀ {ds es : List PyData} {vs ws : List V}, DtAll K B vs ds → DtAll K B ws es → DtAll K B (vs ++ ws) (ds ++ es)
  | [], _, _, _, h, g => by cases h; exact g
  | _ :: ds, _, _, _, h, g => by
    cases h with
    | cons h1 h2 => exact .cons h1 (dps_app h2 g)
theorem dps_one {v : V} {d : PyData} (h : Dt K B v d) : DtAll K B [v] [d] := .cons h .nil
theorem dps_take : ∀ {ds : List PyData} {vs : List V} (n : Nat), DtAll K B vs ds → DtAll K B (vs.take n) (ds.take n)
  | _, _, 0, _ => by simp; exact .nil
  | [], _, n + 1, h => by cases h; simp; exact .nil
  | _ :: ds, _, n + 1, h => by
    cases h with
    | cons h1 h2 => simp; exact .cons h1 (dps_take n h2)
theorem dps_drop : ∀ {ds : List PyData} {vs : List V} (n : Nat), DtAll K B vs ds → DtAll K B (vs.drop n) (ds.drop n)
  | _, _, 0, h => by simpa using h
  | [], _, n + 1, h => by cases h; simp; exact .nil
  | _ :: ds, _, n + 1, h => by
    cases h with
    | cons h1 h2 => simp; exact dps_drop n h2
theorem dps_set : ∀ {ds : List PyData} {vs : List V} {v : V} {d : PyData} (j : Nat), DtAll K B vs ds → Dt K B v d → DtAll K B (vs.set j v) (ds.set j d)
  | [], _, _, _, _, h, _ => by cases h; exact .nil
  | _ :: ds, _, _, _, 0, h, g => by
    cases h with
    | cons h1 h2 => exact .cons g h2
  | _ :: ds, _, _, _, j + 1, h, g => by
    cases h with
    | cons h1 h2 => exact .cons h1 (dps_set j h2 g)
theorem dp_int {v : V} {i : Int} (h : Dt K B v (.int i)) : v = .int i := by cases h; rfl
theorem dp_bool {v : V} {b : Bool} (h : Dt K B v (.bool b)) : v = .bl b := by cases h; rfl
theorem dp_str {v : V} {x : Str} (h : Dt K B v (.str x)) : v = .str x := by cases h; rfl
theorem dp_none {v : V} (h : Dt K B v .none) : v = .non := by cases h; rfl
theorem dp_tup {v : V} {ds : List PyData} (h : Dt K B v (.tuple ds)) : ∃ a xs, v = .ref a ∧ SqT K B a xs ∧ DtAll K B xs ds := by
  cases h with
  | tup h1 h2 => exact ⟨_, _, rfl, h1, h2⟩
theorem dp_lst {v : V} {ds : List PyData} (h : Dt K B v (.list ds)) : ∃ a xs, v = .ref a ∧ B a = some (.lst xs) ∧ DtAll K B xs ds := by
  cases h with
  | lst h1 h2 => exact ⟨_, _, rfl, h1, h2⟩
theorem dps_ints : ∀ {ns : List Int} {vs : List V}, DtAll K B vs (ns.map .int) → vs = ns.map V.int
  | [], _, h => by cases h; rfl
  | n :: ns, _, h => by
    cases h with
    | cons h1 h2 =>
      rw [dp_int h1, dps_ints h2]
      rfl
theorem dps_bools : ∀ {ns : List Bool} {vs : List V}, DtAll K B vs (ns.map .bool) → vs = ns.map V.bl
  | [], _, h => by cases h; rfl
  | n :: ns, _, h => by
    cases h with
    | cons h1 h2 =>
      rw [dp_bool h1, dps_bools h2]
      rfl
theorem ints_dps : ∀ (ns : List Int), DtAll K B (ns.map V.int) (ns.map .int)
  | [] => .nil
  | n :: ns => .cons (.int n) (ints_dps ns)
end
/-- the flat data -/
def fv : PyData → V
  | .none => .non
  | .bool b => .bl b
  | .int i => .int i
  | .str x => .str x
  | _ => .ref 0
def flatD : PyData → Bool
  | .none => true
  | .bool _ => true
  | .int _ => true
  | .str _ => true
  | _ => false
theorem fv_of {K : PySem.W.Frag} {B : Hp} {v : V} {d : PyData} (h : Dt K B v d) (f : flatD d = true) : v = fv d ∧ flatV v = true := by
  cases h with
  | non => exact ⟨rfl, rfl⟩
  | bl => exact ⟨rfl, rfl⟩
  | int => exact ⟨rfl, rfl⟩
  | str => exact ⟨rfl, rfl⟩
  | lst => cases f
  | tup => cases f
  | dct => cases f
theorem fvs_of {K : PySem.W.Frag} {B : Hp} : ∀ {ds : List PyData} {vs : List V}, DtAll K B vs ds → ds.all flatD = true → vs = ds.map fv ∧ vs.all flatV = true
  | [], _, h, _ => by cases h; exact ⟨rfl, rfl⟩
  | d :: ds, _, h, f => by
    rw [List.all_cons, Bool.and_eq_true] at f
    cases h with
    | cons h1 h2 =>
      obtain ⟨e1, f1⟩ := fv_of h1 f.1
      obtain ⟨e2, f2⟩ := fvs_of h2 f.2
      refine ⟨by rw [e1, e2]; rfl, ?_⟩
      rw [List.all_cons, f1, f2]
      rfl

/-! ### slots -/
inductive SD where
  | un
  | dat (d : PyData)
  | val (v : V)
def SlotOk (K : PySem.W.Frag) (B : Hp) : Option V → SD → Prop
  | _, .un => True
  | ov, .dat d => ∃ v, ov = some v ∧ Dt K B v d
  | ov, .val v => ov = some v
def Slots (K : PySem.W.Frag) (B : Hp) : L2.St → List SD → Prop
  | [], [] => True
  | s :: σ, g :: G => SlotOk K B s g ∧ Slots K B σ G
  | _, _ => False
section
variable {K : PySem.W.Frag} {B B' : Hp}
theorem SlotOk.ex (e : Ex B B') {s : Option V} {g : SD} (h : SlotOk K B s g) : SlotOk K B' s g := by
  cases g with
  | un => exact trivial
  | dat d =>
    obtain ⟨v, hv, hd⟩ := h
    exact ⟨v, hv, dp_ex e d v hd⟩
  | val v => exact h
theorem Slots.ex (e : Ex B B') : ∀ {σ : L2.St} {G : List SD}, Slots K B σ G → Slots K B' σ G
  | [], [], _ => trivial
  | _ :: _, _ :: _, h => ⟨h.1.ex e, Slots.ex e h.2⟩
  | [], _ :: _, h => h.elim
  | _ :: _, [], h => h.elim
theorem Slots.get : ∀ {σ : L2.St} {G : List SD} {i : Nat} {g : SD}, Slots K B σ G → G[i]? = some g → ∃ s, σ[i]? = some s ∧ SlotOk K B s g
  | [], [], _, _, _, e => by simp at e
  | s :: _, g :: _, 0, _, h, e => by
    simp at e
    subst e
    exact ⟨s, rfl, h.1⟩
  | _ :: _, _ :: _, i + 1, _, h, e => by
    simp at e
    obtain ⟨s, hs, ho⟩ := Slots.get h.2 e
    exact ⟨s, by simpa using hs, ho⟩
  | [], _ :: _, _, _, h, _ => h.elim
  | _ :: _, [], _, _, h, _ => h.elim
theorem Slots.set : ∀ {σ : L2.St} {G : List SD} (i : Nat) {s : Option V} {g : SD}, Slots K B σ G → SlotOk K B s g → Slots K B (σ.set i s) (G.set i g)
  | [], [], _, _, _, _, _ => trivial
  | _ :: _, _ :: _, 0, _, _, h, q => ⟨q, h.2⟩
  | _ :: _, _ :: _, i + 1, _, _, h, q => ⟨h.1, Slots.set i h.2 q⟩
  | [], _ :: _, _, _, _, h, _ => h.elim
  | _ :: _, [], _, _, _, h, _ => h.elim
def wipeG (G : List SD) : List Nat → List SD
  | [] => G
  | v :: vs => (wipeG G vs).set v .un
theorem Slots.wipe {σ : L2.St} {G : List SD} (h : Slots K B σ G) : ∀ vs : List Nat, Slots K B (L2.wipe σ vs) (wipeG G vs)
  | [] => h
  | v :: vs => Slots.set v (Slots.wipe h vs) trivial
end

/-- where one stands -/
structure Sta (K : PySem.W.Frag) (B O : Hp) (G : List SD) (σ : L2.St) (H : Hp) : Prop where
  w : W B O H
  s : Slots K B σ G
theorem Sta.ex {K : PySem.W.Frag} {B B' O : Hp} {G : List SD} {σ : L2.St} {H H' : Hp} (s : Sta K B O G σ H) (e : Ex B B') (w : W B' O H') : Sta K B' O G σ H' := ⟨w, s.s.ex e⟩
theorem Sta.set {K : PySem.W.Frag} {B O : Hp} {G : List SD} {σ : L2.St} {H : Hp} (s : Sta K B O G σ H) (i : Nat) {v : V} {d : PyData} (h : Dt K B v d) : Sta K B O (G.set i (.dat d)) (σ.set i (some v)) H := ⟨s.w, s.s.set i ⟨v, rfl, h⟩⟩
theorem Sta.setV {K : PySem.W.Frag} {B O : Hp} {G : List SD} {σ : L2.St} {H : Hp} (s : Sta K B O G σ H) (i : Nat) {v : V} : Sta K B O (G.set i (.val v)) (σ.set i (some v)) H := ⟨s.w, s.s.set i rfl⟩

/-! ### what evaluates to what -/
section
variable (K : PySem.W.Frag) (B O : Hp) (G : List SD)
def EvD (te : TE) (d : PyData) : Prop := ∀ B1 O1 σ H, Ex B B1 → Ex O O1 → Sta K B1 O1 G σ H → ∀ Q : VK, (∀ v B' H', Ex B1 B' → W B' O1 H' → Dt K B' v d → Q v H') → te σ H Q
def EvV (te : TE) (v : V) : Prop := ∀ B1 O1 σ H, Ex B B1 → Ex O O1 → Sta K B1 O1 G σ H → ∀ Q : VK, (∀ B' H', Ex B1 B' → W B' O1 H' → Q v H') → te σ H Q
def EvT (tt : TT) (b : Bool) : Prop := ∀ B1 O1 σ H, Ex B B1 → Ex O O1 → Sta K B1 O1 G σ H → ∀ Q : Bool → Hp → Prop, (∀ B' H', Ex B1 B' → W B' O1 H' → Q b H') → tt σ H Q
def EvA (ta : TA) (ds : List PyData) : Prop := ∀ B1 O1 σ H, Ex B B1 → Ex O O1 → Sta K B1 O1 G σ H → ∀ Q : List V → Hp → Prop, (∀ vs B' H', Ex B1 B' → W B' O1 H' → DtAll K B' vs ds → Q vs H') → ta σ H Q
def EvO (to : TO) (o : Option Int) : Prop := ∀ B1 O1 σ H, Ex B B1 → Ex O O1 → Sta K B1 O1 G σ H → ∀ Q : Option Int → Hp → Prop, (∀ B' H', Ex B1 B' → W B' O1 H' → Q o H') → to σ H Q
/-- an operator on data -/
def RD (K : PySem.W.Frag) (r : R2) (x y z : PyData) : Prop := ∀ B1 O1 H v w, W B1 O1 H → Dt K B1 v x → Dt K B1 w y → ∀ Q : VK, (∀ u B' H', Ex B1 B' → W B' O1 H' → Dt K B' u z → Q u H') → r v w H Q
/-- a built-in on data -/
def RC (K : PySem.W.Frag) (r : List V → Hp → VK → Prop) (xs : List PyData) (z : PyData) : Prop := ∀ B1 O1 H vs, W B1 O1 H → DtAll K B1 vs xs → ∀ Q : VK, (∀ u B' H', Ex B1 B' → W B' O1 H' → Dt K B' u z → Q u H') → r vs H Q
end
section
variable {K : PySem.W.Frag} {B B' O : Hp} {G : List SD} {ta tb te tc : TE} {t u : TT} {r : R2} {d x y z : PyData}
theorem EvD.ex (h : EvD K B O G te d) (e : Ex B B') : EvD K B' O G te d := fun B1 O1 σ H e1 o s Q q => h B1 O1 σ H (e.trans e1) o s Q q
theorem EvT.ex {b : Bool} (h : EvT K B O G t b) (e : Ex B B') : EvT K B' O G t b := fun B1 O1 σ H e1 o s Q q => h B1 O1 σ H (e.trans e1) o s Q q
theorem ev_is (h : EvD K B O G te d) (e : d = x) : EvD K B O G te x := by
  rw [← e]
  exact h
theorem et_is {a b : Bool} (h : EvT K B O G t a) (e : a = b) : EvT K B O G t b := by
  rw [← e]
  exact h
theorem ev_var {i : Nat} (h : G[i]? = some (.dat d)) : EvD K B O G (tVar i) d := fun B1 O1 σ H _ o s Q q => by
  obtain ⟨sv, h1, v, rfl, h2⟩ := s.s.get h
  exact ⟨v, h1, q v B1 H (Ex.refl _) s.w h2⟩
theorem evV_var {i : Nat} {v : V} (h : G[i]? = some (.val v)) : EvV K B O G (tVar i) v := fun B1 O1 σ H _ o s Q q => by
  obtain ⟨sv, h1, h2⟩ := s.s.get h
  have h3 : sv = some v := h2
  subst h3
  exact ⟨v, h1, q B1 H (Ex.refl _) s.w⟩
theorem ev_c {v : V} (h : ∀ H : Hp, Dt K H v d) : EvD K B O G (tC v) d := fun B1 _ _ H _ _ s Q q => q v B1 H (Ex.refl _) s.w (h B1)
theorem ev_int {i : Int} : EvD K B O G (tC (.int i)) (.int i) := ev_c fun _ => .int i
theorem ev_bl {b : Bool} : EvD K B O G (tC (.bl b)) (.bool b) := ev_c fun _ => .bl b
theorem ev_str {x : Str} : EvD K B O G (tC (.str x)) (.str x) := ev_c fun _ => .str x
theorem ev_non : EvD K B O G (tC .non) .none := ev_c fun _ => .non
theorem ev_op (ha : EvD K B O G ta x) (hb : EvD K B O G tb y) (hr : RD K r x y z) : EvD K B O G (tOp r ta tb) z := fun B1 O1 σ H e o s Q q =>
  ha B1 O1 σ H e o s _ fun v B2 H2 e2 w2 d2 => hb B2 O1 σ H2 (e.trans e2) o (s.ex e2 w2) _ fun v' B3 H3 e3 w3 d3 =>
    hr B3 O1 H3 v v' w3 (dp_ex e3 _ _ d2) d3 Q fun u B4 H4 e4 w4 d4 => q u B4 H4 ((e2.trans e3).trans e4) w4 d4
theorem ea_nil : EvA K B O G tNil [] := fun B1 _ _ H _ _ s Q q => q [] B1 H (Ex.refl _) s.w .nil
theorem ea_cons {tr : TA} {ds : List PyData} (h : EvD K B O G ta d) (hr : EvA K B O G tr ds) : EvA K B O G (tCons ta tr) (d :: ds) := fun B1 O1 σ H e o s Q q =>
  h B1 O1 σ H e o s _ fun v B2 H2 e2 w2 d2 => hr B2 O1 σ H2 (e.trans e2) o (s.ex e2 w2) _ fun vs B3 H3 e3 w3 d3 => q (v :: vs) B3 H3 (e2.trans e3) w3 (.cons (dp_ex e3 _ _ d2) d3)
theorem sz_of {n : Nat} (h : n ≤ 100000) : n ≤ sizeLine := Nat.le_trans h (by decide)
theorem ev_tup {t : TA} {ds : List PyData} (h : EvA K B O G t ds) (hl : ds.length ≤ 100000) : EvD K B O G (tTup t) (.tuple ds) := fun B1 O1 σ H e o s Q q =>
  h B1 O1 σ H e o s _ fun vs B2 H2 e2 w2 d2 => ⟨by rw [dps_len d2]; exact sz_of hl, fun p hp => q _ (upd B2 p (.tup vs)) _ (e2.trans (Ex.new (w2.fb hp))) (w2.newB hp) (.tup (.inl (.inl upd_same)) (dps_ex (Ex.new (w2.fb hp)) _ _ d2))⟩
theorem ev_lst {t : TA} {ds : List PyData} (h : EvA K B O G t ds) (hl : ds.length ≤ 100000) : EvD K B O G (tLst t) (.list ds) := fun B1 O1 σ H e o s Q q =>
  h B1 O1 σ H e o s _ fun vs B2 H2 e2 w2 d2 => ⟨by rw [dps_len d2]; exact sz_of hl, fun p hp => q _ (upd B2 p (.lst vs)) _ (e2.trans (Ex.new (w2.fb hp))) (w2.newB hp) (.lst upd_same (dps_ex (Ex.new (w2.fb hp)) _ _ d2))⟩
/-- *e within a display: e a tuple -/
theorem ea_star {t : TA} {es ds : List PyData} (h : EvD K B O G te (.tuple es)) (hr : EvA K B O G t ds) : EvA K B O G (tStar K te t) (es ++ ds) := fun B1 O1 σ H e o s Q q =>
  h B1 O1 σ H e o s _ fun v B2 H2 e2 w2 d2 => by
    obtain ⟨a, xs, rfl, h1, h2⟩ := dp_tup d2
    refine ⟨a, xs, rfl, .inl (st_ex w2.b h1), ?_⟩
    exact hr B2 O1 σ H2 (e.trans e2) o (s.ex e2 w2) _ fun vs B3 H3 e3 w3 d3 => q _ B3 H3 (e2.trans e3) w3 (dps_app (dps_ex e3 _ _ h2) d3)
/-! tests -/
theorem et_test {b : Bool} (h : EvD K B O G te (.bool b)) : EvT K B O G (tTest te) b := fun B1 O1 σ H e o s Q q => h B1 O1 σ H e o s _ fun v B2 H2 e2 w2 d2 => ⟨b, dp_bool d2, q B2 H2 e2 w2⟩
theorem et_B {b : Bool} (h : EvD K B O G te (.bool b)) : EvT K B O G (tB te) b := fun B1 O1 σ H e o s Q q => h B1 O1 σ H e o s _ fun v B2 H2 e2 w2 d2 => ⟨b, dp_bool d2, q B2 H2 e2 w2⟩
theorem et_yes : EvT K B O G tYes true := fun B1 O1 σ H _ o s Q q => q B1 H (Ex.refl _) s.w
theorem et_and {a b : Bool} (h1 : EvT K B O G t a) (h2 : a = true → EvT K B O G u b) : EvT K B O G (tAnd t u) (a && b) := fun B1 O1 σ H e o s Q q => h1 B1 O1 σ H e o s _ fun B2 H2 e2 w2 => by
  cases a with
  | true =>
    show u σ H2 Q
    exact h2 rfl B2 O1 σ H2 (e.trans e2) o (s.ex e2 w2) Q fun B3 H3 e3 w3 => q B3 H3 (e2.trans e3) w3
  | false =>
    show Q false H2
    exact q B2 H2 e2 w2
theorem et_or {a b : Bool} (h1 : EvT K B O G t a) (h2 : a = false → EvT K B O G u b) : EvT K B O G (tOr t u) (a || b) := fun B1 O1 σ H e o s Q q => h1 B1 O1 σ H e o s _ fun B2 H2 e2 w2 => by
  cases a with
  | true =>
    show Q true H2
    exact q B2 H2 e2 w2
  | false =>
    show u σ H2 Q
    exact h2 rfl B2 O1 σ H2 (e.trans e2) o (s.ex e2 w2) Q fun B3 H3 e3 w3 => q B3 H3 (e2.trans e3) w3
theorem et_not {a : Bool} (h1 : EvT K B O G t a) : EvT K B O G (tNot t) (!a) := fun B1 O1 σ H e o s Q q => h1 B1 O1 σ H e o s _ fun B2 H2 e2 w2 => q B2 H2 e2 w2
theorem ev_andV {a b : Bool} (h1 : EvD K B O G ta (.bool a)) (h2 : a = true → EvD K B O G tb (.bool b)) : EvD K B O G (tAndV ta tb) (.bool (a && b)) := fun B1 O1 σ H e o s Q q => h1 B1 O1 σ H e o s _ fun v B2 H2 e2 w2 d2 => ⟨a, dp_bool d2, by
  cases a with
  | true =>
    show tb σ H2 Q
    exact h2 rfl B2 O1 σ H2 (e.trans e2) o (s.ex e2 w2) Q fun v B3 H3 e3 w3 d3 => q v B3 H3 (e2.trans e3) w3 d3
  | false =>
    show Q (.bl false) H2
    exact q _ B2 H2 e2 w2 (.bl false)⟩
theorem ev_orV {a b : Bool} (h1 : EvD K B O G ta (.bool a)) (h2 : a = false → EvD K B O G tb (.bool b)) : EvD K B O G (tOrV ta tb) (.bool (a || b)) := fun B1 O1 σ H e o s Q q => h1 B1 O1 σ H e o s _ fun v B2 H2 e2 w2 d2 => ⟨a, dp_bool d2, by
  cases a with
  | true =>
    show Q (.bl true) H2
    exact q _ B2 H2 e2 w2 (.bl true)
  | false =>
    show tb σ H2 Q
    exact h2 rfl B2 O1 σ H2 (e.trans e2) o (s.ex e2 w2) Q fun v B3 H3 e3 w3 d3 => q v B3 H3 (e2.trans e3) w3 d3⟩
theorem ev_notV {a : Bool} (h1 : EvD K B O G ta (.bool a)) : EvD K B O G (tNotV ta) (.bool (!a)) := fun B1 O1 σ H e o s Q q => h1 B1 O1 σ H e o s _ fun v B2 H2 e2 w2 d2 => ⟨a, dp_bool d2, q _ B2 H2 e2 w2 (.bl _)⟩
theorem ev_if {b : Bool} (h : EvT K B O G t b) (h1 : b = true → EvD K B O G ta d) (h2 : b = false → EvD K B O G tb d) : EvD K B O G (tIf t ta tb) d := fun B1 O1 σ H e o s Q q => h B1 O1 σ H e o s _ fun B2 H2 e2 w2 => by
  cases b with
  | true =>
    show ta σ H2 Q
    exact h1 rfl B2 O1 σ H2 (e.trans e2) o (s.ex e2 w2) Q fun v B3 H3 e3 w3 d3 => q v B3 H3 (e2.trans e3) w3 d3
  | false =>
    show tb σ H2 Q
    exact h2 rfl B2 O1 σ H2 (e.trans e2) o (s.ex e2 w2) Q fun v B3 H3 e3 w3 d3 => q v B3 H3 (e2.trans e3) w3 d3
theorem ev_isN {b : Bool} (h : EvD K B O G ta d) (e : (match d with | .none => true | _ => false) = b) : EvD K B O G (tOp (fun x y H Q => y = .non ∧ Q (.bl (decide (x = .non))) H) ta (tC .non)) (.bool b) := fun B1 O1 σ H e1 o s Q q =>
  h B1 O1 σ H e1 o s _ fun v B2 H2 e2 w2 d2 => ⟨rfl, by
    have : decide (v = V.non) = b := by
      rw [← e]
      cases d2 <;> simp
    rw [this]
    exact q _ B2 H2 e2 w2 (.bl b)⟩
end
end DL

set_option Elab.async false
set_option linter.all false
set_option maxRecDepth 100000
set_option maxHeartbeats 2000000
namespace DL
open PySem L2 StX
/-! ### operators -/
section
variable {K : PySem.W.Frag} {B O : Hp} {i j : Int} {d e : PyData} {ds es : List PyData}
theorem rd_I0 {f : Int → Int → Int} : RD K (rI0 fun i j => .int (f i j)) (.int i) (.int j) (.int (f i j)) := fun B1 O1 H v w hw hv hx Q q => by
  rw [dp_int hv, dp_int hx]
  exact ⟨i, j, rfl, rfl, q _ B1 H (Ex.refl _) hw (.int _)⟩
theorem rd_B0 {f : Int → Int → Bool} : RD K (rI0 fun i j => .bl (f i j)) (.int i) (.int j) (.bool (f i j)) := fun B1 O1 H v w hw hv hx Q q => by
  rw [dp_int hv, dp_int hx]
  exact ⟨i, j, rfl, rfl, q _ B1 H (Ex.refl _) hw (.bl _)⟩
theorem rd_I {C : Int → Int → Prop} {f : Int → Int → Int} (hc : C i j) : RD K (rI C fun i j => .int (f i j)) (.int i) (.int j) (.int (f i j)) := fun B1 O1 H v w hw hv hx Q q => by
  rw [dp_int hv, dp_int hx]
  exact ⟨i, j, rfl, rfl, hc, q _ B1 H (Ex.refl _) hw (.int _)⟩
theorem atI_get {ds : List PyData} {vs : List V} {i : Int} {d : PyData} {B : Hp} (h : DtAll K B vs ds) (e : atI ds i = some d) : ∃ v, atI vs i = some v ∧ Dt K B v d := by
  unfold atI at e ⊢
  rw [dps_len h]
  cases hj : ixN ds.length i with
  | none => rw [hj] at e; cases e
  | some j =>
    rw [hj] at e
    exact dps_get h e
theorem rd_ixT (h : atI ds i = some d) : RD K (rIxT K) (.tuple ds) (.int i) d := fun B1 O1 H v w hw hv hx Q q => by
  obtain ⟨a, xs, rfl, h1, h2⟩ := dp_tup hv
  obtain ⟨v', h3, h4⟩ := atI_get h2 h
  rw [dp_int hx]
  exact ⟨a, xs, i, v', rfl, rfl, st_ex hw.b h1, h3, q _ B1 H (Ex.refl _) hw h4⟩
theorem rd_ixL (h : atI ds i = some d) : RD K (rIxL K) (.list ds) (.int i) d := fun B1 O1 H v w hw hv hx Q q => by
  obtain ⟨a, xs, rfl, h1, h2⟩ := dp_lst hv
  obtain ⟨v', h3, h4⟩ := atI_get h2 h
  rw [dp_int hx]
  exact ⟨a, xs, i, v', rfl, rfl, .inl (.inl (hw.b _ _ h1)), h3, q _ B1 H (Ex.refl _) hw h4⟩
theorem rd_eq {b : Bool} (hd : SeqAt.shaped d = true) (he : SeqAt.shaped e = true) (h : PyData.eqv d e = b) : RD K (rEqD K) d e (.bool b) := fun B1 O1 H v w hw hv hx Q q =>
  ⟨d, e, dt_dp _ _ (SeqAt.canLay_of_shaped hd) (dp_ex hw.b _ _ hv), dt_dp _ _ (SeqAt.canLay_of_shaped he) (dp_ex hw.b _ _ hx), hd, he, by rw [h]; exact q _ B1 H (Ex.refl _) hw (.bl _)⟩
theorem rd_ne {b : Bool} (hd : SeqAt.shaped d = true) (he : SeqAt.shaped e = true) (h : (!PyData.eqv d e) = b) : RD K (rNeD K) d e (.bool b) := fun B1 O1 H v w hw hv hx Q q =>
  ⟨d, e, dt_dp _ _ (SeqAt.canLay_of_shaped hd) (dp_ex hw.b _ _ hv), dt_dp _ _ (SeqAt.canLay_of_shaped he) (dp_ex hw.b _ _ hx), hd, he, by rw [h]; exact q _ B1 H (Ex.refl _) hw (.bl _)⟩
theorem rd_inT {neg : Bool} (hd : flatD d = true) (hs : es.all flatD = true) {b : Bool} (h : (if neg then !inV (fv d) (es.map fv) else inV (fv d) (es.map fv)) = b) : RD K (rIn K neg) d (.tuple es) (.bool b) := fun B1 O1 H v w hw hv hx Q q => by
  obtain ⟨a, xs, rfl, h1, h2⟩ := dp_tup hx
  obtain ⟨e1, f1⟩ := fv_of hv hd
  obtain ⟨e2, f2⟩ := fvs_of h2 hs
  refine ⟨a, xs, rfl, .inr (st_ex hw.b h1), f1, f2, ?_⟩
  rw [e1, e2, h]
  exact q _ B1 H (Ex.refl _) hw (.bl _)
theorem rd_inL {neg : Bool} (hd : flatD d = true) (hs : es.all flatD = true) {b : Bool} (h : (if neg then !inV (fv d) (es.map fv) else inV (fv d) (es.map fv)) = b) : RD K (rIn K neg) d (.list es) (.bool b) := fun B1 O1 H v w hw hv hx Q q => by
  obtain ⟨a, xs, rfl, h1, h2⟩ := dp_lst hx
  obtain ⟨e1, f1⟩ := fv_of hv hd
  obtain ⟨e2, f2⟩ := fvs_of h2 hs
  refine ⟨a, xs, rfl, .inl (.inl (.inl (hw.b _ _ h1))), f1, f2, ?_⟩
  rw [e1, e2, h]
  exact q _ B1 H (Ex.refl _) hw (.bl _)
theorem dt_tup {B1 B' : Hp} {a : Addr} {xs : List V} (e : Ex B1 B') (h1 : SqT K B1 a xs) (h2 : DtAll K B1 xs ds) : Dt K B' (.ref a) (.tuple ds) := .tup (st_ex e h1) (dps_ex e _ _ h2)
theorem rd_catT (hl : ds.length + es.length ≤ 100000) : RD K (rCatA K) (.tuple ds) (.tuple es) (.tuple (ds ++ es)) := fun B1 O1 H v w hw hv hx Q q => by
  obtain ⟨a, xs, rfl, h1, h2⟩ := dp_tup hv
  obtain ⟨b, ys, rfl, h3, h4⟩ := dp_tup hx
  have l1 := dps_len h2
  have l2 := dps_len h4
  refine ⟨a, b, xs, ys, rfl, rfl, st_ex hw.b h1, st_ex hw.b h3, sz_of (by omega), fun e => ?_, fun _ e => ?_, fun _ _ p hp => ?_⟩
  · subst e
    have : ds = [] := List.length_eq_zero_iff.mp (by rw [← l1]; rfl)
    subst this
    exact q _ B1 H (Ex.refl _) hw (.tup h3 h4)
  · subst e
    have : es = [] := List.length_eq_zero_iff.mp (by rw [← l2]; rfl)
    subst this
    rw [List.append_nil] at q
    exact q _ B1 H (Ex.refl _) hw (.tup h1 h2)
  · exact q _ (upd B1 p _) _ (Ex.new (hw.fb hp)) (hw.newB hp) (.tup (.inl (.inl upd_same)) (dps_ex (Ex.new (hw.fb hp)) _ _ (dps_app h2 h4)))
theorem rd_cat (hl : ds.length + es.length ≤ 100000) : RD K rCat (.list ds) (.list es) (.list (ds ++ es)) := fun B1 O1 H v w hw hv hx Q q => by
  obtain ⟨a, xs, rfl, h1, h2⟩ := dp_lst hv
  obtain ⟨b, ys, rfl, h3, h4⟩ := dp_lst hx
  have l1 := dps_len h2
  have l2 := dps_len h4
  refine ⟨a, b, xs, ys, rfl, rfl, hw.b _ _ h1, hw.b _ _ h3, sz_of (by omega), fun p hp => ?_⟩
  exact q _ (upd B1 p _) _ (Ex.new (hw.fb hp)) (hw.newB hp) (.lst upd_same (dps_ex (Ex.new (hw.fb hp)) _ _ (dps_app h2 h4)))
theorem list_rep {α : Type} {xs : List α} : ∀ n, (List.replicate n xs).flatten.length = xs.length * n := fun n => by
  simp [Nat.mul_comm]
end
section
variable {K : PySem.W.Frag} {B O : Hp} {G : List SD} {ta tb te : TE} {d e : PyData} {ds es : List PyData} {i j : Int}
theorem ev_un {f : Int → Int} (ha : EvD K B O G ta (.int i)) : EvD K B O G (tUn (rU fun i => .int (f i)) ta) (.int (f i)) := fun B1 O1 σ H e1 o s Q q =>
  ha B1 O1 σ H e1 o s _ fun v B2 H2 e2 w2 d2 => ⟨i, dp_int d2, q _ B2 H2 e2 w2 (.int _)⟩
theorem ev_cb {r : List V → Hp → VK → Prop} {t : TA} {xs : List PyData} (h : EvA K B O G t xs) (hr : RC K r xs d) : EvD K B O G (tCB r t) d := fun B1 O1 σ H e1 o s Q q =>
  h B1 O1 σ H e1 o s _ fun vs B2 H2 e2 w2 d2 => hr B2 O1 H2 vs w2 d2 Q fun u B3 H3 e3 w3 d3 => q u B3 H3 (e2.trans e3) w3 d3
/-! slices -/
theorem eo_none : EvO K B O G tNoPart none := fun B1 O1 σ H _ _ s Q q => q B1 H (Ex.refl _) s.w
theorem eo_some (h : EvD K B O G te (.int i)) : EvO K B O G (tPart te) (some i) := fun B1 O1 σ H e1 o s Q q => h B1 O1 σ H e1 o s _ fun v B2 H2 e2 w2 d2 => ⟨i, dp_int d2, q B2 H2 e2 w2⟩
def cutX (xs : List PyData) (lo hi : Option Int) : List PyData := (xs.drop (HT.sIx xs.length 0 lo)).take (HT.sIx xs.length xs.length hi - HT.sIx xs.length 0 lo)
theorem cut_dps {lo hi : Option Int} {vs : List V} (h : DtAll K B vs ds) : DtAll K B (cutV vs lo hi) (cutX ds lo hi) := by
  unfold cutV cutX
  rw [dps_len h]
  exact dps_take _ (dps_drop _ h)
theorem cut_whole {lo hi : Option Int} {vs : List V} (h : HT.sIx vs.length 0 lo = 0 ∧ HT.sIx vs.length vs.length hi = vs.length) : cutV vs lo hi = vs := by
  unfold cutV
  rw [h.1, h.2]
  simp
theorem ev_slT {to tp : TO} {lo hi : Option Int} (h : EvD K B O G te (.tuple ds)) (h1 : EvO K B O G to lo) (h2 : EvO K B O G tp hi) : EvD K B O G (tSl (rSlA K) te to tp) (.tuple (cutX ds lo hi)) := fun B1 O1 σ H e1 o s Q q =>
  h B1 O1 σ H e1 o s _ fun v B2 H2 e2 w2 d2 => h1 B2 O1 σ H2 (e1.trans e2) o (s.ex e2 w2) _ fun B3 H3 e3 w3 => h2 B3 O1 σ H3 ((e1.trans e2).trans e3) o (s.ex (e2.trans e3) w3) _ fun B4 H4 e4 w4 => by
    obtain ⟨a, xs, rfl, k1, k2⟩ := dp_tup d2
    have k1' := st_ex (e3.trans e4) k1
    have k2' := dps_ex (e3.trans e4) _ _ k2
    refine ⟨a, xs, rfl, st_ex w4.b k1', fun hw => ?_, fun _ p hp => ?_⟩
    · have k3 := cut_dps (lo := lo) (hi := hi) k2'
      rw [cut_whole hw] at k3
      exact q _ B4 H4 ((e2.trans e3).trans e4) w4 (.tup k1' k3)
    · exact q _ (upd B4 p _) _ (((e2.trans e3).trans e4).trans (Ex.new (w4.fb hp))) (w4.newB hp) (.tup (.inl (.inl upd_same)) (dps_ex (Ex.new (w4.fb hp)) _ _ (cut_dps k2')))
theorem ev_slL {to tp : TO} {lo hi : Option Int} (h : EvD K B O G te (.list ds)) (h1 : EvO K B O G to lo) (h2 : EvO K B O G tp hi) : EvD K B O G (tSl (rSlL K) te to tp) (.list (cutX ds lo hi)) := fun B1 O1 σ H e1 o s Q q =>
  h B1 O1 σ H e1 o s _ fun v B2 H2 e2 w2 d2 => h1 B2 O1 σ H2 (e1.trans e2) o (s.ex e2 w2) _ fun B3 H3 e3 w3 => h2 B3 O1 σ H3 ((e1.trans e2).trans e3) o (s.ex (e2.trans e3) w3) _ fun B4 H4 e4 w4 => by
    obtain ⟨a, xs, rfl, k1, k2⟩ := dp_lst d2
    have k1' := (e3.trans e4) _ _ k1
    have k2' := dps_ex (e3.trans e4) _ _ k2
    exact ⟨a, xs, rfl, .inl (.inl (w4.b _ _ k1')), fun p hp => q _ (upd B4 p _) _ (((e2.trans e3).trans e4).trans (Ex.new (w4.fb hp))) (w4.newB hp) (.lst upd_same (dps_ex (Ex.new (w4.fb hp)) _ _ (cut_dps k2')))⟩
end
/-! ### built-ins -/
section
variable {K : PySem.W.Frag} {ds : List PyData}
theorem rc_lenL : RC K (fun xs H Q => ∃ p ys, xs = [.ref p] ∧ (SqL K H p ys ∨ SqT K H p ys) ∧ Q (.int ys.length) H) [.list ds] (.int ds.length) := fun B1 O1 H vs w h Q q => by
  cases h with
  | cons h1 h2 =>
    cases h2
    obtain ⟨a, xs, rfl, k1, k2⟩ := dp_lst h1
    refine ⟨a, xs, rfl, .inl (.inl (.inl (w.b _ _ k1))), ?_⟩
    rw [dps_len k2]
    exact q _ B1 H (Ex.refl _) w (.int _)
theorem rc_lenT : RC K (fun xs H Q => ∃ p ys, xs = [.ref p] ∧ (SqL K H p ys ∨ SqT K H p ys) ∧ Q (.int ys.length) H) [.tuple ds] (.int ds.length) := fun B1 O1 H vs w h Q q => by
  cases h with
  | cons h1 h2 =>
    cases h2
    obtain ⟨a, xs, rfl, k1, k2⟩ := dp_tup h1
    refine ⟨a, xs, rfl, .inr (st_ex w.b k1), ?_⟩
    rw [dps_len k2]
    exact q _ B1 H (Ex.refl _) w (.int _)
theorem rc_listT : RC K (fun xs H Q => ∃ p ys, xs = [.ref p] ∧ (SqL K H p ys ∨ SqT K H p ys) ∧ ∀ l, H l = none → Q (.ref l) (upd H l (.lst ys))) [.tuple ds] (.list ds) := fun B1 O1 H vs w h Q q => by
  cases h with
  | cons h1 h2 =>
    cases h2
    obtain ⟨a, xs, rfl, k1, k2⟩ := dp_tup h1
    exact ⟨a, xs, rfl, .inr (st_ex w.b k1), fun l hl => q _ (upd B1 l _) _ (Ex.new (w.fb hl)) (w.newB hl) (.lst upd_same (dps_ex (Ex.new (w.fb hl)) _ _ k2))⟩
theorem rc_listL : RC K (fun xs H Q => ∃ p ys, xs = [.ref p] ∧ (SqL K H p ys ∨ SqT K H p ys) ∧ ∀ l, H l = none → Q (.ref l) (upd H l (.lst ys))) [.list ds] (.list ds) := fun B1 O1 H vs w h Q q => by
  cases h with
  | cons h1 h2 =>
    cases h2
    obtain ⟨a, xs, rfl, k1, k2⟩ := dp_lst h1
    exact ⟨a, xs, rfl, .inl (.inl (.inl (w.b _ _ k1))), fun l hl => q _ (upd B1 l _) _ (Ex.new (w.fb hl)) (w.newB hl) (.lst upd_same (dps_ex (Ex.new (w.fb hl)) _ _ k2))⟩
theorem rc_tupL : RC K (fun xs H Q => ∃ p ys, xs = [.ref p] ∧ ((SqL K H p ys ∧ ∀ l, H l = none → Q (.ref l) (upd H l (.tup ys))) ∨ (SqT K H p ys ∧ Q (.ref p) H))) [.list ds] (.tuple ds) := fun B1 O1 H vs w h Q q => by
  cases h with
  | cons h1 h2 =>
    cases h2
    obtain ⟨a, xs, rfl, k1, k2⟩ := dp_lst h1
    exact ⟨a, xs, rfl, .inl ⟨.inl (.inl (w.b _ _ k1)), fun l hl => q _ (upd B1 l _) _ (Ex.new (w.fb hl)) (w.newB hl) (.tup (.inl (.inl upd_same)) (dps_ex (Ex.new (w.fb hl)) _ _ k2))⟩⟩
theorem rc_tupT : RC K (fun xs H Q => ∃ p ys, xs = [.ref p] ∧ ((SqL K H p ys ∧ ∀ l, H l = none → Q (.ref l) (upd H l (.tup ys))) ∨ (SqT K H p ys ∧ Q (.ref p) H))) [.tuple ds] (.tuple ds) := fun B1 O1 H vs w h Q q => by
  cases h with
  | cons h1 h2 =>
    cases h2
    obtain ⟨a, xs, rfl, k1, k2⟩ := dp_tup h1
    exact ⟨a, xs, rfl, .inr ⟨st_ex w.b k1, q _ B1 H (Ex.refl _) w (.tup k1 k2)⟩⟩
theorem rc_sum {ns : List Int} : RC K (rSum K) [.list (ns.map .int)] (.int ns.sum) := fun B1 O1 H vs w h Q q => by
  cases h with
  | cons h1 h2 =>
    cases h2
    obtain ⟨a, xs, rfl, k1, k2⟩ := dp_lst h1
    have e := dps_ints k2
    subst e
    exact ⟨a, ns, rfl, .inl (.inl (w.b _ _ k1)), q _ B1 H (Ex.refl _) w (.int _)⟩
theorem rc_all {bs : List Bool} : RC K (rAll K) [.list (bs.map .bool)] (.bool (bs.all id)) := fun B1 O1 H vs w h Q q => by
  cases h with
  | cons h1 h2 =>
    cases h2
    obtain ⟨a, xs, rfl, k1, k2⟩ := dp_lst h1
    have e := dps_bools k2
    subst e
    exact ⟨a, bs, rfl, .inl (.inl (w.b _ _ k1)), q _ B1 H (Ex.refl _) w (.bl _)⟩
theorem rc_any {bs : List Bool} : RC K (rAny K) [.list (bs.map .bool)] (.bool (bs.any id)) := fun B1 O1 H vs w h Q q => by
  cases h with
  | cons h1 h2 =>
    cases h2
    obtain ⟨a, xs, rfl, k1, k2⟩ := dp_lst h1
    have e := dps_bools k2
    subst e
    exact ⟨a, bs, rfl, .inl (.inl (w.b _ _ k1)), q _ B1 H (Ex.refl _) w (.bl _)⟩
theorem rc_intI {i : Int} : RC K (fun xs H Q => (∃ i, xs = [.int i] ∧ Q (.int i) H) ∨ ∃ k, xs = [.bl k] ∧ Q (.int (if k then 1 else 0)) H) [.int i] (.int i) := fun B1 O1 H vs w h Q q => by
  cases h with
  | cons h1 h2 =>
    cases h2
    exact .inl ⟨i, by rw [dp_int h1], q _ B1 H (Ex.refl _) w (.int _)⟩
theorem rc_intB {k : Bool} : RC K (fun xs H Q => (∃ i, xs = [.int i] ∧ Q (.int i) H) ∨ ∃ k, xs = [.bl k] ∧ Q (.int (if k then 1 else 0)) H) [.bool k] (.int (if k then 1 else 0)) := fun B1 O1 H vs w h Q q => by
  cases h with
  | cons h1 h2 =>
    cases h2
    exact .inr ⟨k, by rw [dp_bool h1], q _ B1 H (Ex.refl _) w (.int _)⟩
theorem rc_abs {i : Int} : RC K (fun xs H Q => ∃ i, xs = [.int i] ∧ Q (.int (if i < 0 then -i else i)) H) [.int i] (.int (if i < 0 then -i else i)) := fun B1 O1 H vs w h Q q => by
  cases h with
  | cons h1 h2 =>
    cases h2
    exact ⟨i, by rw [dp_int h1], q _ B1 H (Ex.refl _) w (.int _)⟩
theorem rc_max2 {i j : Int} : RC K (fun xs H Q => ∃ i j, xs = [.int i, .int j] ∧ Q (.int (if j > i then j else i)) H) [.int i, .int j] (.int (if j > i then j else i)) := fun B1 O1 H vs w h Q q => by
  cases h with
  | cons h1 h2 =>
    cases h2 with
    | cons h3 h4 =>
      cases h4
      exact ⟨i, j, by rw [dp_int h1, dp_int h3], q _ B1 H (Ex.refl _) w (.int _)⟩
theorem rc_min2 {i j : Int} : RC K (fun xs H Q => ∃ i j, xs = [.int i, .int j] ∧ Q (.int (if j < i then j else i)) H) [.int i, .int j] (.int (if j < i then j else i)) := fun B1 O1 H vs w h Q q => by
  cases h with
  | cons h1 h2 =>
    cases h2 with
    | cons h3 h4 =>
      cases h4
      exact ⟨i, j, by rw [dp_int h1, dp_int h3], q _ B1 H (Ex.refl _) w (.int _)⟩
end

/-! ### what is walked -/
section
variable (K : PySem.W.Frag) (B O : Hp) (G : List SD)
/-- the walk gives the data es in order -/
structure Gives (J : It) (es : List PyData) (B' : Hp) : Prop where
  walk : ∃ (n : Nat) (G0 : Hp → Prop) (Y : Nat → Hp → V → Hp → Prop), n = es.length ∧ Walk J n G0 Y ∧ (∀ B2 O2 H2, Ex B' B2 → W B2 O2 H2 → G0 H2) ∧
    ∀ i H2 x H3 B2 O2, Ex B' B2 → W B2 O2 H2 → i < n → Y i H2 x H3 → ∃ e B3, es[i]? = some e ∧ Ex B2 B3 ∧ W B3 O2 H3 ∧ Dt K B3 x e
def EvI (wi : TI) (es : List PyData) : Prop := ∀ B1 O1 σ H, Ex B B1 → Ex O O1 → Sta K B1 O1 G σ H → ∀ R : It → Hp → Prop, (∀ J B' H', Ex B1 B' → W B' O1 H' → Gives K J es B' → R J H') → wi σ H R
end
section
variable {K : PySem.W.Frag} {B O : Hp} {G : List SD} {te : TE} {ta : TA} {es ds : List PyData}
theorem ei_list (h : EvD K B O G te (.list es)) : EvI K B O G (iList K te) es := fun B1 O1 σ H e1 o s R r => h B1 O1 σ H e1 o s _ fun v B2 H2 e2 w2 d2 => by
  obtain ⟨a, xs, rfl, k1, k2⟩ := dp_lst d2
  refine ⟨a, rfl, ⟨xs, .inl (.inl (w2.b _ _ k1))⟩, r _ B2 H2 e2 w2 ⟨xs.length, _, _, dps_len k2, walk_list (xs := xs), fun B3 O3 H3 e3 w3 => .inl (.inl (w3.b _ _ (e3 _ _ k1))), fun i H3 x H4 B3 O3 e3 w3 hi y => ?_⟩⟩
  obtain ⟨rfl, hx⟩ := y
  obtain ⟨e, he, hd⟩ := dps_getV k2 hx
  exact ⟨e, B3, he, Ex.refl _, w3, dp_ex e3 _ _ hd⟩
theorem ei_tup (h : EvD K B O G te (.tuple es)) : EvI K B O G (iTup K te) es := fun B1 O1 σ H e1 o s R r => h B1 O1 σ H e1 o s _ fun v B2 H2 e2 w2 d2 => by
  obtain ⟨a, xs, rfl, k1, k2⟩ := dp_tup d2
  refine ⟨a, rfl, ⟨xs, st_ex w2.b k1⟩, r _ B2 H2 e2 w2 ⟨xs.length, _, _, dps_len k2, walk_tup (xs := xs), fun B3 O3 H3 e3 w3 => st_ex (e3.trans w3.b) k1, fun i H3 x H4 B3 O3 e3 w3 hi y => ?_⟩⟩
  obtain ⟨rfl, hx⟩ := y
  obtain ⟨e, he, hd⟩ := dps_getV k2 hx
  exact ⟨e, B3, he, Ex.refl _, w3, dp_ex e3 _ _ hd⟩
def rangeD (lo : Int) (n : Nat) : List PyData := (List.range n).map fun (i : Nat) => .int (lo + i)
theorem rangeD_get {lo : Int} {n i : Nat} (h : i < n) : (rangeD lo n)[i]? = some (.int (lo + i)) := by
  unfold rangeD
  rw [List.getElem?_map, List.getElem?_range h]
  rfl
theorem rangeD_len {lo : Int} {n : Nat} : (rangeD lo n).length = n := by
  unfold rangeD
  rw [List.length_map, List.length_range]
theorem ei_range1 {j : Int} (h : EvA K B O G ta [.int j]) (hj : -1000000 ≤ j ∧ j ≤ 1000000) : EvI K B O G (iRng1 ta) (rangeD 0 j.toNat) := fun B1 O1 σ H e1 o s R r => h B1 O1 σ H e1 o s _ fun vs B2 H2 e2 w2 d2 => by
  have e := dps_ints (ns := [j]) d2
  refine ⟨j, e, by omega, by omega, r _ B2 H2 e2 w2 ⟨j.toNat, _, _, rangeD_len.symm, walk_range, fun _ _ _ _ _ => trivial, fun i H3 x H4 B3 O3 e3 w3 hi y => ?_⟩⟩
  obtain ⟨rfl, rfl⟩ := y
  exact ⟨_, B3, rangeD_get hi, Ex.refl _, w3, .int _⟩
theorem ei_range2 {i j : Int} (h : EvA K B O G ta [.int i, .int j]) (hi : -1000000 ≤ i ∧ i ≤ 1000000) (hj : -1000000 ≤ j ∧ j ≤ 1000000) : EvI K B O G (iRng2 ta) (rangeD i (j - i).toNat) := fun B1 O1 σ H e1 o s R r => h B1 O1 σ H e1 o s _ fun vs B2 H2 e2 w2 d2 => by
  have e := dps_ints (ns := [i, j]) d2
  refine ⟨i, j, e, by omega, r _ B2 H2 e2 w2 ⟨(j - i).toNat, _, _, rangeD_len.symm, walk_range, fun _ _ _ _ _ => trivial, fun k H3 x H4 B3 O3 e3 w3 hi y => ?_⟩⟩
  obtain ⟨rfl, rfl⟩ := y
  exact ⟨_, B3, rangeD_get hi, Ex.refl _, w3, .int _⟩
def enumD (es : List PyData) : List PyData := (List.range es.length).map fun (i : Nat) => .tuple [.int i, es.getD i .none]
theorem enumD_len : (enumD es).length = es.length := by
  unfold enumD
  rw [List.length_map, List.length_range]
theorem enumD_get {i : Nat} {e : PyData} (h : es[i]? = some e) : (enumD es)[i]? = some (.tuple [.int i, e]) := by
  have hi : i < es.length := (List.getElem?_eq_some_iff.mp h).1
  unfold enumD
  rw [List.getElem?_map, List.getElem?_range hi]
  have : es.getD i PyData.none = e := by rw [List.getD_eq_getElem?_getD, h]; rfl
  simp [this, h]
theorem pair_new {B2 O2 H2 : Hp} {T : Addr} {x y : V} {d e : PyData} (w : W B2 O2 H2) (hT : H2 T = none) (hx : Dt K B2 x d) (hy : Dt K B2 y e) :
    Ex B2 (upd B2 T (.tup [x, y])) ∧ W (upd B2 T (.tup [x, y])) O2 (upd H2 T (.tup [x, y])) ∧ Dt K (upd B2 T (.tup [x, y])) (.ref T) (.tuple [d, e]) :=
  ⟨Ex.new (w.fb hT), w.newB hT, .tup (.inl (.inl upd_same)) (dps_ex (Ex.new (w.fb hT)) _ _ (.cons hx (.cons hy .nil)))⟩
theorem ei_enum (h : EvA K B O G ta [.list es]) : EvI K B O G (iEnum K ta) (enumD es) := fun B1 O1 σ H e1 o s R r => h B1 O1 σ H e1 o s _ fun vs B2 H2 e2 w2 d2 => by
  cases d2 with
  | cons d3 d4 =>
    cases d4
    obtain ⟨a, xs, rfl, k1, k2⟩ := dp_lst d3
    refine ⟨a, xs, rfl, .inl (.inl (w2.b _ _ k1)), r _ B2 H2 e2 w2 ⟨xs.length, _, _, by rw [enumD_len]; exact dps_len k2, walk_enum (xs := xs), fun B3 O3 H3 e3 w3 => .inl (.inl (w3.b _ _ (e3 _ _ k1))), fun i H3 x H4 B3 O3 e3 w3 hi y => ?_⟩⟩
    obtain ⟨T, x', y', rfl, hT, rfl, hx, hy⟩ := y
    cases hx
    obtain ⟨e, he, hd⟩ := dps_getV k2 hy
    obtain ⟨q1, q2, q3⟩ := pair_new w3 hT (.int (i : Nat)) (dp_ex e3 _ _ hd)
    exact ⟨_, _, enumD_get he, q1, q2, q3⟩
end
/-! ### targets -/
/-- the target takes the data e: G becomes G' -/
def EvG (K : PySem.W.Frag) (R : L2.St → L2.St → Prop) (g : TG) (G : List SD) (e : PyData) (G' : List SD) : Prop :=
  ∀ B1 O1 σ H v, Sta K B1 O1 G σ H → Dt K B1 v e → ∀ Q : L2.St → Hp → Prop, (∀ σ', Sta K B1 O1 G' σ' H → R σ σ' → Q σ' H) → g v σ H Q
theorem wipe_get (σ : L2.St) (i : Nat) : ∀ vs : List Nat, (L2.wipe σ vs)[i]? = if i ∈ vs then (if i < σ.length then some none else none) else σ[i]?
  | [] => by simp [L2.wipe]
  | v :: vs => by
    unfold L2.wipe
    rw [List.getElem?_set]
    by_cases h : v = i
    · subst h
      simp [wipe_length]
    · rw [if_neg h, wipe_get σ i vs]
      have h' : ¬ i = v := fun e => h e.symm
      simp [h']
theorem wipe_set {σ : L2.St} {j : Nat} {x : Option V} {vs : List Nat} (h : j ∈ vs) : L2.wipe (σ.set j x) vs = L2.wipe σ vs := by
  apply List.ext_getElem?
  intro i
  rw [wipe_get, wipe_get, List.length_set]
  by_cases hi : i ∈ vs
  · simp [hi]
  · rw [if_neg hi, if_neg hi, List.getElem?_set_ne (by rintro rfl; exact hi h)]
theorem wipe_wipe {σ : L2.St} {vs : List Nat} : L2.wipe (L2.wipe σ vs) vs = L2.wipe σ vs := by
  apply List.ext_getElem?
  intro i
  rw [wipe_get, wipe_get, wipe_length]
  by_cases hi : i ∈ vs <;> simp [hi]
section
variable {K : PySem.W.Frag} {G : List SD} {e a b : PyData} {j k : Nat} {vs : List Nat} {n : Nat}
abbrev RW (vs : List Nat) : L2.St → L2.St → Prop := fun σ σ' => L2.wipe σ' vs = L2.wipe σ vs
abbrev RT : L2.St → L2.St → Prop := fun _ _ => True
theorem eg_name : EvG K RT (gName j) G e (G.set j (.dat e)) := fun B1 O1 σ H v s d Q q => q _ (s.set j d) trivial
theorem eg_nameW (h : j ∈ vs) : EvG K (RW vs) (gName j) G e (G.set j (.dat e)) := fun B1 O1 σ H v s d Q q => q _ (s.set j d) (wipe_set h)
theorem eg_pair : EvG K RT (gTup K 2 (gCons (gName j) (gCons (gName k) gNil))) G (.tuple [a, b]) ((G.set j (.dat a)).set k (.dat b)) := fun B1 O1 σ H v s d Q q => by
  obtain ⟨p, xs, rfl, h1, h2⟩ := dp_tup d
  have hl := dps_len h2
  cases h2 with
  | cons h3 h4 =>
    cases h4 with
    | cons h5 h6 =>
      cases h6
      refine ⟨p, _, rfl, st_ex s.w.b h1, rfl, _, _, rfl, _, _, rfl, rfl, q _ ((s.set j h3).set k h5) trivial⟩
theorem eg_pairW (hj : j ∈ vs) (hk : k ∈ vs) : EvG K (RW vs) (gTup K 2 (gCons (gName j) (gCons (gName k) gNil))) G (.tuple [a, b]) ((G.set j (.dat a)).set k (.dat b)) := fun B1 O1 σ H v s d Q q => by
  obtain ⟨p, xs, rfl, h1, h2⟩ := dp_tup d
  cases h2 with
  | cons h3 h4 =>
    cases h4 with
    | cons h5 h6 =>
      cases h6
      refine ⟨p, _, rfl, st_ex s.w.b h1, rfl, _, _, rfl, _, _, rfl, rfl, q _ ((s.set j h3).set k h5) ?_⟩
      show L2.wipe ((σ.set j _).set k _) vs = _
      rw [wipe_set hk, wipe_set hj]
end
/-! ### comprehensions -/
section
variable {K : PySem.W.Frag} {B O : Hp} {G : List SD} {wi : TI} {g : TG} {tt : TT} {te : TE} {vs : List Nat} {es : List PyData}
theorem ev_lc (f : PyData → Bool) (v : PyData → PyData) (Gi : PyData → List SD) (hI : EvI K B O G wi es) (hz : es.length ≤ 100000)
    (hg : ∀ e, e ∈ es → EvG K (RW vs) g (wipeG G vs) e (Gi e)) (ht : ∀ e, e ∈ es → EvT K B O (Gi e) tt (f e)) (he : ∀ e, e ∈ es → f e = true → EvD K B O (Gi e) te (v e)) :
    EvD K B O G (tLc wi g tt te vs) (.list ((es.filter f).map v)) := fun B1 O1 σ H e1 o s Q q => by
  refine hI B1 O1 σ H e1 o s _ fun J B2 H2 e2 w2 gv D hD => ?_
  obtain ⟨n, G0, Y, hn, wk, hG0, hY⟩ := gv
  have oD : O1 D = none := w2.fo hD
  refine lc_it wk (fun i H' => ∃ B' acc, Ex B2 B' ∧ W B' (upd O1 D (.lst acc)) H' ∧ DtAll K B' acc (((es.take i).filter f).map v))
    ⟨B2, [], Ex.refl _, w2.newO hD, by simp; exact .nil⟩ (fun i H' _ ⟨B', acc, e', w', _⟩ => hG0 B' _ H' e' w') ?_ ?_
  · rintro i x H3 H4 hi ⟨B3, acc, e3, w3, da⟩ y
    obtain ⟨e, B4, hie, e4, w4, dx⟩ := hY i H3 x H4 B3 _ e3 w3 hi y
    have hm : e ∈ es := List.mem_of_getElem? hie
    have s4 : Sta K B4 (upd O1 D (.lst acc)) (wipeG G vs) (L2.wipe σ vs) H4 := ⟨w4, (s.s.ex ((e2.trans e3).trans e4)).wipe vs⟩
    have hOD : Ex O (upd O1 D (.lst acc)) := o.trans (Ex.new oD)
    refine hg e hm B4 _ _ H4 x s4 dx _ fun σ' s5 r5 => ⟨r5.trans wipe_wipe, ?_⟩
    have hlen : acc.length ≤ 100000 := by
      rw [dps_len da, List.length_map]
      have h1 := List.length_filter_le f (es.take i)
      have h2 : (es.take i).length ≤ es.length := List.length_take_le' i es
      omega
    refine ht e hm B4 _ σ' H4 (e1.trans ((e2.trans e3).trans e4)) hOD s5 _ fun B5 H5 e5 w5 => ?_
    have htk : es.take (i + 1) = es.take i ++ [e] := by
      rw [List.take_add_one, hie]
      rfl
    cases hf : f e with
    | true =>
      show te σ' H5 _
      refine he e hm hf B5 _ σ' H5 (e1.trans (((e2.trans e3).trans e4).trans e5)) hOD (s5.ex e5 w5) _ fun u B6 H6 e6 w6 d6 => ?_
      refine ⟨acc, w6.o D _ upd_same, Nat.lt_of_le_of_lt hlen (by decide), B6, acc ++ [u], ((e3.trans e4).trans e5).trans e6, ?_, ?_⟩
      · have := w6.mut (v := .lst (acc ++ [u])) upd_same
        rw [upd_upd] at this
        exact this
      · rw [htk, List.filter_append, List.map_append]
        refine dps_app (dps_ex ((e4.trans e5).trans e6) _ _ da) ?_
        simp [hf]
        exact dps_one d6
    | false =>
      show ∃ B' acc, _
      refine ⟨B5, acc, (e3.trans e4).trans e5, w5, ?_⟩
      rw [htk, List.filter_append, List.map_append]
      simp [hf]
      have := dps_ex (e4.trans e5) _ _ da
      simpa using this
  · rintro H3 ⟨B3, acc, e3, w3, da⟩
    rw [hn, List.take_length] at da
    exact q _ (upd B3 D (.lst acc)) H3 ((e2.trans e3).trans (Ex.new (w3.bnone upd_same))) (w3.give oD) (.lst upd_same (dps_ex (Ex.new (w3.bnone upd_same)) _ _ da))
end
end DL
namespace DL
open PySem L2 StX
section
variable {K : PySem.W.Frag} {B O : Hp} {G : List SD} {te : TE} {d e : PyData}
theorem rd_eqS {b : Bool} (hd : flatD d = true) (he : flatD e = true) (hs : scal (fv d) (fv e) = true) (h : decide (fv d = fv e) = b) : RD K rEq d e (.bool b) := fun B1 O1 H v w hw hv hx Q q => by
  obtain ⟨e1, _⟩ := fv_of hv hd
  obtain ⟨e2, _⟩ := fv_of hx he
  rw [e1, e2]
  refine ⟨hs, ?_⟩
  rw [h]
  exact q _ B1 H (Ex.refl _) hw (.bl _)
theorem rd_neS {b : Bool} (hd : flatD d = true) (he : flatD e = true) (hs : scal (fv d) (fv e) = true) (h : (!decide (fv d = fv e)) = b) : RD K rNe d e (.bool b) := fun B1 O1 H v w hw hv hx Q q => by
  obtain ⟨e1, _⟩ := fv_of hv hd
  obtain ⟨e2, _⟩ := fv_of hx he
  rw [e1, e2]
  refine ⟨hs, ?_⟩
  rw [h]
  exact q _ B1 H (Ex.refl _) hw (.bl _)
theorem rd_eqStr {x y : Str} : RD K rEq (.str x) (.str y) (.bool (x == y)) := rd_eqS rfl rfl rfl dec_str
theorem rd_eqInt {x y : Int} : RD K rEq (.int x) (.int y) (.bool (x == y)) := rd_eqS rfl rfl rfl dec_int
theorem rd_neInt {x y : Int} : RD K rNe (.int x) (.int y) (.bool (!(x == y))) := rd_neS rfl rfl rfl (by rw [show decide (fv (.int x) = fv (.int y)) = (x == y) from dec_int])
/-- x is None -/
theorem ev_isNone {tb : TE} {b : Bool} {ta : TE} (h : EvD K B O G ta d) (hb : EvD K B O G tb .none) (e : (match d with | .none => true | _ => false) = b) : EvD K B O G (tOp (fun x y H Q => y = .non ∧ Q (.bl (decide (x = .non))) H) ta tb) (.bool b) :=
  ev_op h hb fun B1 O1 H v w hw hv hx Q q => ⟨dp_none hx, by
    have : decide (v = V.non) = b := by
      rw [← e]
      cases hv <;> simp
    rw [this]
    exact q _ B1 H (Ex.refl _) hw (.bl b)⟩
end
end DL

set_option Elab.async false
set_option linter.all false
set_option maxRecDepth 100000
set_option maxHeartbeats 2000000
namespace DL
open PySem PySem.Spec PyProof.Rows L2 StX
/-! ### statements -/
section
variable {K : PySem.W.Frag} {B O : Hp} {G : List SD} {σ : L2.St} {H : Hp} {te ta tb : TE} {tt : TT} {tu tw tz : TS} {D : Ends} {d : PyData} {ds : List PyData} {i : Nat}
theorem s_asg (s : Sta K B O G σ H) (h : EvD K B O G te d) (k : ∀ v B' H', Ex B B' → Dt K B' v d → Sta K B' O (G.set i (.dat d)) (σ.set i (some v)) H' → D.nx (σ.set i (some v)) H') : tAsg te (gName i) D σ H :=
  h B O σ H (Ex.refl _) (Ex.refl _) s _ fun v B' H' e w dv => k v B' H' e dv ((s.ex e w).set i dv)
theorem q_asg (s : Sta K B O G σ H) (h : EvD K B O G te d) (k : ∀ v B' H', Ex B B' → Dt K B' v d → Sta K B' O (G.set i (.dat d)) (σ.set i (some v)) H' → tz D (σ.set i (some v)) H') : tSeq (tAsg te (gName i)) tz D σ H := s_asg (D := { D with nx := tz D }) s h k
theorem s_ret (s : Sta K B O G σ H) (h : EvD K B O G te d) (k : ∀ v B' H', Ex B B' → W B' O H' → Dt K B' v d → D.rt v H') : tRet te D σ H :=
  h B O σ H (Ex.refl _) (Ex.refl _) s _ fun v B' H' e w dv => k v B' H' e w dv
theorem s_if {b : Bool} (s : Sta K B O G σ H) (h : EvT K B O G tt b) (h1 : b = true → ∀ B' H', Ex B B' → Sta K B' O G σ H' → tu D σ H') (h2 : b = false → ∀ B' H', Ex B B' → Sta K B' O G σ H' → tw D σ H') : tIfS tt tu tw D σ H :=
  h B O σ H (Ex.refl _) (Ex.refl _) s _ fun B' H' e w => by
    cases b with
    | true =>
      show tu D σ H'
      exact h1 rfl B' H' e (s.ex e w)
    | false =>
      show tw D σ H'
      exact h2 rfl B' H' e (s.ex e w)
theorem q_if {b : Bool} (s : Sta K B O G σ H) (h : EvT K B O G tt b) (h1 : b = true → ∀ B' H', Ex B B' → Sta K B' O G σ H' → tu { D with nx := tz D } σ H') (h2 : b = false → ∀ B' H', Ex B B' → Sta K B' O G σ H' → tw { D with nx := tz D } σ H') : tSeq (tIfS tt tu tw) tz D σ H := s_if (D := { D with nx := tz D }) s h h1 h2
/-- an if that ends the def -/
theorem q_when {b : Bool} (s : Sta K B O G σ H) (h : EvT K B O G tt b) (h1 : b = true → ∀ B' H', Ex B B' → Sta K B' O G σ H' → tu { D with nx := tz D } σ H') (h2 : b = false → ∀ B' H', Ex B B' → Sta K B' O G σ H' → tz D σ H') : tSeq (tIfS tt tu tNext) tz D σ H := q_if s h h1 h2
theorem q_whenF (s : Sta K B O G σ H) (h : EvT K B O G tt false) (h2 : ∀ B' H', Ex B B' → Sta K B' O G σ H' → tz D σ H') : tSeq (tIfS tt tu tNext) tz D σ H := q_if s h (fun z => nomatch z) fun _ => h2
theorem q_whenT (s : Sta K B O G σ H) (h : EvT K B O G tt true) (h1 : ∀ B' H', Ex B B' → Sta K B' O G σ H' → tu { D with nx := tz D } σ H') : tSeq (tIfS tt tu tNext) tz D σ H := q_if s h (fun _ => h1) fun z => nomatch z
/-- a new list that will be changed -/
def EvL (K : PySem.W.Frag) (B O : Hp) (G : List SD) (te : TE) (ds : List PyData) : Prop := ∀ B1 O1 σ H, Ex B B1 → Ex O O1 → Sta K B1 O1 G σ H → ∀ Q : VK, (∀ p vs B' H', Ex B1 B' → O1 p = none → W B' (upd O1 p (.lst vs)) H' → DtAll K B' vs ds → Q (.ref p) H') → te σ H Q
theorem el_lst {t : TA} (h : EvA K B O G t ds) (hl : ds.length ≤ 100000) : EvL K B O G (tLst t) ds := fun B1 O1 σ H e o s Q q =>
  h B1 O1 σ H e o s _ fun vs B2 H2 e2 w2 d2 => ⟨by rw [dps_len d2]; exact sz_of hl, fun p hp => q p vs B2 _ e2 (w2.fo hp) (w2.newO hp) d2⟩
theorem el_listL (h : EvD K B O G te (.list ds)) : EvL K B O G (tCB (fun xs H Q => ∃ p ys, xs = [.ref p] ∧ (SqL K H p ys ∨ SqT K H p ys) ∧ ∀ l, H l = none → Q (.ref l) (upd H l (.lst ys))) (tCons te tNil)) ds := fun B1 O1 σ H e o s Q q =>
  h B1 O1 σ H e o s _ fun v B2 H2 e2 w2 d2 => by
    obtain ⟨a, xs, rfl, k1, k2⟩ := dp_lst d2
    exact ⟨a, xs, rfl, .inl (.inl (.inl (w2.b _ _ k1))), fun l hl => q l xs B2 _ e2 (w2.fo hl) (w2.newO hl) k2⟩
theorem q_asgL (s : Sta K B O G σ H) (h : EvL K B O G te ds) (k : ∀ p vs B' H', Ex B B' → O p = none → DtAll K B' vs ds → Sta K B' (upd O p (.lst vs)) (G.set i (.val (.ref p))) (σ.set i (some (.ref p))) H' → tz D (σ.set i (some (.ref p))) H') : tSeq (tAsg te (gName i)) tz D σ H :=
  h B O σ H (Ex.refl _) (Ex.refl _) s _ fun p vs B' H' e hp w dv => k p vs B' H' e hp dv ⟨w, (s.s.ex e).set i rfl⟩
/-- append to an owned list -/
theorem s_app {l : Addr} {vs : List V} (s : Sta K B O G σ H) (hg : G[i]? = some (.val (.ref l))) (ho : O l = some (.lst vs)) (hz : vs.length < 100000) (h : EvD K B O G te d)
    (k : ∀ v B' H', Ex B B' → Dt K B' v d → Sta K B' (upd O l (.lst (vs ++ [v]))) G σ H' → D.nx σ H') : tDrop (tBM K "list" rAppend (tVar i) (tCons te tNil)) D σ H := by
  obtain ⟨sv, h1, h2⟩ := s.s.get hg
  have h3 : sv = some (.ref l) := h2
  subst h3
  refine ⟨_, h1, .inl ⟨rfl, _, SqL.of (s.w.o _ _ ho)⟩, ?_⟩
  refine h B O σ H (Ex.refl _) (Ex.refl _) s _ fun v B' H' e w dv => ?_
  exact ⟨l, vs, v, rfl, rfl, w.o _ _ ho, Nat.lt_of_lt_of_le hz (by decide), k v B' _ e dv ⟨w.mut ho, s.s.ex e⟩⟩
theorem q_app {l : Addr} {vs : List V} (s : Sta K B O G σ H) (hg : G[i]? = some (.val (.ref l))) (ho : O l = some (.lst vs)) (hz : vs.length < 100000) (h : EvD K B O G te d)
    (k : ∀ v B' H', Ex B B' → Dt K B' v d → Sta K B' (upd O l (.lst (vs ++ [v]))) G σ H' → tz D σ H') : tSeq (tDrop (tBM K "list" rAppend (tVar i) (tCons te tNil))) tz D σ H := s_app (D := { D with nx := tz D }) s hg ho hz h k
theorem q_extend {l : Addr} {vs : List V} (s : Sta K B O G σ H) (hg : G[i]? = some (.val (.ref l))) (ho : O l = some (.lst vs)) (hz : vs.length + ds.length ≤ 100000) (h : EvD K B O G te (.list ds))
    (k : ∀ ws B' H', Ex B B' → DtAll K B' ws ds → Sta K B' (upd O l (.lst (vs ++ ws))) G σ H' → D.nx σ H') : tDrop (tBM K "list" rExtend (tVar i) (tCons te tNil)) D σ H := by
  obtain ⟨sv, h1, h2⟩ := s.s.get hg
  have h3 : sv = some (.ref l) := h2
  subst h3
  refine ⟨_, h1, .inl ⟨rfl, _, SqL.of (s.w.o _ _ ho)⟩, ?_⟩
  refine h B O σ H (Ex.refl _) (Ex.refl _) s _ fun v B' H' e w dv => ?_
  obtain ⟨b, zs, rfl, k1, k2⟩ := dp_lst dv
  exact ⟨l, b, vs, zs, rfl, rfl, w.o _ _ ho, w.b _ _ k1, sz_of (by rw [dps_len k2]; exact hz), k zs B' _ e k2 ⟨w.mut ho, s.s.ex e⟩⟩
/-- x[j] = e of an owned list -/
theorem s_setO {l : Addr} {vs : List V} {z : Int} {j : Nat} {ti : TE} (s : Sta K B O G σ H) (hg : G[i]? = some (.val (.ref l))) (ho : O l = some (.lst vs)) (h : EvD K B O G te d) (hi : EvD K B O G ti (.int z)) (hj : ixN vs.length z = some j)
    (k : ∀ v B' H', Ex B B' → Dt K B' v d → Sta K B' (upd O l (.lst (vs.set j v))) G σ H' → D.nx σ H') : tAsg te (gSub (tVar i) ti rSetL) D σ H := by
  obtain ⟨sv, h1, h2⟩ := s.s.get hg
  have h3 : sv = some (.ref l) := h2
  subst h3
  refine h B O σ H (Ex.refl _) (Ex.refl _) s _ fun v B' H' e w dv => ?_
  refine ⟨_, h1, ?_⟩
  refine hi B' O σ H' e (Ex.refl _) (s.ex e w) _ fun v2 B2 H2 e2 w2 dv2 => ?_
  rw [dp_int dv2]
  exact ⟨l, vs, z, j, rfl, rfl, w2.o _ _ ho, hj, k v B2 _ (e.trans e2) (dp_ex e2 _ _ dv) ⟨w2.mut ho, s.s.ex (e.trans e2)⟩⟩
theorem q_setO {l : Addr} {vs : List V} {z : Int} {j : Nat} {ti : TE} (s : Sta K B O G σ H) (hg : G[i]? = some (.val (.ref l))) (ho : O l = some (.lst vs)) (h : EvD K B O G te d) (hi : EvD K B O G ti (.int z)) (hj : ixN vs.length z = some j)
    (k : ∀ v B' H', Ex B B' → Dt K B' v d → Sta K B' (upd O l (.lst (vs.set j v))) G σ H' → tz D σ H') : tSeq (tAsg te (gSub (tVar i) ti rSetL)) tz D σ H := s_setO (D := { D with nx := tz D }) s hg ho h hi hj k
/-- an owned list is read -/
theorem ev_ixO {l : Addr} {vs : List V} {z : Int} (hg : G[i]? = some (.val (.ref l))) (ho : O l = some (.lst vs)) (hv : DtAll K B vs ds) (hb : EvD K B O G tb (.int z)) (h : atI ds z = some d) : EvD K B O G (tOp (rIxL K) (tVar i) tb) d := fun B1 O1 σ H e o s Q q => by
  obtain ⟨sv, h1, h2⟩ := s.s.get hg
  have h3 : sv = some (.ref l) := h2
  subst h3
  refine ⟨_, h1, ?_⟩
  refine hb B1 O1 σ H e o s _ fun v B2 H2 e2 w2 d2 => ?_
  obtain ⟨v', h4, h5⟩ := atI_get (dps_ex (e.trans e2) _ _ hv) h
  rw [dp_int d2]
  exact ⟨l, vs, z, v', rfl, rfl, .inl (.inl (w2.o _ _ (o _ _ ho))), h4, q _ B2 H2 e2 w2 h5⟩
theorem ev_lenO {l : Addr} {vs : List V} (hg : G[i]? = some (.val (.ref l))) (ho : O l = some (.lst vs)) : EvD K B O G (tCB (fun xs H Q => ∃ p ys, xs = [.ref p] ∧ (SqL K H p ys ∨ SqT K H p ys) ∧ Q (.int ys.length) H) (tCons (tVar i) tNil)) (.int vs.length) := fun B1 O1 σ H e o s Q q => by
  obtain ⟨sv, h1, h2⟩ := s.s.get hg
  have h3 : sv = some (.ref l) := h2
  subst h3
  exact ⟨_, h1, l, vs, rfl, .inl (.inl (.inl (s.w.o _ _ (o _ _ ho)))), q _ B1 H (Ex.refl _) s.w (.int _)⟩
/-- tuple(x) of an owned list -/
theorem ev_tupO {l : Addr} {vs : List V} (hg : G[i]? = some (.val (.ref l))) (ho : O l = some (.lst vs)) (hv : DtAll K B vs ds) : EvD K B O G (tCB (fun xs H Q => ∃ p ys, xs = [.ref p] ∧ ((SqL K H p ys ∧ ∀ l, H l = none → Q (.ref l) (upd H l (.tup ys))) ∨ (SqT K H p ys ∧ Q (.ref p) H))) (tCons (tVar i) tNil)) (.tuple ds) := fun B1 O1 σ H e o s Q q => by
  obtain ⟨sv, h1, h2⟩ := s.s.get hg
  have h3 : sv = some (.ref l) := h2
  subst h3
  exact ⟨_, h1, l, vs, rfl, .inl ⟨.inl (.inl (s.w.o _ _ (o _ _ ho))), fun p hp => q _ (upd B1 p _) _ (Ex.new (s.w.fb hp)) (s.w.newB hp) (.tup (.inl (.inl upd_same)) (dps_ex (e.trans (Ex.new (s.w.fb hp))) _ _ hv))⟩⟩
/-- an owned list is given back -/
theorem s_retO {l : Addr} {vs : List V} {O0 : Hp} (s : Sta K B O G σ H) (hg : G[i]? = some (.val (.ref l))) (ho : O = upd O0 l (.lst vs)) (hn : O0 l = none) (hv : DtAll K B vs ds) (k : ∀ B' H', Ex B B' → W B' O0 H' → Dt K B' (.ref l) (.list ds) → D.rt (.ref l) H') : tRet (tVar i) D σ H := by
  subst ho
  obtain ⟨sv, h1, h2⟩ := s.s.get hg
  have h3 : sv = some (.ref l) := h2
  subst h3
  have hb := s.w.bnone upd_same
  exact ⟨_, h1, k (upd B l (.lst vs)) H (Ex.new hb) (s.w.give hn) (.lst upd_same (dps_ex (Ex.new hb) _ _ hv))⟩
/-! loops -/
theorem s_for {wi : TI} {g : TG} {es : List PyData} (s : Sta K B O G σ H) (hI : EvI K B O G wi es) (P : Nat → Hp → Hp → List SD → Prop) (mono : ∀ i B1 B2 O1 G1, Ex B1 B2 → P i B1 O1 G1 → P i B2 O1 G1)
    (h0 : P 0 B O G)
    (hs : ∀ i e B1 O1 G1 σ1 H1 v, es[i]? = some e → Ex B B1 → P i B1 O1 G1 → Sta K B1 O1 G1 σ1 H1 → Dt K B1 v e → ∀ N : L2.St → Hp → Prop, (∀ B' O' G' σ' H', Ex B1 B' → P (i + 1) B' O' G' → Sta K B' O' G' σ' H' → N σ' H') → g v σ1 H1 fun σ2 H2 => tu { D with nx := N, ct := N, bk := D.nx } σ2 H2)
    (hd : ∀ B1 O1 G1 σ1 H1, Ex B B1 → P es.length B1 O1 G1 → Sta K B1 O1 G1 σ1 H1 → D.nx σ1 H1) : tFor wi g tu D σ H := by
  refine hI B O σ H (Ex.refl _) (Ex.refl _) s _ fun J B2 H2 e2 w2 gv => ?_
  obtain ⟨n, G0, Y, hn, wk, hG0, hY⟩ := gv
  refine for_it wk (fun i σ' H' => ∃ B' O' G', Ex B2 B' ∧ P i B' O' G' ∧ Sta K B' O' G' σ' H') ⟨B2, O, G, Ex.refl _, mono _ _ _ _ _ e2 h0, s.ex e2 w2⟩ (fun i σ' H' _ ⟨B', O', G', e', p', s'⟩ => hG0 B' O' H' e' s'.w) ?_ ?_
  · rintro i x σ' H3 H4 hi ⟨B3, O3, G3, e3, p3, s3⟩ y
    obtain ⟨e, B4, hie, e4, w4, dx⟩ := hY i H3 x H4 B3 _ e3 s3.w hi y
    refine hs i e B4 O3 G3 σ' H4 x hie ((e2.trans e3).trans e4) (mono _ _ _ _ _ e4 p3) ⟨w4, s3.s.ex e4⟩ dx _ fun B' O' G' σ2 H5 e5 p5 s5 => ⟨B', O', G', (e3.trans e4).trans e5, p5, s5⟩
  · rintro σ' H3 ⟨B3, O3, G3, e3, p3, s3⟩
    exact hd B3 O3 G3 σ' H3 (e2.trans e3) (by rw [← hn]; exact p3) s3
theorem q_for {wi : TI} {g : TG} {es : List PyData} (s : Sta K B O G σ H) (hI : EvI K B O G wi es) (P : Nat → Hp → Hp → List SD → Prop) (mono : ∀ i B1 B2 O1 G1, Ex B1 B2 → P i B1 O1 G1 → P i B2 O1 G1)
    (h0 : P 0 B O G)
    (hs : ∀ i e B1 O1 G1 σ1 H1 v, es[i]? = some e → Ex B B1 → P i B1 O1 G1 → Sta K B1 O1 G1 σ1 H1 → Dt K B1 v e → ∀ N : L2.St → Hp → Prop, (∀ B' O' G' σ' H', Ex B1 B' → P (i + 1) B' O' G' → Sta K B' O' G' σ' H' → N σ' H') → g v σ1 H1 fun σ2 H2 => tu { D with nx := N, ct := N, bk := tz D } σ2 H2)
    (hd : ∀ B1 O1 G1 σ1 H1, Ex B B1 → P es.length B1 O1 G1 → Sta K B1 O1 G1 σ1 H1 → tz D σ1 H1) : tSeq (tFor wi g tu) tz D σ H := s_for (D := { D with nx := tz D }) s hI P mono h0 hs hd
end

/-! ### defs -/
/-- the promise of a def of data: R tells the arguments and the answer -/
def SpR (K : PySem.W.Frag) (R : List PyData → PyData → Prop) : Sp := fun vs H Q _ => ∃ B O ds d, W B O H ∧ DtAll K B vs ds ∧ R ds d ∧ ∀ v B' H', Ex B B' → W B' O H' → Dt K B' v d → Q v H'
section
variable {K : PySem.W.Frag} {B O : Hp} {G : List SD} {R : List PyData → PyData → Prop} {ds : List PyData} {d : PyData} {t : TA} {E : XK}
theorem ev_call (h : EvA K B O G t ds) (hr : R ds d) : EvD K B O G (tCall (SpR K R) [] E t) d := fun B1 O1 σ H e o s Q q =>
  h B1 O1 σ H e o s _ fun vs B2 H2 e2 w2 d2 => by
    rw [List.append_nil]
    exact ⟨B2, O1, ds, d, w2, d2, hr, fun v B3 H3 e3 w3 d3 => q v B3 H3 (e2.trans e3) w3 d3⟩
end
def gOf (ds : List PyData) (n : Nat) : List SD := ds.map SD.dat ++ List.replicate n .un
theorem slots_start {K : PySem.W.Frag} {B : Hp} : ∀ {vs : List V} {ds : List PyData}, DtAll K B vs ds → ∀ n, Slots K B (vs.map some ++ List.replicate n none) (gOf ds n)
  | _, _, .nil, 0 => trivial
  | _, _, .nil, n + 1 => ⟨trivial, slots_start (ds := []) .nil n⟩
  | _, _, .cons h t, n => ⟨⟨_, rfl, h⟩, slots_start t n⟩
section
variable {P : Program} {w : World} {K : PySem.W.Frag} {mg : Str → Option Value} {base : Heap}
theorem ok_fn {x qual : Str} {st : Stmt} {f : Addr} {fd : FuncData} {N ps : List Str} {k : Nat} {R : List PyData → PyData → Prop} (F : Fun K x qual st f fd) (S : FnScope N ps (defScope st)) (hl : ∀ ds d, R ds d → ds.length = ps.length)
    (hb : ∀ (cdv : Value) (A : Around) (outer : List Env) (s : Shared) (H0 : Hp) (E : XK), Room k (A.deeper (envOfC qual (defScope st) s.heap.objs.size f cdv)) → ∀ ds d, R ds d →
      ∃ t, PSs (cxOf CX0 P w K mg base N qual (defScope st) f cdv A outer s H0 E).nox (defBody st) t ∧
        ∀ B O σ H (Q : VK), Sta K B O (gOf ds (N.length - ps.length)) σ H → (∀ v B' H', Ex B B' → W B' O H' → Dt K B' v d → Q v H') → t { nx := fun _ H' => Q .non H', rt := Q } σ H) :
    FnOk P w K mg base CX0 (k + 1) f fd ps (SpR K R) := by
  refine F.ok S (fun vs H Q E h => ?_) (fun cdv A outer s H vs Q E hr h => ?_)
  · obtain ⟨B, O, ds, d, _, h2, h3, _⟩ := h
    rw [dps_len h2]
    exact hl ds d h3
  · obtain ⟨B, O, ds, d, h1, h2, h3, k⟩ := h
    obtain ⟨t, ht, hq⟩ := hb cdv A outer s H E hr ds d h3
    refine ⟨t, ht, hq B O _ H Q ⟨h1, ?_⟩ k⟩
    have e := slots_start h2 (N.length - ps.length)
    have hl' : vs.length = ps.length := by rw [dps_len h2]; exact hl ds d h3
    unfold L2.start
    rw [hl']
    exact e
/-- a def that stands at its name, and its promise -/
structure Cal (P : Program) (w : World) (K : PySem.W.Frag) (mg : Str → Option Value) (base : Heap) (k : Nat) (x : Str) (ps : List Str) (sp : Sp) : Prop where
  ex : ∃ f fd, FnOk P w K mg base CX0 k f fd ps sp ∧ mg x = some (.ref f) ∧ PySem.W.keepIn K (.ref f) = true ∧ Binds K fd ps []
/-- where a def of the text stands -/
structure At (K : PySem.W.Frag) (mg : Str → Option Value) (x : Str) (st : Stmt) (ps : List Str) (f : Addr) (fd : FuncData) : Prop where
  fn : Fun K x x st f fd
  mg : mg x = some (.ref f)
  bi : Binds K fd ps []
theorem At.cal {x : Str} {st : Stmt} {ps : List Str} {f : Addr} {fd : FuncData} {k : Nat} {sp : Sp} (a : At K mg x st ps f fd) (h : FnOk P w K mg base CX0 k f fd ps sp) : Cal P w K mg base k x ps sp := ⟨f, fd, h, a.mg, a.fn.kp, a.bi⟩
end
theorem pe_cal {X : Cx} {x : Str} {ps : List Str} {sp : Sp} {k j : Nat} {p pos : Pos} {e : Expr} {es : List Expr} {t : TA} (C : Cal X.prog X.w X.K X.mg X.base k x ps sp) (hr : Room j X.A) (hk : k ≤ j) (hg : Gl X x) (ha : PA X (e :: es) t) (hd : (x == ("__debug__" : Str)) = false := by decide)
    (he : starEach (e :: es) X.env = (false, eval e X.env) :: starEach es X.env := by rfl) (hpl : (backTo pos (starEach es X.env)).any (·.1) = false := by rfl) :
    PE X (.Call (.Name x p) (e :: es) [] pos) (tCall sp [] E0 t) := by
  obtain ⟨f, fd, h1, h2, h3, h4⟩ := C.ex
  exact pe_call (h1.mono hk) hr hg h2 h3 h4 .nil pass0 ha hd he hpl
end DL

set_option Elab.async false
set_option linter.all false
set_option maxRecDepth 100000
set_option maxHeartbeats 2000000
/-! The rules that name the written part, with it told. -/
namespace DL
open PySem PySem.Spec PyProof.Rows L2 StX
section
variable (K : PySem.W.Frag) {X : Cx}
theorem ix_tupK (h : X.K = K := by rfl) : IxR X (rIxT K) := h ▸ ix_tup
theorem ix_listK (h : X.K = K := by rfl) : IxR X (rIxL K) := h ▸ ix_list
theorem op_inK (h : X.K = K := by rfl) : OpR X (compareOp .In) (rIn K false) := h ▸ op_in_seq
theorem op_notInK (h : X.K = K := by rfl) : OpR X (compareOp .NotIn) (rIn K true) := h ▸ op_notIn_seq
theorem op_eqDK (hu : X.A.units + 64 < cLine) (h : X.K = K := by rfl) : OpR X (compareOp .Eq) (rEqD K) := h ▸ op_eqD hu
theorem op_neDK (hu : X.A.units + 64 < cLine) (h : X.K = K := by rfl) : OpR X (compareOp .NotEq) (rNeD K) := h ▸ op_neD hu
theorem op_catAK (h : X.K = K := by rfl) : OpR X (binaryOp .Add) (rCatA K) := h ▸ op_catA
theorem sl_tupAK (h : X.K = K := by rfl) : SlR X (rSlA K) := h ▸ sl_tupA
theorem sl_listK (h : X.K = K := by rfl) : SlR X (rSlL K) := h ▸ sl_list
theorem call_lenK (h : X.K = K := by rfl) : CallR X (.builtin "len") (fun xs H Q => ∃ p ys, xs = [.ref p] ∧ (SqL K H p ys ∨ SqT K H p ys) ∧ Q (.int ys.length) H) := h ▸ call_len_seq
theorem call_listK (h : X.K = K := by rfl) : CallR X (.type "list") (fun xs H Q => ∃ p ys, xs = [.ref p] ∧ (SqL K H p ys ∨ SqT K H p ys) ∧ ∀ l, H l = none → Q (.ref l) (upd H l (.lst ys))) := h ▸ call_list_of
theorem call_tupleK (h : X.K = K := by rfl) : CallR X (.type "tuple") (fun xs H Q => ∃ p ys, xs = [.ref p] ∧ ((SqL K H p ys ∧ ∀ l, H l = none → Q (.ref l) (upd H l (.tup ys))) ∨ (SqT K H p ys ∧ Q (.ref p) H))) := h ▸ call_tuple_of
theorem cr_sumK (hc : X.calm = true) (h : X.K = K := by rfl) : CallR X (.builtin "sum") (rSum K) := h ▸ cr_sum hc
theorem cr_allK (hc : X.calm = true) (h : X.K = K := by rfl) : CallR X (.builtin "all") (rAll K) := h ▸ cr_all hc
theorem cr_anyK (hc : X.calm = true) (h : X.K = K := by rfl) : CallR X (.builtin "any") (rAny K) := h ▸ cr_any hc
theorem pi_listK {e tg : Expr} {te : TE} (he : PE X e te) (h : X.K = K := by rfl) : PI X tg e (iList K te) := h ▸ pi_list he
theorem pi_tupK {e tg : Expr} {te : TE} (he : PE X e te) (h : X.K = K := by rfl) : PI X tg e (iTup K te) := h ▸ pi_tup he
theorem pg_tupK {es : List Expr} {t : TGs} {kk n : Nat} {pos : Pos} (hc : X.calm = true) (hts : PGs X es t) (h : X.K = K := by rfl) (hn : (assignEach es X.env).length = n := by rfl) (hst : (assignEach es X.env).findIdx? (·.1) = none := by rfl) :
    PG X (.Tuple es kk pos) (gTup K n t) := h ▸ pg_tup hc hts hn hst
theorem pa_starK {e : Expr} {es : List Expr} {te : TE} {t : TA} {p : Pos} (he : PE X e te) (hr : PA X es t) (h : X.K = K := by rfl) (hs : starEach (.Starred e p :: es) X.env = (true, eval e X.env) :: starEach es X.env := by rfl) : PA X (.Starred e p :: es) (tStar K te t) := h ▸ pa_star he hr hs
theorem pi_enumK {e : Expr} {ta : TA} {p pos tpos : Pos} {elts : List Expr} {kk : Nat} (hg : Gl X "enumerate") (hm : X.mg "enumerate" = none) (ha : PA X [e] ta) (h : X.K = K := by rfl) (hs : starEach [e] X.env = [(false, eval e X.env)] := by rfl) :
    PI X (.Tuple elts kk tpos) (.Call (.Name "enumerate" p) [e] [] pos) (iEnum K ta) := h ▸ pi_enum hg hm ha hs
end
section
variable {K : PySem.W.Frag} {α : Type} {x y z : α} {xs : List α}
theorem at0 : atI (x :: xs) 0 = some x := by
  have h : (0 : Int) < (xs.length : Int) + 1 := by omega
  simp [atI, ixN, h]
theorem at1 : atI (x :: y :: xs) 1 = some y := by
  have h : (1 : Int) < (xs.length : Int) + 1 + 1 := by omega
  simp [atI, ixN, h]
theorem at2 : atI (x :: y :: z :: xs) 2 = some z := by
  have h : (2 : Int) < (xs.length : Int) + 1 + 1 + 1 := by omega
  simp [atI, ixN, h]
theorem at_last : atI (xs ++ [x]) (-1) = some x := by
  have h1 : ¬ (0 : Int) ≤ -1 := by omega
  have h2 : (-1 + ((xs.length : Int) + 1)).toNat = xs.length := by omega
  have h3 : -((xs.length : Int) + 1) ≤ -1 := by omega
  simp [atI, ixN, h2, h3]
end
end DL
namespace DL
open PySem PySem.Spec PyProof.Rows L2 StX
section
variable {K : PySem.W.Frag} {B O : Hp} {G : List SD} {wi : TI} {g : TG} {tt : TT} {te : TE} {vs : List Nat} {es : List PyData}
theorem EvL.d {te : TE} {ds : List PyData} (h : EvL K B O G te ds) : EvD K B O G te (.list ds) := fun B1 O1 σ H e1 o s Q q => h B1 O1 σ H e1 o s _ fun p ws B' H' e' hp w' da =>
  q _ (upd B' p (.lst ws)) H' (e'.trans (Ex.new (w'.bnone upd_same))) (w'.give hp) (.lst upd_same (dps_ex (Ex.new (w'.bnone upd_same)) _ _ da))
/-- a comprehension over typed things, with a test -/
theorem el_lcT {α : Type} (xs : List α) (en : α → PyData) (f : α → Bool) (v : α → PyData) (Gi : α → List SD) (hI : EvI K B O G wi (xs.map en)) (hz : xs.length ≤ 100000)
    (hg : ∀ x, x ∈ xs → EvG K (RW vs) g (wipeG G vs) (en x) (Gi x)) (ht : ∀ x, x ∈ xs → EvT K B O (Gi x) tt (f x)) (he : ∀ x, x ∈ xs → f x = true → EvD K B O (Gi x) te (v x)) :
    EvL K B O G (tLc wi g tt te vs) ((xs.filter f).map v) := fun B1 O1 σ H e1 o s Q q => by
  refine hI B1 O1 σ H e1 o s _ fun J B2 H2 e2 w2 gv D hD => ?_
  obtain ⟨n, G0, Y, hn, wk, hG0, hY⟩ := gv
  have oD : O1 D = none := w2.fo hD
  refine lc_it wk (fun i H' => ∃ B' acc, Ex B2 B' ∧ W B' (upd O1 D (.lst acc)) H' ∧ DtAll K B' acc (((xs.take i).filter f).map v))
    ⟨B2, [], Ex.refl _, w2.newO hD, by simp; exact .nil⟩ (fun i H' _ ⟨B', acc, e', w', _⟩ => hG0 B' _ H' e' w') ?_ ?_
  · rintro i x H3 H4 hi ⟨B3, acc, e3, w3, da⟩ y
    obtain ⟨e, B4, hie, e4, w4, dx⟩ := hY i H3 x H4 B3 _ e3 w3 hi y
    rw [List.getElem?_map] at hie
    obtain ⟨c, hic, hce⟩ : ∃ c, xs[i]? = some c ∧ en c = e := by
      cases hx : xs[i]? with
      | none => rw [hx] at hie; cases hie
      | some c => rw [hx] at hie; exact ⟨c, rfl, Option.some.inj hie⟩
    subst hce
    have hm : c ∈ xs := List.mem_of_getElem? hic
    have s4 : Sta K B4 (upd O1 D (.lst acc)) (wipeG G vs) (L2.wipe σ vs) H4 := ⟨w4, (s.s.ex ((e2.trans e3).trans e4)).wipe vs⟩
    have hOD : Ex O (upd O1 D (.lst acc)) := o.trans (Ex.new oD)
    refine hg c hm B4 _ _ H4 x s4 dx _ fun σ' s5 r5 => ⟨r5.trans wipe_wipe, ?_⟩
    have hlen : acc.length ≤ 100000 := by
      rw [dps_len da, List.length_map]
      have h1 := List.length_filter_le f (xs.take i)
      have h2 : (xs.take i).length ≤ xs.length := List.length_take_le' i xs
      omega
    refine ht c hm B4 _ σ' H4 (e1.trans ((e2.trans e3).trans e4)) hOD s5 _ fun B5 H5 e5 w5 => ?_
    have htk : xs.take (i + 1) = xs.take i ++ [c] := by
      rw [List.take_add_one, hic]
      rfl
    cases hf : f c with
    | true =>
      show te σ' H5 _
      refine he c hm hf B5 _ σ' H5 (e1.trans (((e2.trans e3).trans e4).trans e5)) hOD (s5.ex e5 w5) _ fun u B6 H6 e6 w6 d6 => ?_
      refine ⟨acc, w6.o D _ upd_same, Nat.lt_of_le_of_lt hlen (by decide), B6, acc ++ [u], ((e3.trans e4).trans e5).trans e6, ?_, ?_⟩
      · have := w6.mut (v := .lst (acc ++ [u])) upd_same
        rw [upd_upd] at this
        exact this
      · rw [htk, List.filter_append, List.map_append]
        refine dps_app (dps_ex ((e4.trans e5).trans e6) _ _ da) ?_
        simp [hf]
        exact dps_one d6
    | false =>
      show ∃ B' acc, _
      refine ⟨B5, acc, (e3.trans e4).trans e5, w5, ?_⟩
      rw [htk, List.filter_append, List.map_append]
      simp [hf]
      have := dps_ex (e4.trans e5) _ _ da
      simpa using this
  · rintro H3 ⟨B3, acc, e3, w3, da⟩
    rw [hn, List.length_map, List.take_length] at da
    exact q D acc B3 H3 (e2.trans e3) oD w3 da
theorem ev_lcT {α : Type} (xs : List α) (en : α → PyData) (f : α → Bool) (v : α → PyData) (Gi : α → List SD) (hI : EvI K B O G wi (xs.map en)) (hz : xs.length ≤ 100000)
    (hg : ∀ x, x ∈ xs → EvG K (RW vs) g (wipeG G vs) (en x) (Gi x)) (ht : ∀ x, x ∈ xs → EvT K B O (Gi x) tt (f x)) (he : ∀ x, x ∈ xs → f x = true → EvD K B O (Gi x) te (v x)) :
    EvD K B O G (tLc wi g tt te vs) (.list ((xs.filter f).map v)) := (el_lcT xs en f v Gi hI hz hg ht he).d
theorem el_map {α : Type} (xs : List α) (en : α → PyData) (v : α → PyData) (Gi : α → List SD) (hI : EvI K B O G wi (xs.map en)) (hz : xs.length ≤ 100000)
    (hg : ∀ x, x ∈ xs → EvG K (RW vs) g (wipeG G vs) (en x) (Gi x)) (he : ∀ x, x ∈ xs → EvD K B O (Gi x) te (v x)) :
    EvL K B O G (tLc wi g tYes te vs) (xs.map v) := by
  have h := el_lcT (K := K) (B := B) (O := O) (G := G) (wi := wi) (g := g) (tt := tYes) (te := te) (vs := vs) xs en (fun _ => true) v Gi hI hz hg (fun _ _ => et_yes) (fun x hx _ => he x hx)
  rw [List.filter_eq_self.mpr (by simp)] at h
  exact h
theorem ev_map {α : Type} (xs : List α) (en : α → PyData) (v : α → PyData) (Gi : α → List SD) (hI : EvI K B O G wi (xs.map en)) (hz : xs.length ≤ 100000)
    (hg : ∀ x, x ∈ xs → EvG K (RW vs) g (wipeG G vs) (en x) (Gi x)) (he : ∀ x, x ∈ xs → EvD K B O (Gi x) te (v x)) :
    EvD K B O G (tLc wi g tYes te vs) (.list (xs.map v)) := by
  have h := ev_lcT (K := K) (B := B) (O := O) (G := G) (wi := wi) (g := g) (tt := tYes) (te := te) (vs := vs) xs en (fun _ => true) v Gi hI hz hg (fun _ _ => et_yes) (fun x hx _ => he x hx)
  rw [List.filter_eq_self.mpr (by simp)] at h
  exact h
end
theorem SpR_false {P : Program} {w : World} {K : PySem.W.Frag} {mg : Str → Option Value} {base : Heap} {k : Nat} {f : Addr} {fd : FuncData} {ps : List Str} {R : List PyData → PyData → Prop} (h : ∀ ds d, ¬ R ds d) : FnOk P w K mg base CX0 k f fd ps (SpR K R) :=
  ⟨fun _ _ _ _ ⟨_, _, ds, d, _, _, r, _⟩ => (h ds d r).elim, fun _ _ _ _ _ _ _ _ _ _ _ _ _ ⟨_, _, ds, d, _, _, r, _⟩ => (h ds d r).elim⟩
/-- the same promise told by less -/
theorem SpR_imp {P : Program} {w : World} {K : PySem.W.Frag} {mg : Str → Option Value} {base : Heap} {k : Nat} {f : Addr} {fd : FuncData} {ps : List Str} {R R' : List PyData → PyData → Prop} (F : FnOk P w K mg base CX0 k f fd ps (SpR K R)) (h : ∀ ds d, R' ds d → R ds d) : FnOk P w K mg base CX0 k f fd ps (SpR K R') :=
  F.imp fun _ _ _ _ ⟨B, O, ds, d, a, b, c, e⟩ => ⟨B, O, ds, d, a, b, h _ _ c, e⟩
/-- the promise of a def that hands back a new list -/
def SpL (K : PySem.W.Frag) (R : List PyData → List PyData → Prop) : Sp := fun vs H Q _ => ∃ B O ds es, W B O H ∧ DtAll K B vs ds ∧ R ds es ∧ ∀ p ws B' H', Ex B B' → O p = none → W B' (upd O p (.lst ws)) H' → DtAll K B' ws es → Q (.ref p) H'
section
variable {K : PySem.W.Frag} {B O : Hp} {G : List SD} {R : List PyData → List PyData → Prop} {ds es : List PyData} {t : TA} {E : XK} {te : TE} {D : Ends} {σ : L2.St} {H : Hp}
theorem el_call (h : EvA K B O G t ds) (hr : R ds es) : EvL K B O G (tCall (SpL K R) [] E t) es := fun B1 O1 σ H e o s Q q =>
  h B1 O1 σ H e o s _ fun vs B2 H2 e2 w2 d2 => by
    rw [List.append_nil]
    exact ⟨B2, O1, ds, es, w2, d2, hr, fun p ws B3 H3 e3 hp w3 d3 => q p ws B3 H3 (e2.trans e3) hp w3 d3⟩
theorem el_listT {te : TE} (h : EvD K B O G te (.tuple ds)) : EvL K B O G (tCB (fun xs H Q => ∃ p ys, xs = [.ref p] ∧ (SqL K H p ys ∨ SqT K H p ys) ∧ ∀ l, H l = none → Q (.ref l) (upd H l (.lst ys))) (tCons te tNil)) ds := fun B1 O1 σ H e o s Q q =>
  h B1 O1 σ H e o s _ fun v B2 H2 e2 w2 d2 => by
    obtain ⟨a, xs, rfl, k1, k2⟩ := dp_tup d2
    exact ⟨a, xs, rfl, .inr (st_ex w2.b k1), fun l hl => q l xs B2 _ e2 (w2.fo hl) (w2.newO hl) k2⟩
theorem s_retL (s : Sta K B O G σ H) (h : EvL K B O G te es) (k : ∀ p ws B' H', Ex B B' → O p = none → W B' (upd O p (.lst ws)) H' → DtAll K B' ws es → D.rt (.ref p) H') : tRet te D σ H :=
  h B O σ H (Ex.refl _) (Ex.refl _) s _ fun p ws B' H' e hp w dv => k p ws B' H' e hp w dv
end
section
variable {P : Program} {w : World} {K : PySem.W.Frag} {mg : Str → Option Value} {base : Heap}
theorem ok_fnL {x qual : Str} {st : Stmt} {f : Addr} {fd : FuncData} {N ps : List Str} {k : Nat} {R : List PyData → List PyData → Prop} (F : Fun K x qual st f fd) (S : FnScope N ps (defScope st)) (hl : ∀ ds d, R ds d → ds.length = ps.length)
    (hb : ∀ (cdv : Value) (A : Around) (outer : List Env) (s : Shared) (H0 : Hp) (E : XK), Room k (A.deeper (envOfC qual (defScope st) s.heap.objs.size f cdv)) → ∀ ds es, R ds es →
      ∃ t, PSs (cxOf CX0 P w K mg base N qual (defScope st) f cdv A outer s H0 E).nox (defBody st) t ∧
        ∀ B O σ H (Q : VK), Sta K B O (gOf ds (N.length - ps.length)) σ H → (∀ p ws B' H', Ex B B' → O p = none → W B' (upd O p (.lst ws)) H' → DtAll K B' ws es → Q (.ref p) H') → t { nx := fun _ H' => Q .non H', rt := Q } σ H) :
    FnOk P w K mg base CX0 (k + 1) f fd ps (SpL K R) := by
  refine F.ok S (fun vs H Q E h => ?_) (fun cdv A outer s H vs Q E hr h => ?_)
  · obtain ⟨B, O, ds, d, _, h2, h3, _⟩ := h
    rw [dps_len h2]
    exact hl ds d h3
  · obtain ⟨B, O, ds, d, h1, h2, h3, k⟩ := h
    obtain ⟨t, ht, hq⟩ := hb cdv A outer s H E hr ds d h3
    refine ⟨t, ht, hq B O _ H Q ⟨h1, ?_⟩ k⟩
    have e := slots_start h2 (N.length - ps.length)
    have hl' : vs.length = ps.length := by rw [dps_len h2]; exact hl ds d h3
    unfold L2.start
    rw [hl']
    exact e
end
theorem SpL_false {P : Program} {w : World} {K : PySem.W.Frag} {mg : Str → Option Value} {base : Heap} {k : Nat} {f : Addr} {fd : FuncData} {ps : List Str} {R : List PyData → List PyData → Prop} (h : ∀ ds d, ¬ R ds d) : FnOk P w K mg base CX0 k f fd ps (SpL K R) :=
  ⟨fun _ _ _ _ ⟨_, _, ds, d, _, _, r, _⟩ => (h ds d r).elim, fun _ _ _ _ _ _ _ _ _ _ _ _ _ ⟨_, _, ds, d, _, _, r, _⟩ => (h ds d r).elim⟩
theorem at_nn {α : Type} {xs : List α} {i : Int} {x : α} (hi : 0 ≤ i) (h : xs[i.toNat]? = some x) : atI xs i = some x := by
  have hl : i.toNat < xs.length := (List.getElem?_eq_some_iff.mp h).1
  have h2 : i < xs.length := by omega
  unfold atI ixN
  rw [if_pos hi, if_pos h2]
  exact h
theorem ix_nn {n : Nat} {i : Int} (hi : 0 ≤ i) (h : i.toNat < n) : ixN n i = some i.toNat := by
  have h2 : i < n := by omega
  unfold ixN
  rw [if_pos hi, if_pos h2]
theorem enum_inv {es : List PyData} {i : Nat} {e : PyData} (h : (enumD es)[i]? = some e) : ∃ x, es[i]? = some x ∧ e = .tuple [.int i, x] := by
  have hi : i < es.length := by
    have := (List.getElem?_eq_some_iff.mp h).1
    rwa [enumD_len] at this
  have h2 : es[i]? = some es[i] := List.getElem?_eq_getElem hi
  rw [enumD_get h2] at h
  exact ⟨es[i], h2, (Option.some.inj h).symm⟩
theorem range_inv {lo : Int} {n i : Nat} {e : PyData} (h : (rangeD lo n)[i]? = some e) : i < n ∧ e = .int (lo + i) := by
  have hi : i < n := by
    have := (List.getElem?_eq_some_iff.mp h).1
    rwa [rangeD_len] at this
  rw [rangeD_get hi] at h
  exact ⟨hi, (Option.some.inj h).symm⟩
theorem map_inv {α β : Type} {xs : List α} {f : α → β} {i : Nat} {y : β} (h : (xs.map f)[i]? = some y) : ∃ x, xs[i]? = some x ∧ y = f x := by
  rw [List.getElem?_map] at h
  cases hx : xs[i]? with
  | none => rw [hx] at h; cases h
  | some x => rw [hx] at h; exact ⟨x, rfl, (Option.some.inj h).symm⟩
section
variable {K : PySem.W.Frag} {B O : Hp} {G : List SD} {σ : L2.St} {H : Hp} {D : Ends} {i : Nat}
theorem s_retOL {l : Addr} {vs : List V} {O0 : Hp} (s : Sta K B O G σ H) (hg : G[i]? = some (.val (.ref l))) (ho : O = upd O0 l (.lst vs)) (k : W B (upd O0 l (.lst vs)) H → D.rt (.ref l) H) : tRet (tVar i) D σ H := by
  subst ho
  obtain ⟨sv, h1, h2⟩ := s.s.get hg
  have h3 : sv = some (.ref l) := h2
  subst h3
  exact ⟨_, h1, k s.w⟩
end
theorem cut_init {xs : List PyData} {x : PyData} : cutX (xs ++ [x]) none (some (-1)) = xs := by
  have h : HT.sIx (xs ++ [x]).length (xs ++ [x]).length (some (-1)) = xs.length := by
    show (if (-1 : Int) < 0 then ((-1 : Int) + ((xs ++ [x]).length : Int)).toNat else min (-1 : Int).toNat (xs ++ [x]).length) = _
    rw [if_pos (by decide), List.length_append]
    simp
    omega
  unfold cutX
  rw [h, HT.sIx_none]
  simp
theorem cut_tail {xs : List PyData} {x : PyData} : cutX (x :: xs) (some 1) none = xs := by
  have h : HT.sIx (x :: xs).length 0 (some 1) = 1 := by
    have h2 := HT.sIx_nat (x :: xs).length 0 1
    have h3 : min 1 (x :: xs).length = 1 := by simp
    rw [h3] at h2
    exact h2
  unfold cutX
  rw [h, HT.sIx_none]
  simp
end DL

set_option Elab.async false
set_option linter.all false
set_option maxRecDepth 100000
set_option maxHeartbeats 2000000
/-! zip of a tuple and a list. -/
namespace DL
open PySem PySem.Spec PyProof.Rows L2 StX
def ItM (K : PySem.W.Frag) (a b : Addr) : It where
  go := fun i H => ∃ (xs ys : List V) (x y : V), (SqT K H a xs ∧ SqL K H b ys) ∧ xs[i]? = some x ∧ ys[i]? = some y
  yld := fun i H v H' => ∃ T x y, (v = .ref T ∧ H T = none ∧ H' = upd H T (.tup [x, y])) ∧ (∀ xs, SqT K H a xs → xs[i]? = some x) ∧ (∀ ys, SqL K H b ys → ys[i]? = some y)
  stop := fun i H => ∃ xs ys : List V, (SqT K H a xs ∧ SqL K H b ys) ∧ i ≤ xs.length ∧ i ≤ ys.length ∧ (i = xs.length ∨ i = ys.length)
structure StM (a b z TI TO i1 i2 : Addr) (i : Nat) (h : Heap) : Prop where
  z : IsZip h z TI TO .none
  ti : IsTupOf2 h TI (.ref i1) (.ref i2)
  to : ∃ x y, IsTupOf2 h TO x y
  t1 : h.IsTupleIter i1 a i
  t2 : h.IsListIter i2 b i
theorem StM.lt {a b z TI TO i1 i2 : Addr} {i : Nat} {h : Heap} (s : StM a b z TI TO i1 i2 i h) : ∀ c, c ∈ [z, TI, TO, i1, i2] → ∃ o, h.get? c = some o ∧ ∀ v, o.data ≠ .cell v := fun c hc => by
  obtain ⟨hz, hti, ⟨x, y, hto⟩, ⟨o1, e1, _, d1⟩, ⟨o2, e2, _, d2⟩⟩ := s
  simp only [List.mem_cons, List.not_mem_nil, or_false] at hc
  rcases hc with e | e | e | e | e <;> subst e
  · exact ⟨_, hz, fun v => nofun⟩
  · exact ⟨_, hti, fun v => nofun⟩
  · exact ⟨_, hto, fun v => nofun⟩
  · exact ⟨o1, e1, fun v q => by rw [d1] at q; cases q⟩
  · exact ⟨o2, e2, fun v q => by rw [d2] at q; cases q⟩
theorem turnM {P : Program} {w : World} {K : PySem.W.Frag} {elts : List Expr} {kk : Nat} {tpos : Pos} {a b z TI TO i1 i2 : Addr} (S : ZipSep2 z TI TO i1 i2 [i1, a] [i2, b]) (n1 : a ≠ i1) (n2 : b ≠ i2) :
    Turn P w K (.Tuple elts kk tpos) (ItM K a b) [z, TI, TO, i1, i2] z (fun i h => StM a b z TI TO i1 i2 i h) := by
  refine ⟨by simp, fun i h st c hc => ?_, fun i h h' st k => ?_, ?_, ?_, fun A i s Q E st h => wpAny_pyIter_zip st.z h⟩
  · obtain ⟨o, ho, hd⟩ := st.lt c hc
    exact ⟨o, ho, hd⟩
  · obtain ⟨hz, hti, ⟨x, y, hto⟩, h1, h2⟩ := st
    exact ⟨k z (by simp) _ hz, k TI (by simp) _ hti, ⟨x, y, k TO (by simp) _ hto⟩, h1.at fun o e => k i1 (by simp) o e, h2.at fun o e => k i2 (by simp) o e⟩
  · intro X hP hw hK hc i pins s σ H E I hf st hg
    subst hP hw hK
    have lts := st.lt
    obtain ⟨hz, hti, ⟨x0, y0, hto⟩, h1, h2⟩ := st
    obtain ⟨xs, ys, x, y, ⟨hqx, hqy⟩, hx, hy⟩ := hg
    obtain ⟨its, rv, p1, _⟩ := I.tuple hqx
    obtain ⟨its2, rv2, p2, _⟩ := I.list hqy
    have hl1 := rv.length
    have hl2 := rv2.length
    have hi1 : i < its.toArray.size := by
      have := (List.getElem?_eq_some_iff.mp hx).1
      simp
      omega
    have hi2 : i < its2.toArray.size := by
      have := (List.getElem?_eq_some_iff.mp hy).1
      simp
      omega
    have hzl : z < s.heap.objs.size := Heap.lt_size hz
    have hh := I.ok.hd hc
    refine wpAny_pyNext_zipD2_item S (Draws.tuple (A := X.A.in1) hh i1 a n1 its.toArray) (Draws.list (A := X.A.in1) hh i2 b n2 its2.toArray) hz hti hto ⟨h1, p1⟩ ⟨h2, p2.isList⟩ hi1 hi2 fun u u2 h' tk hu hu2 z' to' st1 st2 hT hsz hk => ?_
    have ru : RelV x u := by
      obtain ⟨q, hq, r⟩ := rv.get hx
      have e : its.toArray[i]? = some u := hu
      simp only [List.getElem?_toArray] at e
      rw [hq] at e
      cases e
      exact r
    have ru2 : RelV y u2 := by
      obtain ⟨q, hq, r⟩ := rv2.get hy
      have e : its2.toArray[i]? = some u2 := hu2
      simp only [List.getElem?_toArray] at e
      rw [hq] at e
      cases e
      exact r
    refine ⟨_, rfl, wpAny_letOwnedTupleGo_zip (s := { s with heap := h', toks := tk }) z' fun g' zz sb => ?_⟩
    have hT2 : g'.get? s.heap.objs.size = some { cls := .type "tuple", data := .seq #[u, u2] } := (sb.2 _ (Nat.ne_of_gt hzl)).trans hT
    have new : ObjOk X.prog X.w (upd H s.heap.objs.size (.tup [x, y])) g' s.heap.objs.size (.tup [x, y]) := ⟨(by decide : 2 ≤ sizeLine), [u, u2], Paired.cons ru (Paired.cons ru2 Paired.nil), _, hT2, rfl, _, rfl⟩
    have J := I.turnedNew (h' := g') (t' := tk) (ch := [z, TI, TO, i1, i2]) (fun c o hb q => (sb.2 c (fun q' => hb (by simp [q']))).trans (hk c o (fun q' => hb (by simp [q'])) (fun q' => hb (by simp [q'])) (fun q' => hb (by simp [q'])) (fun q' => hb (by simp [q'])) q)) hf (Nat.le_refl _) new
    refine ⟨.ref s.heap.objs.size, _, J, rfl, ⟨_, x, y, ⟨rfl, I.hok.fresh (Nat.le_refl _), rfl⟩, fun l hl => ?_, fun l hl => ?_⟩, ⟨zz, ?_, ⟨u, u2, ?_⟩, ?_, ?_⟩, fun c hcm => ?_⟩
    · rw [I.tuple_inj hl hqx]
      exact hx
    · rw [I.list_inj hl hqy]
      exact hy
    · exact (sb.2 _ S.TIz).trans (hk _ _ S.TIz S.TITO S.TIi1 S.TIi2 hti)
    · exact (sb.2 _ S.TOz).trans to'
    · exact st1.1.at fun o q => (sb.2 _ S.zi1.symm).trans q
    · exact st2.1.at fun o q => (sb.2 _ S.zi2.symm).trans q
    · obtain ⟨o, ho, _⟩ := lts c hcm
      rw [upd_ne (Nat.ne_of_lt (Heap.lt_size ho))]
      exact (hf c hcm).1
  · intro X hP hw hK hc i pins s σ H E I hf st hg
    subst hP hw hK
    obtain ⟨hz, hti, ⟨x0, y0, hto⟩, h1, h2⟩ := st
    obtain ⟨xs, ys, ⟨hqx, hqy⟩, le1, le2, hend⟩ := hg
    obtain ⟨its, rv, p1, _⟩ := I.tuple hqx
    obtain ⟨its2, rv2, p2, _⟩ := I.list hqy
    have hl1 := rv.length
    have hl2 := rv2.length
    have hh := I.ok.hd hc
    have z1 : its.toArray.size = xs.length := by
      simp
      omega
    have z2 : its2.toArray.size = ys.length := by
      simp
      omega
    refine wpAny_pyNext_zipD2_end S (Draws.tuple (A := X.A.in1) hh i1 a n1 its.toArray) (Draws.list (A := X.A.in1) hh i2 b n2 its2.toArray) hz hti hto ⟨h1, p1⟩ ⟨h2, p2.isList⟩ (by omega) (by omega) (by omega) fun h' tk hk => ?_
    exact ⟨rfl, I.turnedL (t' := tk) (ch := [z, TI, TO, i1, i2]) (fun c o hb q => hk c o (fun q' => hb (by simp [q'])) (fun q' => hb (by simp [q'])) (fun q' => hb (by simp [q'])) (fun q' => hb (by simp [q'])) q) hf⟩
def iZipM (K : PySem.W.Frag) (ta : TA) : TI := fun σ H R => ta σ H fun vs H1 => ∃ a b xs ys, vs = [V.ref a, V.ref b] ∧ SqT K H1 a xs ∧ SqL K H1 b ys ∧ R (ItM K a b) H1
theorem pi_zipM (K : PySem.W.Frag) {X : Cx} {e e2 : Expr} {ta : TA} {p pos tpos : Pos} {elts : List Expr} {kk : Nat} (hg : Gl X "zip") (hm : X.mg "zip" = none) (ha : PA X [e, e2] ta) (hK : X.K = K := by rfl)
    (hs : starEach [e, e2] X.env = (false, eval e X.env) :: starEach [e2] X.env := by rfl) (hpl : (backTo pos (starEach [e2] X.env)).any (·.1) = false := by rfl) :
    PI X (.Tuple elts kk tpos) (.Call (.Name "zip" p) [e, e2] [] pos) (iZipM K ta) := by
  subst hK
  refine ⟨fun pins s σ H R I h => Call_ (ld_blt I hg hm PyProof.Rows.boot_zip (PyProof.Rows.callWith_type1 (thn (ha.run pos pins s σ H _ I h) fun us s1 ⟨vs, H1, I1, r1, q1⟩ => ?_) hs hpl))⟩
  obtain ⟨a, b, xs, ys, rfl, hqx, hqy, q⟩ := q1
  obtain ⟨u1, u2, rfl, r1, r2⟩ := vals2 r1
  cases r1
  cases r2
  obtain ⟨its, rv, p1, _⟩ := I1.tuple hqx
  obtain ⟨its2, rv2, p2, _⟩ := I1.list hqy
  have la : a < s1.heap.objs.size := by
    obtain ⟨o, ho, _⟩ := id p1
    exact Heap.lt_size ho
  have lb : b < s1.heap.objs.size := p2.lt
  refine zip_begins2 (begins_tuple a its.toArray) (begins_list b its2.toArray) p1 p2.isList fun h' hz hti hto g1 g2 hsz hk => wpAny_pyIter_zip hz ?_
  have J : Inv X pins σ H1 { s1 with heap := h' } := I1.kept (t' := s1.toks) hk
  have S : ZipSep2 (s1.heap.objs.size + 4) (s1.heap.objs.size + 2) (s1.heap.objs.size + 3) s1.heap.objs.size (s1.heap.objs.size + 1) [s1.heap.objs.size, a] [s1.heap.objs.size + 1, b] :=
    zip_sep2 (fp1 := [a]) (fp2 := [b]) (by simpa using la) (by simpa using lb)
  refine ⟨s1.heap.objs.size + 4, [s1.heap.objs.size + 4, s1.heap.objs.size + 2, s1.heap.objs.size + 3, s1.heap.objs.size, s1.heap.objs.size + 1], _, _, H1, rfl, J, turnM S (Nat.ne_of_lt la) (Nat.ne_of_lt (Nat.lt_succ_of_lt lb)),
    ⟨hz, hti, ⟨_, _, hto⟩, ⟨_, g1, rfl, rfl⟩, ⟨_, g2, rfl, rfl⟩⟩, fun c hcm => ?_, q⟩
  have hle : s1.heap.objs.size ≤ c := by
    simp only [List.mem_cons, List.not_mem_nil, or_false] at hcm
    rcases hcm with e' | e' | e' | e' | e' <;> (rw [e']; first | exact Nat.le_refl _ | exact Nat.le_add_right _ _)
  exact I1.fpOk hle (I1.hok.fresh hle)
section
variable {K : PySem.W.Frag} {B O : Hp} {G : List SD} {ta : TA} {es ds : List PyData}
def zipD (es ds : List PyData) : List PyData := (es.zip ds).map fun z => .tuple [z.1, z.2]
theorem ei_zipM (h : EvA K B O G ta [.tuple es, .list ds]) (hl : es.length = ds.length) : EvI K B O G (iZipM K ta) ((es.zip ds).map fun z => .tuple [z.1, z.2]) := fun B1 O1 σ H e1 o s R r => h B1 O1 σ H e1 o s _ fun vs B2 H2 e2 w2 d2 => by
  cases d2 with
  | cons d3 d4 =>
    cases d4 with
    | cons d5 d6 =>
      cases d6
      obtain ⟨a, xs, rfl, k1, k2⟩ := dp_tup d3
      obtain ⟨b, ys, rfl, k3, k4⟩ := dp_lst d5
      have l1 := dps_len k2
      have l2 := dps_len k4
      have hz : ((es.zip ds).map fun z => PyData.tuple [z.1, z.2]).length = xs.length := by
        rw [List.length_map, List.length_zip]
        omega
      refine ⟨a, b, xs, ys, rfl, st_ex w2.b k1, .inl (.inl (w2.b _ _ k3)), r _ B2 H2 e2 w2 ⟨xs.length, (fun H => SqT K H a xs ∧ SqL K H b ys), YPair (fun i => xs[i]?) (fun i => ys[i]?), hz.symm, ?_, fun B3 O3 H3 e3 w3 => ⟨st_ex (e3.trans w3.b) k1, .inl (.inl (w3.b _ _ (e3 _ _ k3)))⟩, fun i H3 x H4 B3 O3 e3 w3 hi y => ?_⟩⟩
      · refine ⟨fun i H3 hi q => ⟨xs, ys, xs[i], ys[i]'(by omega), q, by simp [hi], by simp [show i < ys.length by omega]⟩, fun H3 q => ⟨xs, ys, q, Nat.le_refl _, by omega, .inl rfl⟩, fun i H3 v H4 hi q y => ?_⟩
        obtain ⟨T, x, y, ⟨e1, e2, e3⟩, h1, h2⟩ := y
        exact ⟨T, x, y, e1, e2, e3, h1 xs q.1, h2 ys q.2⟩
      · obtain ⟨T, x', y', rfl, hT, rfl, hx, hy⟩ := y
        obtain ⟨d, hd, dd⟩ := dps_getV k2 hx
        obtain ⟨e, he, de⟩ := dps_getV k4 hy
        obtain ⟨q1, q2, q3⟩ := pair_new w3 hT (dp_ex e3 _ _ dd) (dp_ex e3 _ _ de)
        refine ⟨_, _, ?_, q1, q2, q3⟩
        rw [List.getElem?_map, (List.getElem?_zip_eq_some (z := (d, e))).mpr ⟨hd, he⟩]
        rfl
end
end DL

set_option Elab.async false
set_option linter.all false
set_option maxRecDepth 100000
set_option maxHeartbeats 2000000
/-! Expressions and defs that change what is owned. -/
namespace DL
open PySem PySem.Spec PyProof.Rows L2 StX
/-- an expression that may change what is owned: R tells the data and what is owned behind it -/
def EvX (K : PySem.W.Frag) (B O : Hp) (G : List SD) (te : TE) (R : PyData → Hp → Prop) : Prop := ∀ B1 σ H, Ex B B1 → Sta K B1 O G σ H → ∀ Q : VK, (∀ v d B' O' H', Ex B1 B' → R d O' → W B' O' H' → Dt K B' v d → Q v H') → te σ H Q
def EvXs (K : PySem.W.Frag) (B O : Hp) (G : List SD) (ta : TA) (R : List PyData → Hp → Prop) : Prop := ∀ B1 σ H, Ex B B1 → Sta K B1 O G σ H → ∀ Q : List V → Hp → Prop, (∀ vs ds B' O' H', Ex B1 B' → R ds O' → W B' O' H' → DtAll K B' vs ds → Q vs H') → ta σ H Q
section
variable {K : PySem.W.Frag} {B B' O : Hp} {G : List SD} {te ta tb : TE} {t : TA} {r : R2} {d : PyData} {R R1 R3 : PyData → Hp → Prop} {R2' : PyData → Hp → PyData → Hp → Prop}
theorem EvX.ex (h : EvX K B O G te R) (e : Ex B B') : EvX K B' O G te R := fun B1 σ H e1 s Q q => h B1 σ H (e.trans e1) s Q q
theorem ex_pure (h : EvD K B O G te d) : EvX K B O G te (fun d' O' => d' = d ∧ O' = O) := fun B1 σ H e s Q q => h B1 O σ H e (Ex.refl _) s Q fun v B' H' e' w' dv => q v d B' O H' e' ⟨rfl, rfl⟩ w' dv
theorem ex_imp (h : EvX K B O G te R) (k : ∀ d O', R d O' → R1 d O') : EvX K B O G te R1 := fun B1 σ H e s Q q => h B1 σ H e s Q fun v d B' O' H' e' r' w' dv => q v d B' O' H' e' (k d O' r') w' dv
theorem ex_op (h1 : EvX K B O G ta R1) (h2 : ∀ d1 B' O', Ex B B' → R1 d1 O' → EvX K B' O' G tb (R2' d1 O')) (h3 : ∀ d1 O' d2 O'', R1 d1 O' → R2' d1 O' d2 O'' → ∃ z, RD K r d1 d2 z ∧ R3 z O'') : EvX K B O G (tOp r ta tb) R3 := fun B1 σ H e s Q q =>
  h1 B1 σ H e s _ fun v d1 B2 O2 H2 e2 r1 w2 dv => h2 d1 B2 O2 (e.trans e2) r1 B2 σ H2 (Ex.refl _) ⟨w2, s.s.ex e2⟩ _ fun u d2 B3 O3 H3 e3 r2 w3 du => by
    obtain ⟨z, hz, hr⟩ := h3 d1 O2 d2 O3 r1 r2
    exact hz B3 O3 H3 v u w3 (dp_ex e3 _ _ dv) du Q fun x B4 H4 e4 w4 dx => q x z B4 O3 H4 ((e2.trans e3).trans e4) hr w4 dx
theorem exs_nil : EvXs K B O G tNil (fun ds O' => ds = [] ∧ O' = O) := fun B1 σ H e s Q q => q [] [] B1 O H (Ex.refl _) ⟨rfl, rfl⟩ s.w .nil
theorem exs_cons {S : PyData → Hp → List PyData → Hp → Prop} {T : List PyData → Hp → Prop} (h1 : EvX K B O G te R) (h2 : ∀ d B' O', Ex B B' → R d O' → EvXs K B' O' G t (S d O')) (h3 : ∀ d O' ds O'', R d O' → S d O' ds O'' → T (d :: ds) O'') : EvXs K B O G (tCons te t) T := fun B1 σ H e s Q q =>
  h1 B1 σ H e s _ fun v d B2 O2 H2 e2 r1 w2 dv => h2 d B2 O2 (e.trans e2) r1 B2 σ H2 (Ex.refl _) ⟨w2, s.s.ex e2⟩ _ fun vs ds B3 O3 H3 e3 r2 w3 dvs => q (v :: vs) (d :: ds) B3 O3 H3 (e2.trans e3) (h3 d O2 ds O3 r1 r2) w3 (.cons (dp_ex e3 _ _ dv) dvs)
theorem ex_tup {T : List PyData → Hp → Prop} (h : EvXs K B O G t T) (hl : ∀ ds O', T ds O' → ds.length ≤ 100000) : EvX K B O G (tTup t) (fun d O' => ∃ ds, d = .tuple ds ∧ T ds O') := fun B1 σ H e s Q q =>
  h B1 σ H e s _ fun vs ds B2 O2 H2 e2 r2 w2 d2 => ⟨by rw [dps_len d2]; exact sz_of (hl ds O2 r2), fun p hp => q _ (.tuple ds) (upd B2 p (.tup vs)) O2 _ (e2.trans (Ex.new (w2.fb hp))) ⟨ds, rfl, r2⟩ (w2.newB hp) (.tup (.inl (.inl upd_same)) (dps_ex (Ex.new (w2.fb hp)) _ _ d2))⟩
theorem ex_lst {T : List PyData → Hp → Prop} (h : EvXs K B O G t T) (hl : ∀ ds O', T ds O' → ds.length ≤ 100000) : EvX K B O G (tLst t) (fun d O' => ∃ ds, d = .list ds ∧ T ds O') := fun B1 σ H e s Q q =>
  h B1 σ H e s _ fun vs ds B2 O2 H2 e2 r2 w2 d2 => ⟨by rw [dps_len d2]; exact sz_of (hl ds O2 r2), fun p hp => q _ (.list ds) (upd B2 p (.lst vs)) O2 _ (e2.trans (Ex.new (w2.fb hp))) ⟨ds, rfl, r2⟩ (w2.newB hp) (.lst upd_same (dps_ex (Ex.new (w2.fb hp)) _ _ d2))⟩
variable {σ : L2.St} {H : Hp} {D : Ends} {tz : TS} {i : Nat}
theorem qx_asg (s : Sta K B O G σ H) (h : EvX K B O G te R) (k : ∀ v d B' O' H', Ex B B' → R d O' → Dt K B' v d → Sta K B' O' (G.set i (.dat d)) (σ.set i (some v)) H' → tz D (σ.set i (some v)) H') : tSeq (tAsg te (gName i)) tz D σ H :=
  h B σ H (Ex.refl _) s _ fun v d B' O' H' e r' w' dv => k v d B' O' H' e r' dv ⟨w', (s.s.ex e).set i ⟨v, rfl, dv⟩⟩
theorem sx_ret (s : Sta K B O G σ H) (h : EvX K B O G te R) (k : ∀ v d B' O' H', Ex B B' → R d O' → W B' O' H' → Dt K B' v d → D.rt v H') : tRet te D σ H :=
  h B σ H (Ex.refl _) s _ fun v d B' O' H' e r' w' dv => k v d B' O' H' e r' w' dv
/-- append what is reckoned with changes to an owned list that these leave -/
theorem sx_app {l : Addr} {vs : List V} (s : Sta K B O G σ H) (hg : G[i]? = some (.val (.ref l))) (ho : O l = some (.lst vs)) (hz : vs.length < 100000) (h : EvX K B O G te R) (hr : ∀ d O', R d O' → O' l = some (.lst vs))
    (k : ∀ v d B' O' H', Ex B B' → R d O' → Dt K B' v d → Sta K B' (upd O' l (.lst (vs ++ [v]))) G σ H' → D.nx σ H') : tDrop (tBM K "list" rAppend (tVar i) (tCons te tNil)) D σ H := by
  obtain ⟨sv, h1, h2⟩ := s.s.get hg
  have h3 : sv = some (.ref l) := h2
  subst h3
  refine ⟨_, h1, .inl ⟨rfl, _, SqL.of (s.w.o _ _ ho)⟩, ?_⟩
  refine h B σ H (Ex.refl _) s _ fun v d B' O' H' e r' w' dv => ?_
  exact ⟨l, vs, v, rfl, rfl, w'.o _ _ (hr d O' r'), Nat.lt_of_lt_of_le hz (by decide), k v d B' O' _ e r' dv ⟨w'.mut (hr d O' r'), s.s.ex e⟩⟩
/-- the arguments of such a def: data, or just these values -/
def EvAS (K : PySem.W.Frag) (B O : Hp) (G : List SD) (ta : TA) (gs : List SD) : Prop := ∀ B1 σ H, Ex B B1 → Sta K B1 O G σ H → ∀ Q : List V → Hp → Prop, (∀ vs B' H', Ex B1 B' → W B' O H' → Slots K B' (vs.map some) gs → Q vs H') → ta σ H Q
theorem as_nil : EvAS K B O G tNil [] := fun B1 σ H e s Q q => q [] B1 H (Ex.refl _) s.w trivial
theorem as_dat {gs : List SD} (h : EvD K B O G te d) (hr : EvAS K B O G t gs) : EvAS K B O G (tCons te t) (.dat d :: gs) := fun B1 σ H e s Q q =>
  h B1 O σ H e (Ex.refl _) s _ fun v B2 H2 e2 w2 d2 => hr B2 σ H2 (e.trans e2) (s.ex e2 w2) _ fun vs B3 H3 e3 w3 d3 => q (v :: vs) B3 H3 (e2.trans e3) w3 ⟨⟨v, rfl, dp_ex e3 _ _ d2⟩, d3⟩
theorem as_val {gs : List SD} {v : V} (h : EvV K B O G te v) (hr : EvAS K B O G t gs) : EvAS K B O G (tCons te t) (.val v :: gs) := fun B1 σ H e s Q q =>
  h B1 O σ H e (Ex.refl _) s _ fun B2 H2 e2 w2 => hr B2 σ H2 (e.trans e2) (s.ex e2 w2) _ fun vs B3 H3 e3 w3 d3 => q (v :: vs) B3 H3 (e2.trans e3) w3 ⟨rfl, d3⟩
def SpX (K : PySem.W.Frag) (Pre : List SD → Hp → Hp → (PyData → Hp → Prop) → Prop) : Sp := fun vs H Q _ => ∃ B O gs R, W B O H ∧ Slots K B (vs.map some) gs ∧ Pre gs B O R ∧ ∀ v d B' O' H', Ex B B' → R d O' → W B' O' H' → Dt K B' v d → Q v H'
variable {Pre : List SD → Hp → Hp → (PyData → Hp → Prop) → Prop} {gs : List SD} {E : XK}
theorem ex_call (h : EvAS K B O G t gs) (hr : ∀ B', Ex B B' → Pre gs B' O R) : EvX K B O G (tCall (SpX K Pre) [] E t) R := fun B1 σ H e s Q q =>
  h B1 σ H e s _ fun vs B2 H2 e2 w2 d2 => by
    rw [List.append_nil]
    exact ⟨B2, O, gs, R, w2, d2, hr B2 (e.trans e2), fun v d B3 O3 H3 e3 r3 w3 d3 => q v d B3 O3 H3 (e2.trans e3) r3 w3 d3⟩
end
theorem slots_len {K : PySem.W.Frag} {B : Hp} : ∀ {σ : L2.St} {G : List SD}, Slots K B σ G → σ.length = G.length
  | [], [], _ => rfl
  | _ :: _, _ :: _, h => congrArg Nat.succ (slots_len h.2)
  | [], _ :: _, h => h.elim
  | _ :: _, [], h => h.elim
theorem slots_fill {K : PySem.W.Frag} {B : Hp} : ∀ {σ : L2.St} {G : List SD}, Slots K B σ G → ∀ n, Slots K B (σ ++ List.replicate n none) (G ++ List.replicate n .un)
  | [], [], _, 0 => trivial
  | [], [], _, n + 1 => ⟨trivial, slots_fill (σ := []) (G := []) trivial n⟩
  | _ :: _, _ :: _, h, n => ⟨h.1, slots_fill h.2 n⟩
  | [], _ :: _, h, _ => h.elim
  | _ :: _, [], h, _ => h.elim
section
variable {P : Program} {w : World} {K : PySem.W.Frag} {mg : Str → Option Value} {base : Heap}
theorem ok_fnX {x qual : Str} {st : Stmt} {f : Addr} {fd : FuncData} {N ps : List Str} {k : Nat} {Pre : List SD → Hp → Hp → (PyData → Hp → Prop) → Prop} (F : Fun K x qual st f fd) (S : FnScope N ps (defScope st)) (hl : ∀ gs B O R, Pre gs B O R → gs.length = ps.length)
    (hb : ∀ (cdv : Value) (A : Around) (outer : List Env) (s : Shared) (H0 : Hp) (E : XK), Room k (A.deeper (envOfC qual (defScope st) s.heap.objs.size f cdv)) →
      ∃ t, PSs (cxOf CX0 P w K mg base N qual (defScope st) f cdv A outer s H0 E).nox (defBody st) t ∧
        ∀ gs B O R σ H (Q : VK), Pre gs B O R → Sta K B O (gs ++ List.replicate (N.length - ps.length) .un) σ H → (∀ v d B' O' H', Ex B B' → R d O' → W B' O' H' → Dt K B' v d → Q v H') → t { nx := fun _ H' => Q .non H', rt := Q } σ H) :
    FnOk P w K mg base CX0 (k + 1) f fd ps (SpX K Pre) := by
  refine F.ok S (fun vs H Q E h => ?_) (fun cdv A outer s H vs Q E hr h => ?_)
  · obtain ⟨B, O, gs, R, _, h2, h3, _⟩ := h
    have := slots_len h2
    rw [List.length_map] at this
    rw [this]
    exact hl gs B O R h3
  · obtain ⟨B, O, gs, R, h1, h2, h3, k⟩ := h
    obtain ⟨t, ht, hq⟩ := hb cdv A outer s H E hr
    refine ⟨t, ht, hq gs B O R _ H Q h3 ⟨h1, ?_⟩ k⟩
    have e := slots_fill h2 (N.length - ps.length)
    have hl' : vs.length = ps.length := by
      have := slots_len h2
      rw [List.length_map] at this
      rw [this]
      exact hl gs B O R h3
    unfold L2.start
    rw [hl']
    exact e
theorem SpX_false {k : Nat} {f : Addr} {fd : FuncData} {ps : List Str} {Pre : List SD → Hp → Hp → (PyData → Hp → Prop) → Prop} (h : ∀ gs B O R, ¬ Pre gs B O R) : FnOk P w K mg base CX0 k f fd ps (SpX K Pre) :=
  ⟨fun _ _ _ _ ⟨B, O, gs, R, _, _, r, _⟩ => (h gs B O R r).elim, fun _ _ _ _ _ _ _ _ _ _ _ _ _ ⟨B, O, gs, R, _, _, r, _⟩ => (h gs B O R r).elim⟩
end
/-! ### pools and rooms -/
def PoolAt (O : Hp) (p : Addr) : Prop := ∃ a b : Int, O p = some (.lst [.int a, .int b]) ∧ 0 ≤ b ∧ b < 2147483647
def RoomAt (O : Hp) (r : Addr) : Prop := ∃ z : Int, O r = some (.lst [.int z])
structure Mv (p : Addr) (O O' : Hp) : Prop where
  pool : PoolAt O' p
  fr : ∀ a, a ≠ p → O' a = O a
theorem Mv.refl {p : Addr} {O : Hp} (h : PoolAt O p) : Mv p O O := ⟨h, fun _ _ => rfl⟩
theorem Mv.trans {p : Addr} {O O1 O2 : Hp} (a : Mv p O O1) (b : Mv p O1 O2) : Mv p O O2 := ⟨b.pool, fun x h => (b.fr x h).trans (a.fr x h)⟩
structure Mv2 (p r : Addr) (O O' : Hp) : Prop where
  pool : PoolAt O' p
  room : RoomAt O' r
  fr : ∀ a, a ≠ p → a ≠ r → O' a = O a
theorem Mv2.refl {p r : Addr} {O : Hp} (h : PoolAt O p) (h2 : RoomAt O r) : Mv2 p r O O := ⟨h, h2, fun _ _ _ => rfl⟩
theorem Mv2.trans {p r : Addr} {O O1 O2 : Hp} (a : Mv2 p r O O1) (b : Mv2 p r O1 O2) : Mv2 p r O O2 := ⟨b.pool, b.room, fun x h h' => (b.fr x h h').trans (a.fr x h h')⟩
theorem PoolAt.ne {O : Hp} {p r : Addr} (h : PoolAt O p) (h2 : RoomAt O r) : r ≠ p := by
  obtain ⟨a, b, e, _⟩ := h
  obtain ⟨z, e2⟩ := h2
  intro q
  subst q
  rw [e] at e2
  cases e2
theorem Mv.two {p r : Addr} {O O' : Hp} (a : Mv p O O') (h : PoolAt O p) (h2 : RoomAt O r) : Mv2 p r O O' := by
  refine ⟨a.pool, ?_, fun x h1 _ => a.fr x h1⟩
  obtain ⟨z, e⟩ := id h2
  exact ⟨z, by rw [a.fr r (h.ne h2)]; exact e⟩
end DL

set_option Elab.async false
set_option linter.all false
set_option maxRecDepth 100000
set_option maxHeartbeats 2000000
/-! Parts of readers as plain data. -/
namespace PT
open PySem DL
inductive Part where
  | leaf (w : Str) (fs : List PyData)
  | row (ps : List Part)
  | choice (m : PyData) (os : List (Int × Part))
  | one (w : Str) (fs : List PyData) (p : Part)
mutual
def enc : Part → PyData
  | .leaf w fs => .tuple (.str w :: fs)
  | .row ps => .tuple [.str "row", .tuple (encs ps)]
  | .choice m os => .tuple [.str "choice", m, .tuple (enco os)]
  | .one w fs p => .tuple (.str w :: (fs ++ [enc p]))
def encs : List Part → List PyData
  | [] => []
  | p :: ps => enc p :: encs ps
def enco : List (Int × Part) → List PyData
  | [] => []
  | (n, p) :: os => .tuple [.int n, enc p] :: enco os
end
theorem encs_eq : ∀ ps, encs ps = ps.map enc
  | [] => rfl
  | p :: ps => by
    show enc p :: encs ps = enc p :: ps.map enc
    rw [encs_eq ps]
theorem enco_eq : ∀ os, enco os = os.map fun o => .tuple [.int o.1, enc o.2]
  | [] => rfl
  | (n, p) :: os => by
    show _ :: enco os = _
    rw [enco_eq os]
    rfl
def isLeafW (w : Str) : Bool := w == "cell" || w == "need" || w == "pad"
def isOneW (w : Str) : Bool := w == "times" || w == "counted" || w == "within" || w == "fill" || w == "if left"
def word : Part → Str
  | .leaf w _ => w
  | .row _ => "row"
  | .choice _ _ => "choice"
  | .one w _ _ => w
def good (d : PyData) : Bool := flatD d && SeqAt.shaped d
/-- the top of a part is as it should be -/
def ok0 : Part → Prop
  | .leaf w fs => isLeafW w = true ∧ fs.length ≤ 3 ∧ fs.all good = true
  | .row ps => ps.length ≤ 6
  | .choice m os => good m = true ∧ 0 < os.length ∧ os.length ≤ 6
  | .one w fs _ => isOneW w = true ∧ fs.length ≤ 4 ∧ fs.all good = true ∧ (w = "times" → ∃ n, fs = [.int n] ∧ 0 ≤ n ∧ n ≤ 6)
def kids : Part → List Part
  | .leaf _ _ => []
  | .row ps => ps
  | .choice _ os => os.map (·.2)
  | .one _ _ p => [p]
def ok : Nat → Part → Prop
  | 0, _ => False
  | h + 1, t => ok0 t ∧ ∀ p, p ∈ kids t → ok h p
def fields : Part → List PyData
  | .leaf _ fs => fs
  | .row ps => [.tuple (ps.map enc)]
  | .choice m os => [m, .tuple (os.map fun o => .tuple [.int o.1, enc o.2])]
  | .one _ fs p => fs ++ [enc p]
theorem enc_eq (t : Part) : enc t = .tuple (.str (word t) :: fields t) := by
  cases t with
  | leaf w fs => rfl
  | row ps =>
    show PyData.tuple [.str "row", .tuple (encs ps)] = _
    rw [encs_eq]
    rfl
  | choice m os =>
    show PyData.tuple [.str "choice", m, .tuple (enco os)] = _
    rw [enco_eq]
    rfl
  | one w fs p => rfl
theorem kids_len {t : Part} (h : ok0 t) : (kids t).length ≤ 6 := by
  cases t with
  | leaf => simp [kids]
  | row ps => exact h
  | choice m os =>
    obtain ⟨_, _, h3⟩ := h
    simp [kids]
    omega
  | one => simp [kids]
theorem ok_mono : ∀ {h j : Nat} {t : Part}, h ≤ j → ok h t → ok j t
  | 0, _, _, _, o => o.elim
  | h + 1, 0, _, l, _ => absurd l (by omega)
  | h + 1, j + 1, t, l, o => ⟨o.1, fun p hp => ok_mono (by omega) (o.2 p hp)⟩
/-! sizes -/
def osum : List (Option Int) → Option Int
  | [] => some 0
  | none :: _ => none
  | some n :: r => (osum r).map (n + ·)
def encN : Option Int → PyData
  | none => .none
  | some n => .int n
def numOf : List PyData → Option Int
  | .int n :: _ => some n
  | _ => none
def sizeK (w : Str) (fs : List PyData) (ss : List (Option Int)) : Option Int :=
  if w = "cell" then some 1
  else if w = "need" then some 0
  else if w = "row" ∨ w = "choice" ∨ w = "times" then
    (if none ∈ ss then none
    else if w = "row" then some ((ss.map fun s => s.getD 0).sum)
    else if w = "times" then ((numOf fs).map fun n => n * (ss.headD (some 0)).getD 0)
    else if ∀ s ∈ ss, s = ss.headD (some 0) then some (1 + (ss.headD (some 0)).getD 0) else none)
  else none
def size : Nat → Part → Option Int
  | 0, _ => none
  | h + 1, t => sizeK (word t) (fields t) ((kids t).map (size h))
/-! parts in parts -/
def subsAt (S : Part → List (List Int × Part)) (ks : List Part) (i : Nat) : List (List Int × Part) := match ks[i]? with
  | some c => (S c).map fun q => ((i : Int) :: q.1, q.2)
  | none => []
def subsTo (S : Part → List (List Int × Part)) (t : Part) (n : Nat) : List (List Int × Part) := ([], t) :: (List.range n).flatMap (subsAt S (kids t))
def subs : Nat → Part → List (List Int × Part)
  | 0, t => [([], t)]
  | h + 1, t => subsTo (subs h) t (kids t).length
theorem subsTo_succ {S : Part → List (List Int × Part)} {t : Part} {n : Nat} {c : Part} (h : (kids t)[n]? = some c) : subsTo S t (n + 1) = subsTo S t n ++ (S c).map fun q => ((n : Int) :: q.1, q.2) := by
  unfold subsTo
  rw [List.range_succ, List.flatMap_append, ← List.cons_append]
  simp [subsAt, h]
def cntP : Nat → Nat
  | 0 => 0
  | h + 1 => 1 + 6 * cntP h
theorem subsTo_len {S : Part → List (List Int × Part)} {t : Part} {m : Nat} (hS : ∀ c, c ∈ kids t → (S c).length ≤ m) : ∀ n, (subsTo S t n).length ≤ 1 + n * m
  | 0 => by simp [subsTo]
  | n + 1 => by
    have ih := subsTo_len hS n
    cases hc : (kids t)[n]? with
    | none =>
      have : subsTo S t (n + 1) = subsTo S t n := by
        unfold subsTo
        rw [List.range_succ, List.flatMap_append]
        simp [subsAt, hc]
      rw [this, Nat.succ_mul]
      omega
    | some c =>
      rw [subsTo_succ hc, List.length_append, List.length_map, Nat.succ_mul]
      have := hS c (List.mem_of_getElem? hc)
      omega
theorem subs_len : ∀ {h : Nat} {t : Part}, ok h t → (subs h t).length ≤ cntP h
  | 0, _, o => o.elim
  | h + 1, t, o => by
    have h1 := subsTo_len (S := subs h) (t := t) (m := cntP h) (fun c hc => subs_len (o.2 c hc)) (kids t).length
    have h2 := kids_len o.1
    have h3 : (kids t).length * cntP h ≤ 6 * cntP h := Nat.mul_le_mul_right _ h2
    show (subsTo (subs h) t (kids t).length).length ≤ 1 + 6 * cntP h
    omega
theorem cnt_le : ∀ {h : Nat}, h ≤ 7 → cntP h ≤ 55987
  | 0, _ => by decide
  | 1, _ => by decide
  | 2, _ => by decide
  | 3, _ => by decide
  | 4, _ => by decide
  | 5, _ => by decide
  | 6, _ => by decide
  | 7, _ => by decide
  | h + 8, l => absurd l (by omega)
theorem cnt_mono {h : Nat} (l : h + 1 ≤ 7) {n : Nat} (hn : n ≤ 6) : 1 + n * cntP h ≤ 55987 := by
  have h1 := cnt_le l
  have h2 : n * cntP h ≤ 6 * cntP h := Nat.mul_le_mul_right _ hn
  have h3 : cntP (h + 1) = 1 + 6 * cntP h := rfl
  omega
def getP : Part → List Int → Option Part
  | t, [] => some t
  | t, i :: p => if 0 ≤ i then (kids t)[i.toNat]?.bind (getP · p) else none
theorem subs_get : ∀ {h : Nat} {t : Part} {p : List Int} {c : Part}, (p, c) ∈ subs h t → getP t p = some c
  | 0, t, p, c, m => by
    simp [subs] at m
    obtain ⟨rfl, rfl⟩ := m
    rfl
  | h + 1, t, p, c, m => by
    have m' : (p, c) ∈ subsTo (subs h) t (kids t).length := m
    unfold subsTo at m'
    rw [List.mem_cons, List.mem_flatMap] at m'
    rcases m' with m' | ⟨i, _, m'⟩
    · cases m'
      rfl
    · unfold subsAt at m'
      cases hk : (kids t)[i]? with
      | none => rw [hk] at m'; cases m'
      | some k =>
        rw [hk] at m'
        obtain ⟨q, hq, e⟩ := List.mem_map.mp m'
        cases e
        have := subs_get hq
        show (if 0 ≤ (i : Int) then _ else _) = _
        rw [if_pos (by omega), Int.toNat_natCast, hk]
        exact this
theorem ok_get : ∀ {p : List Int} {h : Nat} {t c : Part}, ok h t → getP t p = some c → ok h c
  | [], h, t, c, o, e => by cases e; exact o
  | i :: p, 0, t, c, o, e => o.elim
  | i :: p, h + 1, t, c, o, e => by
    have e' : (if 0 ≤ i then (kids t)[i.toNat]?.bind (getP · p) else none) = some c := e
    split at e'
    · cases hk : (kids t)[i.toNat]? with
      | none => rw [hk] at e'; cases e'
      | some k =>
        rw [hk] at e'
        exact ok_mono (Nat.le_succ h) (ok_get (o.2 k (List.mem_of_getElem? hk)) e')
    · cases e'
theorem subs_path : ∀ {h : Nat} {t : Part} {p : List Int} {c : Part}, (p, c) ∈ subs h t → p.length ≤ h
  | 0, t, p, c, m => by
    simp [subs] at m
    simp [m.1]
  | h + 1, t, p, c, m => by
    have m' : (p, c) ∈ subsTo (subs h) t (kids t).length := m
    unfold subsTo at m'
    rw [List.mem_cons, List.mem_flatMap] at m'
    rcases m' with m' | ⟨i, _, m'⟩
    · cases m'
      simp
    · unfold subsAt at m'
      cases hk : (kids t)[i]? with
      | none => rw [hk] at m'; cases m'
      | some k =>
        rw [hk] at m'
        obtain ⟨q, hq, e⟩ := List.mem_map.mp m'
        cases e
        have := subs_path hq
        simp
        omega
/-- the parts in their places -/
def withK : Part → List Part → Part
  | .leaf w fs, _ => .leaf w fs
  | .row _, ks => .row ks
  | .choice m os, ks => .choice m ((os.zip ks).map fun z => (z.1.1, z.2))
  | .one w fs p, ks => .one w fs (ks.headD p)
def repP : Part → List Int → Part → Option Part
  | _, [], o => some o
  | t, i :: p, o => if 0 ≤ i then (kids t)[i.toNat]?.bind fun c => (repP c p o).map fun c' => withK t ((kids t).set i.toNat c') else none
theorem rep_get : ∀ {p : List Int} {t c : Part} (o : Part), getP t p = some c → ∃ d, repP t p o = some d
  | [], t, c, o, e => ⟨o, rfl⟩
  | i :: p, t, c, o, e => by
    have e' : (if 0 ≤ i then (kids t)[i.toNat]?.bind (getP · p) else none) = some c := e
    split at e'
    · rename_i hi
      cases hk : (kids t)[i.toNat]? with
      | none => rw [hk] at e'; cases e'
      | some k =>
        rw [hk] at e'
        obtain ⟨d, hd⟩ := rep_get (t := k) o e'
        refine ⟨withK t ((kids t).set i.toNat d), ?_⟩
        show (if 0 ≤ i then _ else _) = _
        rw [if_pos hi, hk]
        show (repP k p o).map _ = _
        rw [hd]
        rfl
    · cases e'
theorem withK_same (t : Part) : withK t (kids t) = t := by
  cases t with
  | leaf => rfl
  | row => rfl
  | choice m os =>
    have h : ∀ xs : List (Int × Part), ((xs.zip (xs.map (·.2))).map fun z => (z.1.1, z.2)) = xs := fun xs => by
      induction xs with
      | nil => rfl
      | cons o r ih =>
        show (o.1, o.2) :: ((r.zip (r.map (·.2))).map fun z => (z.1.1, z.2)) = _
        rw [ih]
    show Part.choice m _ = _
    exact congrArg _ (h os)
  | one => rfl
theorem set_same {α : Type} : ∀ {xs : List α} {i : Nat} {x : α}, xs[i]? = some x → xs.set i x = xs
  | [], _, _, _ => rfl
  | y :: ys, 0, x, h => by simp at h; subst h; rfl
  | y :: ys, i + 1, x, h => by simp at h; simp [set_same h]
theorem rep_same : ∀ {p : List Int} {t c : Part}, getP t p = some c → repP t p c = some t
  | [], t, c, e => by cases e; rfl
  | i :: p, t, c, e => by
    have e' : (if 0 ≤ i then (kids t)[i.toNat]?.bind (getP · p) else none) = some c := e
    split at e'
    · rename_i hi
      cases hk : (kids t)[i.toNat]? with
      | none => rw [hk] at e'; cases e'
      | some k =>
        rw [hk] at e'
        have := rep_same (t := k) e'
        show (if 0 ≤ i then _ else _) = _
        rw [if_pos hi, hk]
        show (repP k p c).map _ = _
        rw [this]
        show some (withK t _) = _
        rw [set_same hk, withK_same]
    · cases e'
def encP (p : List Int) : PyData := .tuple (p.map .int)
def encQ (q : List Int × Part) : PyData := .tuple [encP q.1, enc q.2]
theorem row_of {t : Part} (ho : ok0 t) (h : (word t == "row") = true) : ∃ ps, t = .row ps := by
  cases t with
  | row ps => exact ⟨ps, rfl⟩
  | leaf x fs =>
    have e : x = "row" := eq_of_beq h
    subst e
    exact absurd ho.1 (by decide)
  | choice m os => exact absurd (show (("choice" : Str) == "row") = true from h) (by decide)
  | one x fs p =>
    have e : x = "row" := eq_of_beq h
    subst e
    exact absurd ho.1 (by decide)
theorem choice_of {t : Part} (ho : ok0 t) (h : (word t == "choice") = true) : ∃ m os, t = .choice m os := by
  cases t with
  | choice m os => exact ⟨m, os, rfl⟩
  | leaf x fs =>
    have e : x = "choice" := eq_of_beq h
    subst e
    exact absurd ho.1 (by decide)
  | row ps => exact absurd (show (("row" : Str) == "choice") = true from h) (by decide)
  | one x fs p =>
    have e : x = "choice" := eq_of_beq h
    subst e
    exact absurd ho.1 (by decide)
theorem one_of {t : Part} (ho : ok0 t) (h1 : (word t == "row") = false) (h2 : (word t == "choice") = false) (h : isLeafW (word t) = false) : ∃ w fs p, t = .one w fs p := by
  cases t with
  | choice m os => exact absurd h2 (by show ¬ (("choice" : Str) == "choice") = false; decide)
  | leaf x fs =>
    have h' : isLeafW x = false := h
    rw [ho.1] at h'
    cases h'
  | row ps => exact absurd h1 (by show ¬ (("row" : Str) == "row") = false; decide)
  | one x fs p => exact ⟨x, fs, p, rfl⟩
theorem leaf_of {t : Part} (ho : ok0 t) (h1 : (word t == "row") = false) (h2 : (word t == "choice") = false) (h : isOneW (word t) = false) : ∃ w fs, t = .leaf w fs := by
  cases t with
  | choice m os => exact absurd h2 (by show ¬ (("choice" : Str) == "choice") = false; decide)
  | one x fs p =>
    have h' : isOneW x = false := h
    rw [ho.1] at h'
    cases h'
  | row ps => exact absurd h1 (by show ¬ (("row" : Str) == "row") = false; decide)
  | leaf x fs => exact ⟨x, fs, rfl⟩
theorem leafW_one {w : Str} (h : isLeafW w = true) : isOneW w = false := by
  unfold isLeafW at h
  simp only [Bool.or_eq_true] at h
  rcases h with (h | h) | h <;> (have e := eq_of_beq h; subst e; decide)
theorem oneW_leaf {w : Str} (h : isOneW w = true) : isLeafW w = false := by
  cases e : isLeafW w with
  | false => rfl
  | true => rw [leafW_one e] at h; cases h
end PT

set_option Elab.async false
set_option linter.all false
set_option maxRecDepth 100000
set_option maxHeartbeats 2000000
/-! More of the same: walks that are reckoned with changes, owned lists compared. -/
namespace DL
open PySem PySem.Spec PyProof.Rows L2 StX
def EvIX (K : PySem.W.Frag) (B O : Hp) (G : List SD) (wi : TI) (T : List PyData → Hp → Prop) : Prop := ∀ B1 σ H, Ex B B1 → Sta K B1 O G σ H → ∀ R : It → Hp → Prop, (∀ J es B' O' H', Ex B1 B' → T es O' → W B' O' H' → Gives K J es B' → R J H') → wi σ H R
section
variable {K : PySem.W.Frag} {B O : Hp} {G : List SD} {te ta tb th : TE} {t : TA} {d : PyData} {ds : List PyData} {σ : L2.St} {H : Hp} {D : Ends} {tz tu : TS} {i : Nat}
theorem eix_list {T : List PyData → Hp → Prop} (h : EvX K B O G te (fun d O' => ∃ es, d = .list es ∧ T es O')) : EvIX K B O G (iList K te) T := fun B1 σ H e1 s R r => h B1 σ H e1 s _ fun v d B2 O2 H2 e2 ⟨es, ed, hT⟩ w2 d2 => by
  subst ed
  obtain ⟨a, xs, rfl, k1, k2⟩ := dp_lst d2
  refine ⟨a, rfl, ⟨xs, .inl (.inl (w2.b _ _ k1))⟩, r _ es B2 O2 H2 e2 hT w2 ⟨xs.length, _, _, dps_len k2, walk_list (xs := xs), fun B3 O3 H3 e3 w3 => .inl (.inl (w3.b _ _ (e3 _ _ k1))), fun i H3 x H4 B3 O3 e3 w3 hi y => ?_⟩⟩
  obtain ⟨rfl, hx⟩ := y
  obtain ⟨e, he, hd⟩ := dps_getV k2 hx
  exact ⟨e, B3, he, Ex.refl _, w3, dp_ex e3 _ _ hd⟩
theorem eix_range {T : List PyData → Hp → Prop} (h : EvXs K B O G t (fun ds O' => ∃ j : Int, ds = [.int j] ∧ (-1000000 ≤ j ∧ j ≤ 1000000) ∧ T (rangeD 0 j.toNat) O')) : EvIX K B O G (iRng1 t) T := fun B1 σ H e1 s R r => h B1 σ H e1 s _ fun vs ds B2 O2 H2 e2 ⟨j, ed, hj, hT⟩ w2 d2 => by
  subst ed
  have e := dps_ints (ns := [j]) d2
  refine ⟨j, e, by omega, by omega, r _ _ B2 O2 H2 e2 hT w2 ⟨j.toNat, _, _, rangeD_len.symm, walk_range, fun _ _ _ _ _ => trivial, fun i H3 x H4 B3 O3 e3 w3 hi y => ?_⟩⟩
  obtain ⟨rfl, rfl⟩ := y
  exact ⟨_, B3, rangeD_get hi, Ex.refl _, w3, .int _⟩
theorem sx_for {wi : TI} {g : TG} {T : List PyData → Hp → Prop} (s : Sta K B O G σ H) (hI : EvIX K B O G wi T) (P : List PyData → Nat → Hp → Hp → List SD → Prop) (mono : ∀ es i B1 B2 O1 G1, Ex B1 B2 → P es i B1 O1 G1 → P es i B2 O1 G1)
    (h0 : ∀ es O' B', Ex B B' → T es O' → P es 0 B' O' G)
    (hs : ∀ es i e B1 O1 G1 σ1 H1 v, es[i]? = some e → Ex B B1 → P es i B1 O1 G1 → Sta K B1 O1 G1 σ1 H1 → Dt K B1 v e → ∀ N : L2.St → Hp → Prop, (∀ B' O' G' σ' H', Ex B1 B' → P es (i + 1) B' O' G' → Sta K B' O' G' σ' H' → N σ' H') → g v σ1 H1 fun σ2 H2 => tu { D with nx := N, ct := N, bk := D.nx } σ2 H2)
    (hd : ∀ es B1 O1 G1 σ1 H1, Ex B B1 → P es es.length B1 O1 G1 → Sta K B1 O1 G1 σ1 H1 → D.nx σ1 H1) : tFor wi g tu D σ H := by
  refine hI B σ H (Ex.refl _) s _ fun J es B2 O2 H2 e2 hT w2 gv => ?_
  obtain ⟨n, G0, Y, hn, wk, hG0, hY⟩ := gv
  refine for_it wk (fun i σ' H' => ∃ B' O' G', Ex B2 B' ∧ P es i B' O' G' ∧ Sta K B' O' G' σ' H') ⟨B2, O2, G, Ex.refl _, h0 es O2 B2 e2 hT, ⟨w2, s.s.ex e2⟩⟩ (fun i σ' H' _ ⟨B', O', G', e', p', s'⟩ => hG0 B' O' H' e' s'.w) ?_ ?_
  · rintro i x σ' H3 H4 hi ⟨B3, O3, G3, e3, p3, s3⟩ y
    obtain ⟨e, B4, hie, e4, w4, dx⟩ := hY i H3 x H4 B3 _ e3 s3.w hi y
    refine hs es i e B4 O3 G3 σ' H4 x hie ((e2.trans e3).trans e4) (mono _ _ _ _ _ _ e4 p3) ⟨w4, s3.s.ex e4⟩ dx _ fun B' O' G' σ2 H5 e5 p5 s5 => ⟨B', O', G', (e3.trans e4).trans e5, p5, s5⟩
  · rintro σ' H3 ⟨B3, O3, G3, e3, p3, s3⟩
    exact hd es B3 O3 G3 σ' H3 (e2.trans e3) (by rw [← hn]; exact p3) s3
theorem qx_for {wi : TI} {g : TG} {T : List PyData → Hp → Prop} (s : Sta K B O G σ H) (hI : EvIX K B O G wi T) (P : List PyData → Nat → Hp → Hp → List SD → Prop) (mono : ∀ es i B1 B2 O1 G1, Ex B1 B2 → P es i B1 O1 G1 → P es i B2 O1 G1)
    (h0 : ∀ es O' B', Ex B B' → T es O' → P es 0 B' O' G)
    (hs : ∀ es i e B1 O1 G1 σ1 H1 v, es[i]? = some e → Ex B B1 → P es i B1 O1 G1 → Sta K B1 O1 G1 σ1 H1 → Dt K B1 v e → ∀ N : L2.St → Hp → Prop, (∀ B' O' G' σ' H', Ex B1 B' → P es (i + 1) B' O' G' → Sta K B' O' G' σ' H' → N σ' H') → g v σ1 H1 fun σ2 H2 => tu { D with nx := N, ct := N, bk := tz D } σ2 H2)
    (hd : ∀ es B1 O1 G1 σ1 H1, Ex B B1 → P es es.length B1 O1 G1 → Sta K B1 O1 G1 σ1 H1 → tz D σ1 H1) : tSeq (tFor wi g tu) tz D σ H := sx_for (D := { D with nx := tz D }) s hI P mono h0 hs hd
theorem ex_slL {P : Int → Hp → Prop} (h : EvD K B O G te (.list ds)) (h2 : EvX K B O G th (fun d O' => ∃ r : Int, d = .int r ∧ P r O')) : EvX K B O G (tSl (rSlL K) te tNoPart (tPart th)) (fun d O' => ∃ r : Int, d = .list (cutX ds none (some r)) ∧ P r O') := fun B1 σ H e1 s Q q =>
  h B1 O σ H e1 (Ex.refl _) s _ fun v B2 H2 e2 w2 d2 => h2 B2 σ H2 (e1.trans e2) (s.ex e2 w2) _ fun u d B4 O4 H4 e4 ⟨r, ed, hr⟩ w4 du => by
    subst ed
    obtain ⟨a, xs, rfl, k1, k2⟩ := dp_lst d2
    have k1' := e4 _ _ k1
    have k2' := dps_ex e4 _ _ k2
    exact ⟨r, dp_int du, a, xs, rfl, .inl (.inl (w4.b _ _ k1')), fun p hp => q _ _ (upd B4 p _) O4 _ ((e2.trans e4).trans (Ex.new (w4.fb hp))) ⟨r, rfl, hr⟩ (w4.newB hp) (.lst upd_same (dps_ex (Ex.new (w4.fb hp)) _ _ (cut_dps k2')))⟩
/-- an owned list compared -/
theorem ev_eqO {l : Addr} {vs : List V} {e : PyData} {b : Bool} (hg : G[i]? = some (.val (.ref l))) (ho : O l = some (.lst vs)) (hv : DtAll K B vs ds) (hb : EvD K B O G tb e) (s1 : SeqAt.shaped (.list ds) = true) (s2 : SeqAt.shaped e = true) (h : PyData.eqv (.list ds) e = b) : EvD K B O G (tOp (rEqD K) (tVar i) tb) (.bool b) := fun B1 O1 σ H e1 o s Q q => by
  obtain ⟨sv, h1, h2⟩ := s.s.get hg
  have h3 : sv = some (.ref l) := h2
  subst h3
  refine ⟨_, h1, ?_⟩
  refine hb B1 O1 σ H e1 o s _ fun v B2 H2 e2 w2 d2 => ?_
  have hl : H2 l = some (.lst vs) := w2.o _ _ (o _ _ ho)
  refine ⟨.list ds, e, .lst (.inl (.inl hl)) (dt_dps _ _ (SeqAt.canLay_of_shaped s1) (dps_ex ((e1.trans e2).trans w2.b) _ _ hv)), dt_dp _ _ (SeqAt.canLay_of_shaped s2) (dp_ex w2.b _ _ d2), s1, s2, ?_⟩
  rw [h]
  exact q _ B2 H2 e2 w2 (.bl _)
theorem ev_neO {l : Addr} {vs : List V} {e : PyData} {b : Bool} (hg : G[i]? = some (.val (.ref l))) (ho : O l = some (.lst vs)) (hv : DtAll K B vs ds) (hb : EvD K B O G tb e) (s1 : SeqAt.shaped (.list ds) = true) (s2 : SeqAt.shaped e = true) (h : (!PyData.eqv (.list ds) e) = b) : EvD K B O G (tOp (rNeD K) (tVar i) tb) (.bool b) := fun B1 O1 σ H e1 o s Q q => by
  obtain ⟨sv, h1, h2⟩ := s.s.get hg
  have h3 : sv = some (.ref l) := h2
  subst h3
  refine ⟨_, h1, ?_⟩
  refine hb B1 O1 σ H e1 o s _ fun v B2 H2 e2 w2 d2 => ?_
  have hl : H2 l = some (.lst vs) := w2.o _ _ (o _ _ ho)
  refine ⟨.list ds, e, .lst (.inl (.inl hl)) (dt_dps _ _ (SeqAt.canLay_of_shaped s1) (dps_ex ((e1.trans e2).trans w2.b) _ _ hv)), dt_dp _ _ (SeqAt.canLay_of_shaped s2) (dp_ex w2.b _ _ d2), s1, s2, ?_⟩
  rw [h]
  exact q _ B2 H2 e2 w2 (.bl _)
end
end DL
namespace PT
open PySem DL
theorem good_int {i : Int} : good (.int i) = true := by simp [good, flatD, SeqAt.shaped, PyData.canLay0, PyData.depth]
theorem good_none : good .none = true := by simp [good, flatD, SeqAt.shaped, PyData.canLay0, PyData.depth]
theorem good_str {x : Str} (h : PyData.strOk x = true) : good (.str x) = true := by simp [good, flatD, SeqAt.shaped, PyData.canLay0, PyData.depth, h]
theorem good_parts {d : PyData} (h : good d = true) : flatD d = true ∧ d.canLay0 = true ∧ d.depth = 0 := by
  unfold good at h
  rw [Bool.and_eq_true] at h
  refine ⟨h.1, PySem.SeqAt.canLay_of_shaped h.2, ?_⟩
  cases d with
  | none => simp [PyData.depth]
  | bool => simp [PyData.depth]
  | int => simp [PyData.depth]
  | str => simp [PyData.depth]
  | list => simp [flatD] at h
  | tuple => simp [flatD] at h
  | dict => simp [flatD] at h
/-- data that can be compared, at most n deep -/
def Lay (n : Nat) (d : PyData) : Prop := d.canLay0 = true ∧ d.depth ≤ n
theorem Lay.sh {n : Nat} {d : PyData} (h : Lay n d) (hn : n ≤ 64) : SeqAt.shaped d = true := by
  unfold SeqAt.shaped
  rw [h.1, decide_eq_true (Nat.le_trans h.2 hn)]
  rfl
theorem Lay.mono {n m : Nat} {d : PyData} (h : Lay n d) (l : n ≤ m) : Lay m d := ⟨h.1, Nat.le_trans h.2 l⟩
theorem lay_all {n : Nat} : ∀ {ds : List PyData}, (∀ d, d ∈ ds → Lay n d) → PyData.canLayAll0 ds = true ∧ PyData.depthAll ds ≤ n
  | [], _ => by simp [PyData.canLayAll0, PyData.depthAll]
  | d :: ds, h => by
    obtain ⟨h1, h2⟩ := lay_all (ds := ds) fun x hx => h x (List.mem_cons_of_mem _ hx)
    obtain ⟨h3, h4⟩ := h d List.mem_cons_self
    rw [PyData.canLayAll0, h1, h3, PyData.depthAll]
    exact ⟨rfl, by omega⟩
theorem lay_tup {n : Nat} {ds : List PyData} (h : ∀ d, d ∈ ds → Lay n d) : Lay (n + 1) (.tuple ds) := by
  obtain ⟨h1, h2⟩ := lay_all h
  exact ⟨by rw [PyData.canLay0]; exact h1, by rw [PyData.depth]; omega⟩
theorem lay_lst {n : Nat} {ds : List PyData} (h : ∀ d, d ∈ ds → Lay n d) : Lay (n + 1) (.list ds) := by
  obtain ⟨h1, h2⟩ := lay_all h
  exact ⟨by rw [PyData.canLay0]; exact h1, by rw [PyData.depth]; omega⟩
theorem lay_good {n : Nat} {d : PyData} (h : good d = true) : Lay n d := by
  obtain ⟨_, h2, h3⟩ := good_parts h
  exact ⟨h2, by omega⟩
theorem lay_good' {n : Nat} {ds : List PyData} (h : ds.all good = true) {d : PyData} (hd : d ∈ ds) : Lay n d := lay_good (List.all_eq_true.mp h d hd)
theorem lay_int {n : Nat} {i : Int} : Lay n (.int i) := lay_good good_int
theorem word_ok {t : Part} (h : ok0 t) : PyData.strOk (word t) = true := by
  cases t with
  | row => exact (by decide +kernel : PyData.strOk ("row" : Str) = true)
  | choice => exact (by decide +kernel : PyData.strOk ("choice" : Str) = true)
  | leaf x fs =>
    have hx := h.1
    simp only [isLeafW, Bool.or_eq_true] at hx
    show PyData.strOk x = true
    rcases hx with (e | e) | e <;> (have e' := eq_of_beq e; subst e'; decide +kernel)
  | one x fs p =>
    have hx := h.1
    simp only [isOneW, Bool.or_eq_true] at hx
    show PyData.strOk x = true
    rcases hx with (((e | e) | e) | e) | e <;> (have e' := eq_of_beq e; subst e'; decide +kernel)
theorem lay_enc : ∀ {h : Nat} {t : Part}, ok h t → Lay (3 * h) (enc t)
  | 0, _, o => o.elim
  | h + 1, t, o => by
    have ih : ∀ p, p ∈ kids t → Lay (3 * h) (enc p) := fun p hp => lay_enc (o.2 p hp)
    have hw : ∀ n, Lay n (.str (word t)) := fun n => lay_good (good_str (word_ok o.1))
    rw [enc_eq]
    have h0 : Lay (3 * h + 2 + 1) (.tuple (.str (word t) :: fields t)) := by
      refine lay_tup fun d hd => ?_
      rw [List.mem_cons] at hd
      rcases hd with e | hd
      · subst e
        exact hw _
      · cases t with
        | leaf x fs => exact lay_good' o.1.2.2 hd
        | row ps =>
          have e : d = .tuple (ps.map enc) := by simpa [fields] using hd
          subst e
          refine (lay_tup (n := 3 * h) fun d hd => ?_).mono (by omega)
          obtain ⟨p, hp, rfl⟩ := List.mem_map.mp hd
          exact ih p hp
        | choice m os =>
          have e : d = m ∨ d = .tuple (os.map fun o => .tuple [.int o.1, enc o.2]) := by simpa [fields] using hd
          rcases e with e | e
          · subst e
            exact lay_good o.1.1
          · subst e
            refine lay_tup (n := 3 * h + 1) fun d hd => ?_
            obtain ⟨p, hp, rfl⟩ := List.mem_map.mp hd
            refine lay_tup (n := 3 * h) fun d hd => ?_
            have e : d = .int p.1 ∨ d = enc p.2 := by simpa using hd
            rcases e with e | e
            · subst e
              exact lay_int
            · subst e
              exact ih p.2 (List.mem_map.mpr ⟨p, hp, rfl⟩)
        | one x fs p =>
          have e : d ∈ fs ∨ d = enc p := by simpa [fields] using hd
          rcases e with e | e
          · exact lay_good' o.1.2.2.1 e
          · subst e
            exact (ih p (by simp [kids])).mono (by omega)
    exact h0.mono (by omega)
theorem lay_opts {h : Nat} {os : List (Int × Part)} (ho : ∀ o, o ∈ os → ok h o.2) : Lay (3 * h + 2) (.list (os.map fun o => .tuple [.int o.1, enc o.2])) := by
  refine lay_lst (n := 3 * h + 1) fun d hd => ?_
  obtain ⟨p, hp, rfl⟩ := List.mem_map.mp hd
  refine lay_tup (n := 3 * h) fun d hd => ?_
  have e : d = .int p.1 ∨ d = enc p.2 := by simpa using hd
  rcases e with e | e
  · subst e
    exact lay_int
  · subst e
    exact lay_enc (ho p hp)
theorem lay_path {p : List Int} : Lay 1 (encP p) := by
  refine lay_tup (n := 0) fun d hd => ?_
  obtain ⟨i, _, rfl⟩ := List.mem_map.mp hd
  exact lay_int
theorem lay_places {h : Nat} {t : Part} (ho : ok h t) (hh : h ≤ 7) : Lay 24 (.list ((subs h t).map encQ)) := by
  refine lay_lst (n := 23) fun d hd => ?_
  obtain ⟨q, hq, rfl⟩ := List.mem_map.mp hd
  refine lay_tup (n := 22) fun d hd => ?_
  have e : d = encP q.1 ∨ d = enc q.2 := by simpa using hd
  rcases e with e | e
  · subst e
    exact lay_path.mono (by omega)
  · subst e
    exact (lay_enc (ok_get ho (subs_get (p := q.1) (c := q.2) hq))).mono (by omega)
end PT

set_option Elab.async false
set_option linter.all false
set_option maxRecDepth 100000
set_option maxHeartbeats 2000000
/-! Operators that a class of the text defines itself: in, ==, !=, |, &, -, +, <=. -/
namespace OWN
open PySem PySem.Spec PyProof.Rows
section
variable {M : Model} {prog : Program} {w : World} {A : Around} {E : Value → Shared → Prop} {s : Shared} {K : PySem.W.Frag} {x C f L : Addr} {ox : Obj} {od : Option Obj} {h₀ : Heap} {m : Str → Option Value} {b tb : Value}
theorem ifBound_objNe {args : List Value} {Q : Option Value → Shared → Prop} (X : K.In s.heap) (I : PySem.W.InstAt s.heap x ox C od) (hs : PySem.W.findIn K (.ref C) "__ne__" = some (some (.builtin "object.__ne__")))
    (h : wpAny M A (call (.builtin "object.__ne__") (.ref x :: args)) (fun v => Q (some v)) E s) : wpAny M A (callSpecialIfBound? (.ref x) "__ne__" args) Q E s := by
  simp only [callSpecialIfBound?, bindSpecialIfBound?]
  have found := PySem.W.looks_findIn (M := M) X hs
  refine wpAny_holding (wpAny_bind (wpAny_bind (wpAny_bind (I.type.here (found.here ?_)))))
  refine wpAny_bind (wpAny_askSetting (wpAny_ite ?_))
  have fin : wpAny M A (call (.builtin "object.__ne__") ([.ref x] ++ args) >>= fun v => pure (some v)) Q E s := wpAny_bind (wpAny_mono h (fun v s' h' => wpAny_pure h') fun _ _ h' => h')
  split
  · exact wpAny_bind (wpAny_of_eq (F.cmp_object.ne.bind _) (wpAny_pure (by exact fin)))
  · exact wpAny_tryCatch (wpAny_bind (wpAny_of_eq (F.cmp_object.ne.bind _) (wpAny_pure (by exact fin))))
/-- how object.__ne__ answers by an own == that answers a bool -/
theorem entry_ne {Q : Fin → Shared → Prop} (hu : A.units < cLine) (X : K.In s.heap) (I : PySem.W.InstAt s.heap x ox C od) (hs : PySem.W.findIn K (.ref C) "__eq__" = some (some (.ref f))) (hf : PySem.W.isFn K (.ref f) = true)
    (hcall : wpAny M A (call (.ref f) [.ref x, b]) (fun v s' => ∃ k, v = .bool k ∧ Q (.done (.ret (.bool (!k)))) s') E s) : wpAny M A (Builtin.«object.__ne__» ⟨[.ref x, b], []⟩) Q E s := by
  unfold Builtin.«object.__ne__»
  repeat (first
    | with_reducible refine wpAny_cRoomFor hu ?_
    | (refine wpAny_bind (m := callSpecialIfBound? (.ref x) (Str.ofString "__eq__") [b])
        (PySem.W.ifBound_K X I hs hf (wpAny_mono hcall (fun r s' hr => by
          obtain ⟨k, rfl, hq⟩ := hr
          repeat (first | exact wpAny_truthy_bool hq | exact wpAny_pure hq | exact hq | (refine wpAny_bind (m := truthy (.bool _)) (wpAny_truthy_bool ?_)) | wp_step)) fun _ _ err => err)))
    | wp_step)
theorem call_ne {Q : Value → Shared → Prop} (hu : A.units + 1 < cLine) (X : K.In s.heap) (I : PySem.W.InstAt s.heap x ox C od) (hm : PySem.W.mroIn K C (.type "object") = some true) (hs : PySem.W.findIn K (.ref C) "__eq__" = some (some (.ref f))) (hf : PySem.W.isFn K (.ref f) = true)
    (hcall : wpAny (model prog w) A.in1 (call (.ref f) [.ref x, b]) (fun v s' => ∃ k, v = .bool k ∧ Q (.bool (!k)) s') E s) :
    wpAny (model prog w) A (call (.builtin "object.__ne__") [.ref x, b]) Q E s :=
  wpAny_call (codeAny_call_builtin F.cmp_object.ne.plain F.cmpEntry_ne (PySem.W.check_slot F.cmpKind_ne F.cmpSplit_ne (I.type.andThen (PySem.W.looks_mroIn X hm)) (F.cmpArgs_ne _ _) (entry_ne (A := A.in1) hu X I hs hf hcall)))
theorem cmp_ne {Q : Value → Shared → Prop} (hu : A.units + 1 < cLine) (X : K.In s.heap) (I : PySem.W.InstAt s.heap x ox C od) (hb : PySem.W.Looks (model prog w) s.heap (typeOf b) tb) (hn : PySem.W.notFirst K C tb = true) (hm : PySem.W.mroIn K C (.type "object") = some true)
    (hne : PySem.W.findIn K (.ref C) "__ne__" = some (some (.builtin "object.__ne__"))) (hs : PySem.W.findIn K (.ref C) "__eq__" = some (some (.ref f))) (hf : PySem.W.isFn K (.ref f) = true)
    (hcall : wpAny (model prog w) A.in1 (call (.ref f) [.ref x, b]) (fun v s' => ∃ k, v = .bool k ∧ Q (.bool (!k)) s') E s) : wpAny (model prog w) A (richCompare .NotEq (.ref x) b) Q E s := by
  have one : wpAny (model prog w) A (tryCompare (.ref x) "__ne__" b) (fun r s' => ∃ v, r = some v ∧ Q v s') E s := by
    unfold tryCompare
    refine wpAny_bind (ifBound_objNe X I hne (call_ne hu X I hm hs hf (wpAny_mono hcall (fun v s' hv => ?_) fun _ _ e => e)))
    obtain ⟨k, rfl, hq⟩ := hv
    exact ⟨k, rfl, wpAny_pure ⟨_, rfl, hq⟩⟩
  unfold richCompare
  simp only [oneThing_ref]
  refine wpAny_holding (wpAny_bind (wpAny_cRoomFor (Nat.lt_of_succ_lt hu) ?_))
  refine wpAny_bind (I.type.here (wpAny_bind (hb.here ?_)))
  split
  · rename_i q
    have e : PySem.W.subIn K tb (.ref C) = some false := by
      rcases Bool.or_eq_true_iff.mp hn with e | e
      · rw [beq_iff_eq.mp e] at q; simp at q
      · exact beq_iff_eq.mp e
    refine wpAny_bind ((PySem.W.looks_subIn X e).here ?_)
    simp only [Bool.false_eq_true, if_false]
    refine wpAny_bind (wpAny_mono one (fun r s2 got => ?_) fun _ _ err => err)
    obtain ⟨v, rfl, hq⟩ := got
    exact wpAny_pure hq
  · refine wpAny_bind (wpAny_pure ?_)
    simp only [Bool.false_eq_true, if_false]
    refine wpAny_bind (wpAny_mono one (fun r s2 got => ?_) fun _ _ err => err)
    obtain ⟨v, rfl, hq⟩ := got
    exact wpAny_pure hq
end
end OWN
namespace L2
open PySem PySem.Spec PyProof.Rows
section
variable {X : Cx} {CX : CXT} {n : Nat} {C f : Addr} {fd : FuncData} {ps : List Str} {sp : Sp} {E : XK} {H : Hp} {s : Shared} {σ : St} {pins : List (Addr × Obj)}
/-- a def runs inside an operator -/
theorem run_own {A : Around} {Q : VK} {us : List Value} {vs : List V} (F : FnOk X.prog X.w X.K X.mg X.base CX n f fd ps sp) (hb : Binds X.K fd ps []) (hx : Passes CX X E) (hr : Room n A) (hf : A.frames = X.A.frames) (I : Inv X pins σ H s) (r : Vals vs us) (h : sp vs H Q E) :
    wpAny (model X.prog X.w) A (call (.ref f) us) (EP X pins σ Q) X.xe s := by
  have here : Env0 X.prog X.w X.K X.mg X.base A X.stack s H := { I.env0 with frames := by rw [hf]; exact I.env0.frames }
  have hl := F.len _ _ _ _ h
  refine wpAny_call (codeAny_mono (F.run A X.stack s H ⟨us, []⟩ us vs _ E hr here (by
    have := hb s us I.kIn (by rw [List.length_append, ← r.length]; simpa using hl)
    simpa using this) r h) fun r s' hq => ?_)
  cases r with
  | error e => exact hx pins σ H s e s' I hq
  | ok fl =>
    cases fl with
    | ret w => exact I.after hq
    | next => exact False.elim hq
    | brk => exact False.elim hq
    | cont => exact False.elim hq
/-- an instance of the heap, as the rules of operators want it -/
theorem at_ins {P : Program} {w : World} {h : Heap} {H : Hp} {a dx C : Addr} {fs : List (Str × V)} (hok : HOk P w H h) (e : H a = some (.ins C dx fs)) : ∃ ox od, PySem.W.InstAt h a ox C od :=
  (ins_get hok e).elim fun _ m => m.1.look.elim fun od j => ⟨_, od, j.1⟩
/-- x in y, y an instance of the class at C -/
def rInOwn (C : Addr) (sp : Sp) (E : XK) : R2 := fun x y H Q => ∃ a dx fs, y = .ref a ∧ H a = some (.ins C dx fs) ∧ sp [y, x] H (fun z H' => ∃ k, z = .bl k ∧ Q (.bl k) H') E
theorem op_inOwn (F : FnOk X.prog X.w X.K X.mg X.base CX n f fd ps sp) (hb : Binds X.K fd ps []) (hx : Passes CX X E) (hr : Room n X.A) (hs : PySem.W.findIn X.K (.ref C) "__contains__" = some (some (.ref f))) (hf : PySem.W.isFn X.K (.ref f) = true) :
    OpR X (compareOp .In) (rInOwn C sp E) := by
  intro pins s σ H x y v u Q I rx ry h
  obtain ⟨a, dx, fs, rfl, ha, q⟩ := h
  cases (show u = Value.ref a from ry)
  have ⟨_, _, J⟩ := at_ins I.hok ha
  obtain ⟨m, hF⟩ := I.fr
  refine PySem.W.in_K hF I.ok.mod.kin J hs hf (wpAny_mono (run_own F hb hx hr rfl I (us := [.ref a, v]) (vs := [.ref a, x]) (.cons rfl (.cons rx .nil)) q) (fun w s' z => ?_) fun _ _ x => x)
  obtain ⟨z', H', I', rz, k, ek, qk⟩ := z
  subst ek
  cases (show w = Value.bool k from rz)
  exact wpAny_truthy_bool ⟨.bl k, H', I', rfl, qk⟩
/-- x == y (x <= y, ..), x an instance of the class at C, y of that class too or of none of the text's -/
def rCmpOwn (K : PySem.W.Frag) (C : Addr) (sp : Sp) (E : XK) : R2 := fun x y H Q => ∃ a dx fs b dy gs, x = .ref a ∧ y = .ref b ∧ H a = some (.ins C dx fs) ∧ H b = some (.ins C dy gs) ∧ sp [x, y] H Q E
theorem op_cmpOwn {op : CmpOp} (hop : ∀ a b, compareOp op a b = richCompare op a b) (hs : PySem.W.findIn X.K (.ref C) (cmpInfo op).2.1 = some (some (.ref f))) (hf : PySem.W.isFn X.K (.ref f) = true)
    (F : FnOk X.prog X.w X.K X.mg X.base CX n f fd ps sp) (hb : Binds X.K fd ps []) (hr : Room n X.A) (hx : Passes CX X E) : OpR X (compareOp op) (rCmpOwn X.K C sp E) := by
  intro pins s σ H x y v u Q I rx ry h
  obtain ⟨a, dx, fs, b, dy, gs, rfl, rfl, ha, hb', q⟩ := h
  cases (show v = Value.ref a from rx)
  cases (show u = Value.ref b from ry)
  have ⟨_, _, J⟩ := at_ins I.hok ha
  have ⟨_, _, J'⟩ := at_ins I.hok hb'
  obtain ⟨m, hF⟩ := I.fr
  rw [hop]
  refine PySem.W.cmp_K (op := op) (tb := .ref C) hr.units0 hF I.ok.mod.kin J J'.type (by simp [PySem.W.notFirst]) hs hf ?_
  refine wpAny_mono (run_own F hb hx hr rfl I (us := [.ref a, .ref b]) (vs := [.ref a, .ref b]) (.cons rfl (.cons rfl .nil)) q) (fun w s' z => ?_) fun _ _ x => x
  obtain ⟨z', H', I', rz, qz⟩ := z
  exact SlX.cmpback rz ⟨z', H', I', rz, qz⟩
/-- x != y by the own == -/
def rNeOwn (C : Addr) (sp : Sp) (E : XK) : R2 := fun x y H Q => ∃ a dx fs b dy gs, x = .ref a ∧ y = .ref b ∧ H a = some (.ins C dx fs) ∧ H b = some (.ins C dy gs) ∧ sp [x, y] H (fun z H' => ∃ k, z = .bl k ∧ Q (.bl (!k)) H') E
theorem op_neOwn (hm : PySem.W.mroIn X.K C (.type "object") = some true) (hne : PySem.W.findIn X.K (.ref C) "__ne__" = some (some (.builtin "object.__ne__"))) (hs : PySem.W.findIn X.K (.ref C) "__eq__" = some (some (.ref f))) (hf : PySem.W.isFn X.K (.ref f) = true)
    (F : FnOk X.prog X.w X.K X.mg X.base CX n f fd ps sp) (hb : Binds X.K fd ps []) (hr : Room (n + 1) X.A) (hx : Passes CX X E) : OpR X (compareOp .NotEq) (rNeOwn C sp E) := by
  intro pins s σ H x y v u Q I rx ry h
  obtain ⟨a, dx, fs, b, dy, gs, rfl, rfl, ha, hb', q⟩ := h
  cases (show v = Value.ref a from rx)
  cases (show u = Value.ref b from ry)
  have ⟨_, _, J⟩ := at_ins I.hok ha
  have ⟨_, _, J'⟩ := at_ins I.hok hb'
  show wpAny (model X.prog X.w) X.A (richCompare .NotEq (.ref a) (.ref b)) _ _ _
  refine OWN.cmp_ne (tb := .ref C) (hr.in1.units0) I.kIn J J'.type (by simp [PySem.W.notFirst]) hm hne hs hf ?_
  refine wpAny_mono (run_own (A := X.A.in1) F hb hx hr.in1 rfl I (us := [.ref a, .ref b]) (vs := [.ref a, .ref b]) (.cons rfl (.cons rfl .nil)) q) (fun w s' z => ?_) fun _ _ x => x
  obtain ⟨z', H', I', rz, k, ek, qk⟩ := z
  subst ek
  cases (show w = Value.bool k from rz)
  exact ⟨k, rfl, .bl (!k), H', I', rfl, qk⟩
/-- x | y, x & y, .., x an instance of the class at C -/
def rBinOwn (C : Addr) (sp : Sp) (E : XK) : R2 := fun x y H Q => ∃ a dx fs b dy gs, x = .ref a ∧ y = .ref b ∧ H a = some (.ins C dx fs) ∧ H b = some (.ins C dy gs) ∧ sp [x, y] H Q E
theorem op_binOwn {op : Operator} (hc : PySem.W.selfFirst X.K C = true) (hs : PySem.W.findIn X.K (.ref C) (PySem.dunder op.info.2) = some (some (.ref f))) (hf : PySem.W.isFn X.K (.ref f) = true)
    (F : FnOk X.prog X.w X.K X.mg X.base CX n f fd ps sp) (hb : Binds X.K fd ps []) (hr : Room n X.A) (hx : Passes CX X E) : OpR X (binaryOp op) (rBinOwn C sp E) := by
  intro pins s σ H x y v u Q I rx ry h
  obtain ⟨a, dx, fs, b, dy, gs, rfl, rfl, ha, hb', q⟩ := h
  cases (show v = Value.ref a from rx)
  cases (show u = Value.ref b from ry)
  have ⟨_, _, J⟩ := at_ins I.hok ha
  have ⟨_, _, J'⟩ := at_ins I.hok hb'
  obtain ⟨m, hF⟩ := I.fr
  refine PySem.W.binop_K hF I.ok.mod.kin J J'.type hc hs hf ?_
  refine wpAny_mono (run_own F hb hx hr rfl I (us := [.ref a, .ref b]) (vs := [.ref a, .ref b]) (.cons rfl (.cons rfl .nil)) q) (fun w s' z => ?_) fun _ _ x => x
  obtain ⟨z', H', I', rz, qz⟩ := z
  exact SlX.cmpback rz ⟨z', H', I', rz, qz⟩
end
end L2

set_option Elab.async false
set_option linter.all false
set_option maxRecDepth 100000
set_option maxHeartbeats 2000000
/-! isinstance on data. -/
namespace DL
open PySem PySem.Spec PyProof.Rows L2 StX
def tyN : PyData → String
  | .none => "NoneType"
  | .bool _ => "bool"
  | .int _ => "int"
  | .str _ => "str"
  | .list _ => "list"
  | .tuple _ => "tuple"
  | .dict _ => "dict"
theorem ty_of {K : PySem.W.Frag} {B H : Hp} {v : V} {d : PyData} (e : Ex B H) (h : Dt K B v d) : TyX K H v (.type (tyN d)) := by
  cases h with
  | non => exact .base .non
  | bl b => exact .base (.bl b)
  | int i => exact .base (.int i)
  | str x => exact .base (.str x)
  | lst h1 h2 => exact .base (.lst (e _ _ h1))
  | tup h1 h2 =>
    rcases h1 with (h1 | ⟨o, h1⟩) | ⟨o, its, n, h1, h3, _⟩
    · exact .base (.tup (e _ _ h1))
    · exact .fTuple (e _ _ h1)
    · exact .kTuple h1 h3
  | dct h => exact .base (.dK (e _ _ h))
def isIntD : PyData → Bool
  | .int _ => true
  | .bool _ => true
  | _ => false
def isBoolD : PyData → Bool
  | .bool _ => true
  | _ => false
def isListD : PyData → Bool
  | .list _ => true
  | _ => false
def isTupD : PyData → Bool
  | .tuple _ => true
  | _ => false
theorem kit_int : ∀ (d : PyData), kitB (tyN d) "int" = some (isIntD d)
  | .none => (by decide +kernel : kitB "NoneType" "int" = some false)
  | .bool _ => (by decide +kernel : kitB "bool" "int" = some true)
  | .int _ => (by decide +kernel : kitB "int" "int" = some true)
  | .str _ => (by decide +kernel : kitB "str" "int" = some false)
  | .list _ => (by decide +kernel : kitB "list" "int" = some false)
  | .tuple _ => (by decide +kernel : kitB "tuple" "int" = some false)
  | .dict _ => (by decide +kernel : kitB "dict" "int" = some false)
theorem kit_bool : ∀ (d : PyData), kitB (tyN d) "bool" = some (isBoolD d)
  | .none => (by decide +kernel : kitB "NoneType" "bool" = some false)
  | .bool _ => (by decide +kernel : kitB "bool" "bool" = some true)
  | .int _ => (by decide +kernel : kitB "int" "bool" = some false)
  | .str _ => (by decide +kernel : kitB "str" "bool" = some false)
  | .list _ => (by decide +kernel : kitB "list" "bool" = some false)
  | .tuple _ => (by decide +kernel : kitB "tuple" "bool" = some false)
  | .dict _ => (by decide +kernel : kitB "dict" "bool" = some false)
theorem kit_list : ∀ (d : PyData), kitB (tyN d) "list" = some (isListD d)
  | .none => (by decide +kernel : kitB "NoneType" "list" = some false)
  | .bool _ => (by decide +kernel : kitB "bool" "list" = some false)
  | .int _ => (by decide +kernel : kitB "int" "list" = some false)
  | .str _ => (by decide +kernel : kitB "str" "list" = some false)
  | .list _ => (by decide +kernel : kitB "list" "list" = some true)
  | .tuple _ => (by decide +kernel : kitB "tuple" "list" = some false)
  | .dict _ => (by decide +kernel : kitB "dict" "list" = some false)
theorem kit_tup : ∀ (d : PyData), kitB (tyN d) "tuple" = some (isTupD d)
  | .none => (by decide +kernel : kitB "NoneType" "tuple" = some false)
  | .bool _ => (by decide +kernel : kitB "bool" "tuple" = some false)
  | .int _ => (by decide +kernel : kitB "int" "tuple" = some false)
  | .str _ => (by decide +kernel : kitB "str" "tuple" = some false)
  | .list _ => (by decide +kernel : kitB "list" "tuple" = some false)
  | .tuple _ => (by decide +kernel : kitB "tuple" "tuple" = some true)
  | .dict _ => (by decide +kernel : kitB "dict" "tuple" = some false)
section
variable {K : PySem.W.Frag} {B O : Hp} {G : List SD} {te : TE} {d : PyData}
/-- isinstance(x, T), T a built-in class -/
theorem ev_isi {n : String} {b : Bool} (h : EvD K B O G te d) (k : kitB (tyN d) n = some b) : EvD K B O G (tCB (rIsi K) (tCons te (tCons (tC (.ty n)) tNil))) (.bool b) := fun B1 O1 σ H e1 o s Q q =>
  h B1 O1 σ H e1 o s _ fun v B2 H2 e2 w2 d2 => ⟨v, .ty n, _, _, b, rfl, .ty n, ty_of w2.b d2, kit_ty k, q _ B2 H2 e2 w2 (.bl b)⟩
/-- isinstance(x, (list, tuple)) -/
theorem ev_isiT {b : Bool} (h : EvD K B O G te d) (e : (isListD d || isTupD d) = b) : EvD K B O G (tCB (rIsiT K) (tCons te (tCons (tTup (tCons (tC (.ty "list")) (tCons (tC (.ty "tuple")) tNil))) tNil))) (.bool b) := fun B1 O1 σ H e1 o s Q q =>
  h B1 O1 σ H e1 o s _ fun v B2 H2 e2 w2 d2 => ⟨by decide, fun p hp => by
    refine ⟨v, p, [.ty "list", .ty "tuple"], _, [.type "list", .type "tuple"], b, rfl, upd_same, .cons (.ty _) (.cons (.ty _) .nil), ty_of (B := upd B2 p (.tup [.ty "list", .ty "tuple"])) (w2.newB hp).b (dp_ex (Ex.new (w2.fb hp)) _ _ d2), ?_, q _ (upd B2 p (.tup [.ty "list", .ty "tuple"])) _ (e2.trans (Ex.new (w2.fb hp))) (w2.newB hp) (.bl b)⟩
    refine kitAny_cons (kit_ty (kit_list d)) (fun h1 => ?_) (fun h1 => by rw [← e, h1]; rfl)
    refine kitAny_cons (kit_ty (kit_tup d)) (fun h2 => ?_) (fun h2 => by rw [← e, h1, h2]; rfl)
    rw [← e, h1, h2]
    exact kitAny_nil⟩
end
section
variable (K : PySem.W.Frag) {X : Cx}
theorem call_isiK' (h : X.K = K := by rfl) : CallR X (.builtin "isinstance") (rIsi K) := h ▸ call_isi
theorem call_isiTK (h : X.K = K := by rfl) : CallR X (.builtin "isinstance") (rIsiT K) := h ▸ call_isiT
end
/-- whole numbers that are no bool, at least lo -/
def whole : PyData → Option Int
  | .int i => some i
  | _ => none
theorem whole_int {d : PyData} : (isIntD d && !isBoolD d) = (whole d).isSome := by cases d <;> rfl
end DL

set_option Elab.async false
set_option linter.all false
set_option maxRecDepth 100000
set_option maxHeartbeats 4000000
namespace Toy
open PySem PySem.Spec PyProof.Rows L2 StX DL

def topS (i : Nat) : Stmt := PySem.Challenge.pw_withinlimits_k50_sets_in_their_shortest.main.body.getD i (.Pass ⟨0, 0, 0, 0⟩)
abbrev s_is_integer : Stmt := topS 6
abbrev N_sc_is_integer : List Str := ["value"]
theorem sc_is_integer : FnScope N_sc_is_integer ["value"] (defScope s_is_integer) := ⟨rfl, rfl, rfl, by decide +kernel, rfl, by decide +kernel, by decide +kernel⟩
abbrev s_is_from : Stmt := topS 7
abbrev N_sc_is_from : List Str := ["value", "low", "high"]
theorem sc_is_from : FnScope N_sc_is_from ["value", "low", "high"] (defScope s_is_from) := ⟨rfl, rfl, rfl, by decide +kernel, rfl, by decide +kernel, by decide +kernel⟩
abbrev s_check_size : Stmt := topS 13
abbrev N_sc_check_size : List Str := ["number", "low", "place"]
theorem sc_check_size : FnScope N_sc_check_size ["number", "low", "place"] (defScope s_check_size) := ⟨rfl, rfl, rfl, by decide +kernel, rfl, by decide +kernel, by decide +kernel⟩
abbrev s_check_numbers : Stmt := topS 14
abbrev N_sc_check_numbers : List Str := ["numbers", "bound", "place", "low", "number"]
theorem sc_check_numbers : FnScope N_sc_check_numbers ["numbers", "bound", "place"] (defScope s_check_numbers) := ⟨rfl, rfl, rfl, by decide +kernel, rfl, by decide +kernel, by decide +kernel⟩
abbrev s_marks_for : Stmt := topS 15
abbrev N_sc_marks_for : List Str := ["numbers", "many", "known", "number"]
theorem sc_marks_for : FnScope N_sc_marks_for ["numbers", "many"] (defScope s_marks_for) := ⟨rfl, rfl, rfl, by decide +kernel, rfl, by decide +kernel, by decide +kernel⟩
abbrev s_least_period : Stmt := topS 16
abbrev N_sc_least_period : List Str := ["marks", "period"]
theorem sc_least_period : FnScope N_sc_least_period ["marks"] (defScope s_least_period) := ⟨rfl, rfl, rfl, by decide +kernel, rfl, by decide +kernel, by decide +kernel⟩
abbrev s_least_start : Stmt := topS 17
abbrev N_sc_least_start : List Str := ["marks", "cycle", "start"]
theorem sc_least_start : FnScope N_sc_least_start ["marks", "cycle"] (defScope s_least_start) := ⟨rfl, rfl, rfl, by decide +kernel, rfl, by decide +kernel, by decide +kernel⟩
abbrev s_law_pool : Stmt := topS 25
abbrev N_sc_law_pool : List Str := ["script", "k", "cell", "size", "seed"]
theorem sc_law_pool : FnScope N_sc_law_pool ["script", "k"] (defScope s_law_pool) := ⟨rfl, rfl, rfl, by decide +kernel, rfl, by decide +kernel, by decide +kernel⟩
abbrev s_law_draw : Stmt := topS 26
abbrev N_sc_law_draw : List Str := ["pool", "count", "found"]
theorem sc_law_draw : FnScope N_sc_law_draw ["pool", "count"] (defScope s_law_draw) := ⟨rfl, rfl, rfl, by decide +kernel, rfl, by decide +kernel, by decide +kernel⟩
abbrev s_law_some : Stmt := topS 27
abbrev N_sc_law_some : List Str := ["pool", "size", "found", "number"]
theorem sc_law_some : FnScope N_sc_law_some ["pool", "size"] (defScope s_law_some) := ⟨rfl, rfl, rfl, by decide +kernel, rfl, by decide +kernel, by decide +kernel⟩
abbrev s_law_fields : Stmt := topS 28
abbrev N_sc_law_fields : List Str := ["pool", "first", "early", "rhythm"]
theorem sc_law_fields : FnScope N_sc_law_fields ["pool"] (defScope s_law_fields) := ⟨rfl, rfl, rfl, by decide +kernel, rfl, by decide +kernel, by decide +kernel⟩
abbrev s_law_has : Stmt := topS 29
abbrev N_sc_law_has : List Str := ["fields", "number"]
theorem sc_law_has : FnScope N_sc_law_has ["fields", "number"] (defScope s_law_has) := ⟨rfl, rfl, rfl, by decide +kernel, rfl, by decide +kernel, by decide +kernel⟩
abbrev s_law_bent : Stmt := topS 30
abbrev N_sc_law_bent : List Str := ["pool", "fields", "turn", "place"]
theorem sc_law_bent : FnScope N_sc_law_bent ["pool", "fields"] (defScope s_law_bent) := ⟨rfl, rfl, rfl, by decide +kernel, rfl, by decide +kernel, by decide +kernel⟩
abbrev s_law_whole : Stmt := topS 31
abbrev N_sc_law_whole : List Str := ["thing", "least"]
theorem sc_law_whole : FnScope N_sc_law_whole ["thing", "least"] (defScope s_law_whole) := ⟨rfl, rfl, rfl, by decide +kernel, rfl, by decide +kernel, by decide +kernel⟩
abbrev s_law_rises : Stmt := topS 32
abbrev N_sc_law_rises : List Str := ["row", "size", "before", "number"]
theorem sc_law_rises : FnScope N_sc_law_rises ["row", "size"] (defScope s_law_rises) := ⟨rfl, rfl, rfl, by decide +kernel, rfl, by decide +kernel, by decide +kernel⟩
abbrev s_law_wrong : Stmt := topS 33
abbrev N_sc_law_wrong : List Str := ["fields", "early", "first", "rhythm", "tails"]
theorem sc_law_wrong : FnScope N_sc_law_wrong ["fields"] (defScope s_law_wrong) := ⟨rfl, rfl, rfl, by decide +kernel, rfl, by decide +kernel, by decide +kernel⟩
abbrev s_law_is_shortest : Stmt := topS 34
abbrev N_sc_law_is_shortest : List Str := ["lengths", "fields", "first", "rhythm", "told", "number", "shorter", "n"]
theorem sc_law_is_shortest : FnScope N_sc_law_is_shortest ["lengths", "fields"] (defScope s_law_is_shortest) := ⟨rfl, rfl, rfl, by decide +kernel, rfl, by decide +kernel, by decide +kernel⟩
abbrev s_law_made : Stmt := topS 35
abbrev N_sc_law_made : List Str := ["fields", "is_tuple", "early", "first", "rhythm", "tails"]
theorem sc_law_made : FnScope N_sc_law_made ["fields", "is_tuple"] (defScope s_law_made) := ⟨rfl, rfl, rfl, by decide +kernel, rfl, by decide +kernel, by decide +kernel⟩
abbrev s_law_right : Stmt := topS 36
abbrev N_sc_law_right : List Str := ["fields", "is_tuple", "lengths", "number"]
theorem sc_law_right : FnScope N_sc_law_right ["fields", "is_tuple"] (defScope s_law_right) := ⟨rfl, rfl, rfl, by decide +kernel, rfl, by decide +kernel, by decide +kernel⟩
abbrev s_law_answer : Stmt := topS 37
abbrev N_sc_law_answer : List Str := ["fields", "e"]
theorem sc_law_answer : FnScope N_sc_law_answer ["fields"] (defScope s_law_answer) := ⟨rfl, rfl, rfl, by decide +kernel, rfl, by decide +kernel, by decide +kernel⟩
abbrev s_law : Stmt := topS 38
abbrev N_sc_law : List Str := ["script", "pool", "fields", "bent"]
theorem sc_law : FnScope N_sc_law ["script"] (defScope s_law) := ⟨rfl, rfl, rfl, by decide +kernel, rfl, by decide +kernel, by decide +kernel⟩

/-- the built-ins that the text calls, and its constants -/
structure Txt (K : PySem.W.Frag) (mg : Str → Option Value) : Prop where
  b_len : mg "len" = none
  b_list : mg "list" = none
  b_tuple : mg "tuple" = none
  b_int : mg "int" = none
  b_abs : mg "abs" = none
  b_bool : mg "bool" = none
  b_range : mg "range" = none
  b_isinstance : mg "isinstance" = none
  b_ValueError : mg "ValueError" = none
  g_MOST : ∃ t, mg "MOST" = some (.int 5000 t)
/-- a def with defaults that stands at its name -/
structure AtD (K : PySem.W.Frag) (mg : Str → Option Value) (x : Str) (st : Stmt) (ps : List Str) (dvs : List V) (f : Addr) (fd : FuncData) : Prop where
  fn : FunD K x x (defArgs st) (defBody st) (defScope st) dvs [] f fd
  mg : mg x = some (.ref f)
  b0 : Binds K fd ps []
  b1 : ∃ ds, Vals dvs ds ∧ Binds K fd ps ds
section
variable {P : Program} {w : World} {K : PySem.W.Frag} {mg : Str → Option Value} {base : Heap}
/-- a def that stands at its name, its last parameters with defaults, and its promise -/
structure CalD (P : Program) (w : World) (K : PySem.W.Frag) (mg : Str → Option Value) (base : Heap) (k : Nat) (x : Str) (ps : List Str) (dvs : List V) (sp : Sp) : Prop where
  ex : ∃ f fd ds, FnOk P w K mg base CX0 k f fd ps sp ∧ mg x = some (.ref f) ∧ PySem.W.keepIn K (.ref f) = true ∧ Binds K fd ps [] ∧ Vals dvs ds ∧ Binds K fd ps ds
theorem AtD.cal {x : Str} {st : Stmt} {ps : List Str} {dvs : List V} {f : Addr} {fd : FuncData} {k : Nat} {sp : Sp} (a : AtD K mg x st ps dvs f fd) (h : FnOk P w K mg base CX0 k f fd ps sp) : CalD P w K mg base k x ps dvs sp := by
  obtain ⟨ds, h1, h2⟩ := a.b1
  exact ⟨f, fd, ds, h, a.mg, a.fn.kp, a.b0, h1, h2⟩
theorem CalD.cal {x : Str} {ps : List Str} {dvs : List V} {k : Nat} {sp : Sp} (c : CalD P w K mg base k x ps dvs sp) : Cal P w K mg base k x ps sp := by
  obtain ⟨f, fd, ds, h, m, kp, b0, _, _⟩ := c.ex
  exact ⟨f, fd, h, m, kp, b0⟩
theorem ok_fnD {x : Str} {st : Stmt} {f : Addr} {fd : FuncData} {N ps : List Str} {dvs : List V} {k : Nat} {R : List PyData → PyData → Prop} (F : FunD K x x (defArgs st) (defBody st) (defScope st) dvs [] f fd) (S : FnScope N ps (defScope st)) (hl : ∀ ds d, R ds d → ds.length = ps.length)
    (hb : ∀ (cdv : Value) (A : Around) (outer : List Env) (s : Shared) (H0 : Hp) (E : XK), Room k (A.deeper (envOfC x (defScope st) s.heap.objs.size f cdv)) → ∀ ds d, R ds d →
      ∃ t, PSs (cxOf CX0 P w K mg base N x (defScope st) f cdv A outer s H0 E).nox (defBody st) t ∧
        ∀ B O σ H (Q : VK), Sta K B O (gOf ds (N.length - ps.length)) σ H → (∀ v B' H', Ex B B' → W B' O H' → Dt K B' v d → Q v H') → t { nx := fun _ H' => Q .non H', rt := Q } σ H) :
    FnOk P w K mg base CX0 (k + 1) f fd ps (SpR K R) := by
  refine F.ok S (fun vs H Q E h => ?_) (fun cdv A outer s H vs Q E hr h => ?_)
  · obtain ⟨B, O, ds, d, _, h2, h3, _⟩ := h
    rw [dps_len h2]
    exact hl ds d h3
  · obtain ⟨B, O, ds, d, h1, h2, h3, k⟩ := h
    obtain ⟨t, ht, hq⟩ := hb cdv A outer s H E hr ds d h3
    refine ⟨t, ht.nox, hq B O _ H Q ⟨h1, ?_⟩ k⟩
    have e := slots_start h2 (N.length - ps.length)
    have hl' : vs.length = ps.length := by rw [dps_len h2]; exact hl ds d h3
    unfold L2.start
    rw [hl']
    exact e
end
theorem pe_calD {X : Cx} {x : Str} {ps : List Str} {dvs : List V} {sp : Sp} {k j : Nat} {p pos : Pos} {e : Expr} {es : List Expr} {t : TA} (C : CalD X.prog X.w X.K X.mg X.base k x ps dvs sp) (hr : Room j X.A) (hk : k ≤ j) (hg : Gl X x) (ha : PA X (e :: es) t) (hd : (x == ("__debug__" : Str)) = false := by decide)
    (he : starEach (e :: es) X.env = (false, eval e X.env) :: starEach es X.env := by rfl) (hpl : (backTo pos (starEach es X.env)).any (·.1) = false := by rfl) :
    PE X (.Call (.Name x p) (e :: es) [] pos) (tCall sp dvs E0 t) := by
  obtain ⟨f, fd, ds, h1, h2, h3, _, h4, h5⟩ := C.ex
  exact pe_call (h1.mono hk) hr hg h2 h3 h5 h4 pass0 ha hd he hpl
theorem ev_callD {K : PySem.W.Frag} {B O : Hp} {G : List SD} {R : List PyData → PyData → Prop} {ds es : List PyData} {dvs : List V} {d : PyData} {t : TA} {E : XK} (h : EvA K B O G t ds) (hv : ∀ B', DtAll K B' dvs es) (hr : R (ds ++ es) d) : EvD K B O G (tCall (SpR K R) dvs E t) d := fun B1 O1 σ H e o s Q q =>
  h B1 O1 σ H e o s _ fun vs B2 H2 e2 w2 d2 => ⟨B2, O1, ds ++ es, d, w2, dps_app d2 (hv B2), hr, fun v B3 H3 e3 w3 d3 => q v B3 H3 (e2.trans e3) w3 d3⟩
end Toy

set_option Elab.async false
set_option linter.all false
set_option maxRecDepth 100000
set_option maxHeartbeats 4000000
namespace Toy
open PySem PySem.Spec PyProof.Rows L2 StX DL
section
variable {P : Program} {w : World} {K : PySem.W.Frag} {mg : Str → Option Value} {base : Heap}


/-- an integer that is no bool -/
def isWhole (d : PyData) : Bool := isIntD d && !isBoolD d
theorem whole_cases {d : PyData} (h : isWhole d = true) : ∃ i, d = .int i := by
  cases d with
  | int i => exact ⟨i, rfl⟩
  | none => cases h
  | bool => cases h
  | str => cases h
  | list => cases h
  | tuple => cases h
  | dict => cases h
def R_isint (ds : List PyData) (d : PyData) : Prop := ∃ x, ds = [x] ∧ d = .bool (isWhole x)
theorem ok_is_integer {f : Addr} {fd : FuncData} (T : Txt K mg) (a : At K mg "is_integer" s_is_integer ["value"] f fd) : FnOk P w K mg base CX0 2 f fd ["value"] (SpR K R_isint) := by
  refine ok_fn a.fn sc_is_integer (by rintro ds d ⟨x, rfl, _⟩; rfl) fun cdv A outer s H0 E hr ds d ⟨x, e1, e2⟩ => ?_
  subst e1 e2
  refine ⟨_, (pss_one (ps_ret (pe_and (pe_callB (call_isiK' K) (by rfl) T.b_isinstance (by decide +kernel) (pa_cons (pv 0) (pa_cons (pe_bltn (v := .ty "int") (by rfl) T.b_int (by decide +kernel) rfl) pa_nil))) (pe_one (pe_not (pe_callB (call_isiK' K) (by rfl) T.b_isinstance (by decide +kernel) (pa_cons (pv 0) (pa_cons (pe_bltn (v := .ty "bool") (by rfl) T.b_bool (by decide +kernel) rfl) pa_nil)))))))), fun B O σ H Q st q => ?_⟩
  refine s_ret st (ev_andV (ev_isi (ev_var rfl) (kit_int x)) fun _ => ev_notV (ev_isi (ev_var rfl) (kit_bool x))) fun v B' H' e w d => ?_
  exact q v B' H' e w d
def encO : Option Int → PyData
  | none => .none
  | some i => .int i
def under (hi : Option Int) (i : Int) : Bool := match hi with
  | none => true
  | some h => decide (i ≤ h)
/-- from lo on, at most hi -/
def inFrom (d : PyData) (lo : Int) (hi : Option Int) : Bool := match d with
  | .int i => decide (lo ≤ i) && under hi i
  | _ => false
theorem inFrom_not {d : PyData} {lo : Int} {hi : Option Int} (h : isWhole d = false) : inFrom d lo hi = false := by
  cases d with
  | int i => cases h
  | none => rfl
  | bool => rfl
  | str => rfl
  | list => rfl
  | tuple => rfl
  | dict => rfl
def R_from (ds : List PyData) (d : PyData) : Prop := ∃ x lo hi, ds = [x, .int lo, encO hi] ∧ d = .bool (inFrom x lo hi)
theorem ok_is_from {f : Addr} {fd : FuncData} (T : Txt K mg) (C_is_integer : Cal P w K mg base 2 "is_integer" ["value"] (SpR K R_isint)) (a : AtD K mg "is_from" s_is_from ["value", "low", "high"] [.non] f fd) : FnOk P w K mg base CX0 4 f fd ["value", "low", "high"] (SpR K R_from) := by
  refine ok_fnD a.fn sc_is_from (by rintro ds d ⟨x, lo, hi, rfl, _⟩; rfl) fun cdv A outer s H0 E hr ds d ⟨x, lo, hi, e1, e2⟩ => ?_
  subst e1 e2
  refine ⟨_, (pss_one (ps_ret (pe_and (pe_cal C_is_integer hr (by omega) (by rfl) (pa_cons (pv 0) pa_nil)) (pe_and (pe_cmpR op_ge (pv 0) (pv 1) (nomark _)) (pe_one (pe_or (pe_cmpR op_isN (pv 2) pe_non (nomark _)) (pe_one (pe_cmpR op_le (pv 0) (pv 2) (nomark _))))))))), fun B O σ H Q st q => ?_⟩
  cases hw : isWhole x with
  | false =>
    rw [inFrom_not hw] at q
    refine s_ret st (ev_andV (b := true) (ev_is (ev_call (ea_cons (ev_var rfl) ea_nil) ⟨x, rfl, rfl⟩) (congrArg PyData.bool hw)) (fun z => Bool.noConfusion z)) fun v B' H' e w d => ?_
    exact q v B' H' e w d
  | true =>
    obtain ⟨i, rfl⟩ := whole_cases hw
    refine s_ret st (ev_andV (ev_is (ev_call (ea_cons (ev_var rfl) ea_nil) ⟨_, rfl, rfl⟩) (congrArg PyData.bool hw)) fun _ => ev_andV (ev_op (ev_var rfl) (ev_var rfl) rd_B0) fun h2 => ev_orV (a := hi.isNone) (ev_isNone (ev_var rfl) ev_non (by cases hi <;> rfl)) (b := under hi i) fun h3 => ?_) fun v B' H' e w d => ?_
    · cases hi with
      | none => cases h3
      | some h => exact ev_op (ev_var rfl) (ev_var rfl) rd_B0
    · refine q v B' H' e w ?_
      have e3 : inFrom (.int i) lo hi = (true && (decide (lo ≤ i) && (hi.isNone || under hi i))) := by
        cases hi <;> simp [inFrom, under]
      rw [e3]
      exact d

end
end Toy
set_option Elab.async false
set_option linter.all false
set_option maxRecDepth 100000
set_option maxHeartbeats 2000000
/-! Defs of data that may raise an own error with one field. -/
namespace DL
open PySem PySem.Spec PyProof.Rows L2 StX
/-- what __init__ of such an error does: self.f = y -/
def spInitE (C : Addr) (f : Str) : Sp := fun vs H Q _ => ∃ a y, vs = [.ref a, y] ∧ H a = some (exo a C none) ∧ ∀ dx, H dx = none → dx ≠ a → Q .non (upd (upd H dx (exd dx [(f, y)])) a (exo a C (some dx)))
theorem init_end {H1 : Hp} {a dx C : Addr} {f : Str} {y : V} (ha : H1 a = none) (hd : dx ≠ a) : upd (L2.del (upd (upd (upd H1 a (exo a C none)) dx (exd dx [(f, y)])) a (exo a C (some dx))) a) dx (.xd [(f, y)]) = upd H1 dx (.xd [(f, y)]) := by
  funext b
  by_cases h1 : b = dx
  · subst h1
    rw [upd_same, upd_same]
  · rw [upd_ne h1, upd_ne h1]
    by_cases h2 : b = a
    · subst h2
      rw [L2.del_same, ha]
    · rw [L2.del_ne h2, upd_ne h2, upd_ne h1, upd_ne h2]
section
variable {P : Program} {w : World} {K : PySem.W.Frag} {mg : Str → Option Value} {base : Heap}
theorem ok_initE {qual a f : Str} {st : Stmt} {fI C : Addr} {fd : FuncData} {p1 p2 p3 p4 : Pos} (F : Fun K "__init__" qual st fI fd) (S : FnScope ["self", a] ["self", a] (defScope st)) (hb : defBody st = [.Assign [.Attribute (.Name "self" p1) f p2] (.Name a p3) p4]) (T : OexC K C) (hno : PySem.W.findIn K (.ref C) f = some none)
    (v0 : Vis (defScope st) "self") (v1 : Vis (defScope st) a) (hsw : ∀ env, swapsWith (.Name a p3) (some (.Attribute (.Name "self" p1) f p2)) p4.line env = pure false) (ha1 : (a == ("__debug__" : Str)) = false) (ha2 : (a == ("__classdict__" : Str)) = false) :
    FnOk P w K mg base CX0 1 fI fd ["self", a] (spInitE C f) := by
  refine F.ok S (fun vs H Q E h => ?_) (fun cdv A outer s H vs Q E hr h => ?_)
  · obtain ⟨x, y, rfl, _⟩ := h
    rfl
  · obtain ⟨x, y, rfl, hx, q⟩ := h
    refine ⟨_, by rw [hb]; exact pss_one (ps_ost (pe_var (i := 0) rfl v0) (pe_var (i := 1) rfl v1 (hd := ha1) (hcd := ha2)) (hsw _)), ?_⟩
    exact ⟨y, rfl, .ref x, rfl, x, C, rfl, T, hno, .inl ⟨hx, fun dx h1 h2 => q dx h1 h2⟩⟩
end
/-- what the text says of an own error class -/
structure ErrC (P : Program) (w : World) (K : PySem.W.Frag) (mg : Str → Option Value) (base : Heap) (x : Str) (C : Addr) (f : Str) : Prop where
  g : mg x = some (.ref C)
  T : OexC K C
  no : PySem.W.findIn K (.ref C) f = some none
  X : XfC K C
  ini : ∃ fI fd ps, PySem.W.findIn K (.ref C) "__init__" = some (some (.ref fI)) ∧ PySem.W.typeIn K (.ref fI) = some (.type "function") ∧ FnOk P w K mg base CX0 1 fI fd ps (spInitE C f) ∧ Binds K fd ps []
/-- raise C(e) -/
abbrev tRaise (C : Addr) (f : Str) (W : WX) (te : TE) : TS := fun _ σ H => tMkO C (spInitE C f) [] (tCons te tNil) σ H fun cls d H' => W cls d σ H'
theorem ps_raiseE {X : Cx} {W : WX} {x f : Str} {C : Addr} {e : Expr} {te : TE} {p pos pos2 : Pos} {k : Nat} (hc : X.calm = true) (T : ErrC X.prog X.w X.K X.mg X.base x C f) (hr : Room k X.A) (hk : 2 ≤ k) (tk : Takes X W) (ha : PE X e te) (hg : Gl X x) (hd : (x == ("__debug__" : Str)) = false := by decide)
    (he : starEach [e] X.env = (false, eval e X.env) :: starEach [] X.env := by rfl) (hpl : (backTo pos (starEach [] X.env)).any (·.1) = false := by rfl) :
    PS X (.Raise (some (.Call (.Name x p) [e] [] pos)) none pos2) (tRaise C f W te) := by
  obtain ⟨fI, fd, ps, h1, h2, h3, h4⟩ := T.ini
  exact ps_raise hc tk (pmk_oex T.T h1 h2 h3 (hr.mono hk) h4 .nil pass0 hg T.g (pa_cons ha pa_nil he) hd he hpl)
section
variable {K : PySem.W.Frag} {B O : Hp} {G : List SD} {σ : L2.St} {H : Hp} {te : TE} {D : Ends}
theorem s_raise {C : Addr} {f : Str} {x : Str} {Wx : WX} (s : Sta K B O G σ H) (h : EvD K B O G te (.str x)) (k : ∀ p B' H', Ex B B' → W B' O H' → B' p = some (.xd [(f, .str x)]) → Wx (.ref C) (some p) σ H') : tRaise C f Wx te D σ H :=
  h B O σ H (Ex.refl _) (Ex.refl _) s _ fun v B' H' e w dv => ⟨by simp, fun a ha => ⟨a, v, rfl, upd_same, fun dx hdx hne => by
    have hdx' : H' dx = none := by rw [upd_ne hne] at hdx; exact hdx
    refine ⟨rfl, dx, [(f, v)], upd_same, by rw [upd_ne hne, upd_same], hdx', ?_⟩
    rw [init_end ha hne]
    have ev := dp_str dv
    subst ev
    exact k dx (upd B' dx (.xd [(f, .str x)])) _ (e.trans (Ex.new (w.fb hdx'))) (w.newB hdx') upd_same⟩⟩
end
/-- how a def may end: data, or an error of the class at C with its field -/
inductive Out where
  | ret (d : PyData)
  | exc (C : Addr) (f : Str) (x : Str)
def OutOk (K : PySem.W.Frag) (B O : Hp) (Q : VK) (E : XK) : Out → Prop
  | .ret d => ∀ v B' H', Ex B B' → W B' O H' → Dt K B' v d → Q v H'
  | .exc C f x => ∀ p B' H', Ex B B' → W B' O H' → B' p = some (.xd [(f, .str x)]) → E (.ref C) (some p) H'
theorem OutOk.imp {K : PySem.W.Frag} {B B1 O : Hp} {Q : VK} {E : XK} {o : Out} (h : OutOk K B O Q E o) (e : Ex B B1) : OutOk K B1 O Q E o := by
  cases o with
  | ret d => exact fun v B' H' e' => h v B' H' (e.trans e')
  | exc C f x => exact fun p B' H' e' => h p B' H' (e.trans e')
/-- the promise of a def of data that may raise -/
def SpE (K : PySem.W.Frag) (R : List PyData → Out → Prop) : Sp := fun vs H Q E => ∃ B O ds o, W B O H ∧ DtAll K B vs ds ∧ R ds o ∧ OutOk K B O Q E o
section
variable {K : PySem.W.Frag} {B O : Hp} {G : List SD} {σ : L2.St} {H : Hp} {D : Ends} {R : List PyData → Out → Prop} {ds : List PyData} {t : TA} {E : XK} {tz : TS}
/-- a call as a statement, of what may raise -/
theorem q_callE {o : Out} (s : Sta K B O G σ H) (h : EvA K B O G t ds) (hr : R ds o) (k1 : ∀ d, o = .ret d → ∀ B' H', Ex B B' → Sta K B' O G σ H' → tz D σ H') (k2 : ∀ C f x, o = .exc C f x → ∀ p B' H', Ex B B' → W B' O H' → B' p = some (.xd [(f, .str x)]) → E (.ref C) (some p) H') :
    tSeq (tDrop (tCall (SpE K R) [] E t)) tz D σ H :=
  h B O σ H (Ex.refl _) (Ex.refl _) s _ fun vs B' H' e w dvs => by
    refine ⟨B', O, ds, o, w, by rw [List.append_nil]; exact dvs, hr, ?_⟩
    cases o with
    | ret d => exact fun v B2 H2 e2 w2 d2 => k1 d rfl B2 H2 (e.trans e2) ⟨w2, s.s.ex (e.trans e2)⟩
    | exc C f x => exact fun p B2 H2 e2 w2 d2 => k2 C f x rfl p B2 H2 (e.trans e2) w2 d2
end
section
variable {P : Program} {w : World} {K : PySem.W.Frag} {mg : Str → Option Value} {base : Heap}
theorem ok_fnE {x qual : Str} {st : Stmt} {f : Addr} {fd : FuncData} {N ps : List Str} {k : Nat} {R : List PyData → Out → Prop} (F : Fun K x qual st f fd) (S : FnScope N ps (defScope st)) (hl : ∀ ds d, R ds d → ds.length = ps.length)
    (hb : ∀ (cdv : Value) (A : Around) (outer : List Env) (s : Shared) (H0 : Hp) (E : XK), Room k (A.deeper (envOfC qual (defScope st) s.heap.objs.size f cdv)) → ∀ ds o, R ds o →
      ∃ t, PSs (cxOf (L2.CX P w) P w K mg base N qual (defScope st) f cdv A outer s H0 E) (defBody st) t ∧
        ∀ B O σ H (Q : VK), Sta K B O (gOf ds (N.length - ps.length)) σ H → OutOk K B O Q E o → t { nx := fun _ H' => Q .non H', rt := Q } σ H) :
    FnOk P w K mg base (L2.CX P w) (k + 1) f fd ps (SpE K R) := by
  refine F.okX S (fun vs H Q E h => ?_) (fun cdv A outer s H vs Q E hr h => ?_)
  · obtain ⟨B, O, ds, d, _, h2, h3, _⟩ := h
    rw [dps_len h2]
    exact hl ds d h3
  · obtain ⟨B, O, ds, d, h1, h2, h3, k⟩ := h
    obtain ⟨t, ht, hq⟩ := hb cdv A outer s H E hr ds d h3
    refine ⟨t, ht, hq B O _ H Q ⟨h1, ?_⟩ k⟩
    have e := slots_start h2 (N.length - ps.length)
    have hl' : vs.length = ps.length := by rw [dps_len h2]; exact hl ds d h3
    unfold L2.start
    rw [hl']
    exact e
/-- a def that stands at its name, its promise, raising -/
structure CalE (P : Program) (w : World) (K : PySem.W.Frag) (mg : Str → Option Value) (base : Heap) (k : Nat) (x : Str) (ps : List Str) (sp : Sp) : Prop where
  ex : ∃ f fd, FnOk P w K mg base (L2.CX P w) k f fd ps sp ∧ mg x = some (.ref f) ∧ PySem.W.keepIn K (.ref f) = true ∧ Binds K fd ps []
theorem At.calE {x : Str} {st : Stmt} {ps : List Str} {f : Addr} {fd : FuncData} {k : Nat} {sp : Sp} (a : At K mg x st ps f fd) (h : FnOk P w K mg base (L2.CX P w) k f fd ps sp) : CalE P w K mg base k x ps sp := ⟨f, fd, h, a.mg, a.fn.kp, a.bi⟩
end
/-- a call of what may raise, where what it raises goes on -/
theorem pe_calE {X : Cx} {x : Str} {ps : List Str} {sp : Sp} {k j : Nat} {p pos : Pos} {e : Expr} {es : List Expr} {t : TA} {E : XK} (C : CalE X.prog X.w X.K X.mg X.base k x ps sp) (hr : Room j X.A) (hk : k ≤ j) (hg : Gl X x) (tk : Takes X (fun cls d _ H => E cls d H)) (ha : PA X (e :: es) t) (hd : (x == ("__debug__" : Str)) = false := by decide)
    (he : starEach (e :: es) X.env = (false, eval e X.env) :: starEach es X.env := by rfl) (hpl : (backTo pos (starEach es X.env)).any (·.1) = false := by rfl) :
    PE X (.Call (.Name x p) (e :: es) [] pos) (tCall sp [] E t) := by
  obtain ⟨f, fd, h1, h2, h3, h4⟩ := C.ex
  exact pe_call (h1.mono hk) hr hg h2 h3 h4 .nil (passes_call tk fun _ _ _ _ h => h) ha hd he hpl
/-- a walk over what is one or the other -/
theorem pi_or {X : Cx} {tg e : Expr} {w1 w2 : TI} (h1 : PI X tg e w1) (h2 : PI X tg e w2) : PI X tg e (fun σ H R => w1 σ H R ∨ w2 σ H R) := ⟨fun pins s σ H R I h => h.elim (h1.run pins s σ H R I) (h2.run pins s σ H R I)⟩
theorem ei_orL {K : PySem.W.Frag} {B O : Hp} {G : List SD} {w1 w2 : TI} {es : List PyData} (h : EvI K B O G w1 es) : EvI K B O G (fun σ H R => w1 σ H R ∨ w2 σ H R) es := fun B1 O1 σ H e o s R r => .inl (h B1 O1 σ H e o s R r)
theorem ei_orR {K : PySem.W.Frag} {B O : Hp} {G : List SD} {w1 w2 : TI} {es : List PyData} (h : EvI K B O G w2 es) : EvI K B O G (fun σ H R => w1 σ H R ∨ w2 σ H R) es := fun B1 O1 σ H e o s R r => .inr (h B1 O1 σ H e o s R r)
end DL

set_option Elab.async false
set_option linter.all false
set_option maxRecDepth 100000
set_option maxHeartbeats 4000000
namespace Toy
open PySem PySem.Spec PyProof.Rows L2 StX DL
section
variable {P : Program} {w : World} {K : PySem.W.Frag} {mg : Str → Option Value} {base : Heap}


/-- what check_size says -/
def sizeOut (CN CT : Addr) (x : PyData) (lo : Int) (pl : Str) : Out := if inFrom x lo none then (if inFrom x lo (some 5000) then .ret .none else .exc CT "limit" pl) else .exc CN "place" pl
def R_size (CN CT : Addr) (ds : List PyData) (o : Out) : Prop := ∃ x lo pl, ds = [x, .int lo, .str pl] ∧ o = sizeOut CN CT x lo pl
abbrev CalFrom (P : Program) (w : World) (K : PySem.W.Frag) (mg : Str → Option Value) (base : Heap) : Prop := CalD P w K mg base 4 "is_from" ["value", "low", "high"] [.non] (SpR K R_from)
theorem ok_check_size {f CN CT : Addr} {fd : FuncData} (T : Txt K mg) (Er_NoSet : ErrC P w K mg base "NoSet" CN "place") (Er_TooLarge : ErrC P w K mg base "TooLarge" CT "limit") (C_is_from : CalFrom P w K mg base) (a : At K mg "check_size" s_check_size ["number", "low", "place"] f fd) :
    FnOk P w K mg base (L2.CX P w) 6 f fd ["number", "low", "place"] (SpE K (R_size CN CT)) := by
  obtain ⟨tM, gM⟩ := T.g_MOST
  refine ok_fnE a.fn sc_check_size (by rintro ds d ⟨x, lo, pl, rfl, _⟩; rfl) fun cdv A outer s H0 E hr ds d ⟨x, lo, pl, e1, e2⟩ => ?_
  subst e1 e2
  refine ⟨_, (pss_cons (ps_if (pt_not (pt_val (pe_calD C_is_from hr (by omega) (by rfl) (pa_cons (pv 0) (pa_cons (pv 1) pa_nil))))) (pss_one (ps_raiseE rfl Er_NoSet hr (by omega) (takes_of rfl rfl rfl rfl) (pv 2) (by rfl))) pss_nil)
    (pss_one (ps_if (pt_cmpR op_gt (pv 0) (pe_glob (v := .int 5000) (by rfl) gM ⟨_, rfl⟩) (nomark _)) (pss_one (ps_raiseE rfl Er_TooLarge hr (by omega) (takes_of rfl rfl rfl rfl) (pv 2) (by rfl))) pss_nil))), fun B O σ H Q st q => ?_⟩
  refine q_when st (b := !inFrom x lo none) (et_not (et_test (ev_callD (es := [.none]) (ea_cons (ev_var rfl) (ea_cons (ev_var rfl) ea_nil)) (fun _ => dps_one .non) ⟨x, lo, none, rfl, rfl⟩))) (fun h1 B1 H1 x1 st => ?_) (fun h1 B1 H1 x1 st => ?_)
  · have e : sizeOut CN CT x lo pl = .exc CN "place" pl := by
      unfold sizeOut
      rw [if_neg (by simpa using h1)]
    rw [e] at q
    exact s_raise st (ev_var rfl) fun p B2 H2 x2 w2 hp => q p B2 H2 (x1.trans x2) w2 hp
  · have h1' : inFrom x lo none = true := by simpa using h1
    obtain ⟨i, rfl, hi⟩ : ∃ i, x = .int i ∧ lo ≤ i := by
      cases x with
      | int i => exact ⟨i, rfl, by simpa [inFrom, under] using h1'⟩
      | none => cases h1'
      | bool => cases h1'
      | str => cases h1'
      | list => cases h1'
      | tuple => cases h1'
      | dict => cases h1'
    refine s_if st (et_test (ev_op (ev_var rfl) (ev_c (v := .int 5000) fun _ => .int 5000) rd_B0)) (fun h2 B2 H2 x2 st => ?_) (fun h2 B2 H2 x2 st => ?_)
    · have h2' : 5000 < i := by simpa using h2
      have e : sizeOut CN CT (.int i) lo pl = .exc CT "limit" pl := by
        unfold sizeOut
        rw [if_pos h1', if_neg]
        simp [inFrom, under]
        intro _
        omega
      rw [e] at q
      exact s_raise st (ev_var rfl) fun p B3 H3 x3 w3 hp => q p B3 H3 ((x1.trans x2).trans x3) w3 hp
    · have h2' : i ≤ 5000 := by simpa using h2
      have e : sizeOut CN CT (.int i) lo pl = .ret .none := by
        unfold sizeOut
        rw [if_pos h1', if_pos]
        simp [inFrom, under, hi, h2']
      rw [e] at q
      exact q .non B2 H2 (x1.trans x2) st.w .non


def nextD : PyData → Int
  | .int i => i + 1
  | _ => 0
/-- the items rise from lo on, all at most hi -/
def risesD : Int → Int → List PyData → Bool
  | _, _, [] => true
  | lo, hi, d :: ds => inFrom d lo (some hi) && risesD (nextD d) hi ds
theorem from_int {d : PyData} {lo : Int} {hi : Option Int} (h : inFrom d lo hi = true) : ∃ z, d = .int z ∧ lo ≤ z ∧ under hi z = true := by
  cases d with
  | int z =>
    unfold inFrom at h
    rw [Bool.and_eq_true, decide_eq_true_eq] at h
    exact ⟨z, rfl, h.1, h.2⟩
  | none => cases h
  | bool => cases h
  | str => cases h
  | list => cases h
  | tuple => cases h
  | dict => cases h
/-- a list or tuple of such items -/
def rowD (hi : Int) (d : PyData) : Bool := match d with
  | .list ds => risesD 0 hi ds
  | .tuple ds => risesD 0 hi ds
  | _ => false
def numsOut (CN : Addr) (x : PyData) (n : Int) (pl : Str) : Out := if rowD (n - 1) x then .ret .none else .exc CN "place" pl
def R_nums (CN : Addr) (ds : List PyData) (o : Out) : Prop := ∃ x n pl, ds = [x, .int n, .str pl] ∧ o = numsOut CN x n pl
theorem rises_at {hi : Int} : ∀ {ds : List PyData} {lo : Int} {i : Nat} {d : PyData}, risesD lo hi ds = true → ds[i]? = some d → ∃ z, d = .int z ∧ lo ≤ z ∧ z ≤ hi := by
  intro ds
  induction ds with
  | nil => intro lo i d _ e; simp at e
  | cons x ds ih =>
    intro lo i d h e
    rw [risesD, Bool.and_eq_true] at h
    obtain ⟨h1, h2⟩ := h
    obtain ⟨z, rfl, hz1, hz2⟩ := from_int h1
    have hz2' : z ≤ hi := by simpa [under] using hz2
    cases i with
    | zero =>
      simp at e
      exact ⟨z, e.symm, hz1, hz2'⟩
    | succ i =>
      obtain ⟨y, e1, e2, e3⟩ := ih h2 (by simpa using e)
      have e2' : z + 1 ≤ y := e2
      exact ⟨y, e1, by omega, e3⟩
theorem ok_check_numbers {f CN : Addr} {fd : FuncData} (T : Txt K mg) (Er_NoSet : ErrC P w K mg base "NoSet" CN "place") (C_is_from : CalFrom P w K mg base) (a : At K mg "check_numbers" s_check_numbers ["numbers", "bound", "place"] f fd) :
    FnOk P w K mg base (L2.CX P w) 6 f fd ["numbers", "bound", "place"] (SpE K (R_nums CN)) := by
  refine ok_fnE a.fn sc_check_numbers (by rintro ds d ⟨x, n, pl, rfl, _⟩; rfl) fun cdv A outer s H0 E hr ds d ⟨x, n, pl, e1, e2⟩ => ?_
  subst e1 e2
  refine ⟨_, (pss_cons (ps_if (pt_not (pt_val (pe_callB (call_isiTK K) (by rfl) T.b_isinstance (by decide +kernel) (pa_cons (pv 0) (pa_cons (pe_tup (pa_cons (pe_bltn (v := .ty "list") (by rfl) T.b_list (by decide +kernel) rfl) (pa_cons (pe_bltn (v := .ty "tuple") (by rfl) T.b_tuple (by decide +kernel) rfl) pa_nil))) pa_nil))))) (pss_one (ps_raiseE rfl Er_NoSet hr (by omega) (takes_of rfl rfl rfl rfl) (pv 2) (by rfl))) pss_nil)
    (pss_cons (ps_set (i := 3) sc_check_numbers.nd rfl (Or.inl rfl) pe_int)
    (pss_one (ps_for (passes_of rfl) rfl ((fun h => pi_or (pi_listK K h) (pi_tupK K h)) (pv 0)) (pg_name (i := 4) sc_check_numbers.nd rfl (Or.inl rfl)) (pss_cons (ps_if (pt_not (pt_val (pe_cal C_is_from.cal hr (by omega) (by rfl) (pa_cons (pv 4) (pa_cons (pv 3) (pa_cons (pe_op op_sub (pv 1) pe_int) pa_nil)))))) (pss_one (ps_raiseE rfl Er_NoSet hr (by omega) (takes_of rfl rfl rfl rfl) (pv 2) (by rfl))) pss_nil)
    (pss_one (ps_set (i := 3) sc_check_numbers.nd rfl (Or.inl rfl) (pe_op op_add (pv 4) pe_int)))))))), fun B O σ H Q st q => ?_⟩
  refine q_when st (b := !(isListD x || isTupD x)) (et_not (et_test (ev_isiT (ev_var rfl) rfl))) (fun h1 B1 H1 x1 st => ?_) (fun h1 B1 H1 x1 st => ?_)
  · have e : numsOut CN x n pl = .exc CN "place" pl := by
      cases x <;> simp [isListD, isTupD] at h1 <;> rfl
    rw [e] at q
    exact s_raise st (ev_var rfl) fun p B2 H2 x2 w2 hp => q p B2 H2 (x1.trans x2) w2 hp
  · obtain ⟨es, hx, he⟩ : ∃ es, (x = .list es ∨ x = .tuple es) ∧ rowD (n - 1) x = risesD 0 (n - 1) es := by
      cases x with
      | list es => exact ⟨es, .inl rfl, rfl⟩
      | tuple es => exact ⟨es, .inr rfl, rfl⟩
      | none => simp [isListD, isTupD] at h1
      | int => simp [isListD, isTupD] at h1
      | bool => simp [isListD, isTupD] at h1
      | str => simp [isListD, isTupD] at h1
      | dict => simp [isListD, isTupD] at h1
    have eo : numsOut CN x n pl = if risesD 0 (n - 1) es then .ret .none else .exc CN "place" pl := by
      unfold numsOut
      rw [he]
    rw [eo] at q
    refine q_asg st ev_int fun v2 B2 H2 x2 d2 st => ?_
    refine s_for st (es := es) ?_ (fun i B' O' G' => O' = O ∧ ∃ lo : Int, risesD 0 (n - 1) es = risesD lo (n - 1) (es.drop i) ∧ ∃ g4 : SD, G' = [.dat x, .dat (.int n), .dat (.str pl), .dat (.int lo), g4]) ?_ ?_ ?_ ?_
    · rcases hx with rfl | rfl
      · exact ei_orL (ei_list (ev_var rfl))
      · exact ei_orR (ei_tup (ev_var rfl))
    · exact fun i B3 B4 O3 G3 _ h => h
    · exact ⟨rfl, 0, rfl, _, rfl⟩
    · rintro i e B3 O3 G3 σ3 H3 v hie x3 ⟨rfl, lo, hlo, g4, rfl⟩ st dv N hN
      have hdr : es.drop i = e :: es.drop (i + 1) := by
        have hi := (List.getElem?_eq_some_iff.mp hie).1
        rw [List.drop_eq_getElem_cons hi]
        congr 1
        exact (List.getElem?_eq_some_iff.mp hie).2
      refine eg_name B3 _ σ3 H3 v st dv _ fun σ4 st _ => ?_
      refine q_when st (b := !inFrom e lo (some (n - 1))) (et_not (et_test (ev_call (ea_cons (ev_var rfl) (ea_cons (ev_var rfl) (ea_cons (ev_op (ev_var rfl) ev_int rd_I0) ea_nil))) ⟨e, lo, some (n - 1), rfl, rfl⟩))) (fun h3 B4 H4 x4 st => ?_) (fun h3 B4 H4 x4 st => ?_)
      · have ef : risesD 0 (n - 1) es = false := by
          rw [hlo, hdr, risesD, show inFrom e lo (some (n - 1)) = false by simpa using h3]
          rfl
        rw [ef] at q
        exact s_raise st (ev_var rfl) fun p B5 H5 x5 w5 hp => q p B5 H5 ((((x1.trans x2).trans x3).trans x4).trans x5) w5 hp
      · have h3' : inFrom e lo (some (n - 1)) = true := by simpa using h3
        obtain ⟨z, rfl, _, _⟩ := from_int h3'
        refine s_asg st (ev_op (ev_var rfl) ev_int rd_I0) fun v5 B5 H5 x5 d5 st => ?_
        refine hN B5 _ _ _ _ (x4.trans x5) ⟨rfl, z + 1, ?_, _, rfl⟩ st
        rw [hlo, hdr, risesD, h3']
        rfl
    · rintro B3 O3 G3 σ3 H3 x3 ⟨rfl, lo, hlo, g4, rfl⟩ st
      have et : risesD 0 (n - 1) es = true := by
        rw [hlo, List.drop_length]
        rfl
      rw [et] at q
      exact q .non B3 H3 ((x1.trans x2).trans x3) st.w .non

end
end Toy
set_option Elab.async false
set_option linter.all false
set_option maxRecDepth 100000
set_option maxHeartbeats 4000000
namespace Toy
open PySem PySem.Spec PyProof.Rows L2 StX DL
section
variable {P : Program} {w : World} {K : PySem.W.Frag} {mg : Str → Option Value} {base : Heap}


/-- a draw: any number below the count, the pool goes on -/
def PreDraw (gs : List SD) (_ O : Hp) (R : PyData → Hp → Prop) : Prop := ∃ p n, gs = [.val (.ref p), .dat (.int n)] ∧ PoolAt O p ∧ 0 < n ∧ n < 1000000 ∧ R = fun d O' => ∃ r, d = .int r ∧ 0 ≤ r ∧ r < n ∧ Mv p O O'
theorem ok_law_draw {f : Addr} {fd : FuncData} (T : Txt K mg) (a : At K mg "_law_draw" s_law_draw ["pool", "count"] f fd) : FnOk P w K mg base CX0 2 f fd ["pool", "count"] (SpX K PreDraw) := by
  refine ok_fnX a.fn sc_law_draw (by rintro gs B O R ⟨p, n, rfl, _⟩; rfl) fun cdv A outer s H0 E hr => ?_
  refine ⟨_, (pss_cons (ps_if (pt_cmpR op_gt (pe_ix (ix_listK K) (pv 0) pe_int (fun _ _ => rfl)) pe_int (nomark _)) (pss_cons (ps_set (i := 2) sc_law_draw.nd rfl (Or.inl rfl) (pe_op op_mod (pe_callTy call_int1 (by rfl) T.b_int (by decide +kernel) (pa_cons (pe_ix (ix_listK K) (pv 0) pe_int (fun _ _ => rfl)) pa_nil)) (pv 1)))
    (pss_cons (ps_asg (pe_op op_fdiv (pe_callTy call_int1 (by rfl) T.b_int (by decide +kernel) (pa_cons (pe_ix (ix_listK K) (pv 0) pe_int (fun _ _ => rfl)) pa_nil)) (pv 1)) (pg_sub (pv 0) pe_int set_list))
    (pss_one (ps_ret (pv 2))))) pss_nil)
    (pss_cons (ps_asg (pe_op op_mod (pe_callTy call_int1 (by rfl) T.b_int (by decide +kernel) (pa_cons (pe_op op_add (pe_op op_mul (pe_ix (ix_listK K) (pv 0) pe_int (fun _ _ => rfl)) pe_int) pe_int) pa_nil)) pe_int) (pg_sub (pv 0) pe_int set_list))
    (pss_one (ps_ret (pe_op op_mod (pe_callTy call_int1 (by rfl) T.b_int (by decide +kernel) (pa_cons (pe_op op_fdiv (pe_op op_mod (pe_callTy call_int1 (by rfl) T.b_int (by decide +kernel) (pa_cons (pe_op op_mul (pe_ix (ix_listK K) (pv 0) pe_int (fun _ _ => rfl)) (pe_ix (ix_listK K) (pv 0) pe_int (fun _ _ => rfl))) pa_nil)) pe_int) pe_int) pa_nil)) (pv 1)))))), ?_⟩
  rintro gs B O R σ H Q ⟨p, n, rfl, ⟨x, y, ep, hy0, hy1⟩, hn0, hn1, rfl⟩ st q
  have dv : ∀ {B' : Hp}, DtAll K B' [V.int x, V.int y] [.int x, .int y] := fun {B'} => ints_dps [x, y]
  refine q_when st (et_test (ev_op (ev_ixO rfl ep dv ev_int at0) ev_int rd_B0)) (fun h1 B1 H1 x1 st => ?_) (fun h1 B1 H1 x1 st => ?_)
  · have hx : 0 < x := by simpa using h1
    refine q_asg st (ev_op (ev_cb (ea_cons (ev_ixO rfl ep dv ev_int at0) ea_nil) rc_intI) (ev_var rfl) (rd_I hn0)) fun v2 B2 H2 x2 d2 st => ?_
    refine q_setO st rfl ep (ev_op (ev_cb (ea_cons (ev_ixO rfl ep dv ev_int at0) ea_nil) rc_intI) (ev_var rfl) (rd_I ⟨hn0, by omega⟩)) ev_int (j := 0) (by rfl) fun v3 B3 H3 x3 d3 st => ?_
    rw [dp_int d3] at st
    refine s_ret st (ev_var rfl) fun v4 B4 H4 x4 w4 d4 => ?_
    refine q v4 _ B4 _ H4 (((x1.trans x2).trans x3).trans x4) ⟨x % n, rfl, Int.emod_nonneg _ (by omega), Int.emod_lt_of_pos _ hn0, ⟨x / n, y, upd_same, hy0, hy1⟩, fun a ha => upd_ne ha⟩ w4 d4
  · refine q_setO st rfl ep (ev_op (ev_cb (ea_cons (ev_op (ev_op (ev_ixO rfl ep dv ev_int at1) ev_int (rd_I (.inr ⟨by decide, by decide⟩))) ev_int rd_I0) ea_nil) rc_intI) ev_int (rd_I (by decide))) ev_int (j := 1) (by rfl) fun v3 B3 H3 x3 d3 st => ?_
    rw [dp_int d3] at st
    have hz0 : 0 ≤ (y * 48271 + 11) % 2147483647 := Int.emod_nonneg _ (by decide)
    have hz1 : (y * 48271 + 11) % 2147483647 < 2147483647 := Int.emod_lt_of_pos _ (by decide)
    generalize (y * 48271 + 11) % 2147483647 = z at st hz0 hz1
    have st' : Sta K B3 (upd O p (.lst [.int x, .int z])) _ _ _ := st
    have dz : ∀ {B' : Hp}, DtAll K B' [V.int x, V.int z] [.int x, .int z] := fun {B'} => ints_dps [x, z]
    refine s_ret st' (ev_op (ev_cb (ea_cons (ev_op (ev_op (ev_cb (ea_cons (ev_op (ev_ixO rfl upd_same dz ev_int at1) (ev_ixO rfl upd_same dz ev_int at1) (rd_I (.inl ⟨by omega, by omega⟩))) ea_nil) rc_intI) ev_int (rd_I (by decide))) ev_int (rd_I ⟨by decide, by decide⟩)) ea_nil) rc_intI) (ev_var rfl) (rd_I hn0)) fun v4 B4 H4 x4 w4 d4 => ?_
    exact q v4 _ B4 _ H4 ((x1.trans x3).trans x4) ⟨_, rfl, Int.emod_nonneg _ (by omega), Int.emod_lt_of_pos _ hn0, ⟨x, z, upd_same, hz0, hz1⟩, fun a ha => upd_ne ha⟩ w4 d4


theorem ev_lenS {B O : Hp} {G : List SD} {i : Nat} {a : Addr} {xs : List V} (hg : G[i]? = some (.val (.ref a))) (hs : SqL K B a xs) : EvD K B O G (tCB (fun xs H Q => ∃ p ys, xs = [.ref p] ∧ (SqL K H p ys ∨ SqT K H p ys) ∧ Q (.int ys.length) H) (tCons (tVar i) tNil)) (.int xs.length) := fun B1 O1 σ H e o s Q q => by
  obtain ⟨sv, h1, h2⟩ := s.s.get hg
  have h3 : sv = some (.ref a) := h2
  subst h3
  exact ⟨_, h1, a, xs, rfl, .inl (sl_ex (e.trans s.w.b) hs), q _ B1 H (Ex.refl _) s.w (.int _)⟩
theorem ev_ixS {B O : Hp} {G : List SD} {i : Nat} {a : Addr} {ns : List Int} {tb : TE} {k z : Int} (hg : G[i]? = some (.val (.ref a))) (hs : SqL K B a (ns.map V.int)) (hb : EvD K B O G tb (.int k)) (h : atI ns k = some z) : EvD K B O G (tOp (rIxL K) (tVar i) tb) (.int z) := fun B1 O1 σ H e o s Q q => by
  obtain ⟨sv, h1, h2⟩ := s.s.get hg
  have h3 : sv = some (.ref a) := h2
  subst h3
  refine ⟨_, h1, ?_⟩
  refine hb B1 O1 σ H e o s _ fun v B2 H2 e2 w2 d2 => ?_
  rw [dp_int d2]
  refine ⟨a, ns.map V.int, k, .int z, rfl, rfl, sl_ex ((e.trans e2).trans w2.b) hs, ?_, q _ B2 H2 e2 w2 (.int _)⟩
  unfold atI at h ⊢
  rw [List.length_map]
  cases hj : ixN ns.length k with
  | none => rw [hj] at h; cases h
  | some j =>
    rw [hj] at h
    have h' : ns[j]? = some z := h
    show (ns.map V.int)[j]? = _
    rw [List.getElem?_map, h']
    rfl
def SpPool (K : PySem.W.Frag) : Sp := fun vs H Q _ => ∃ (B O : Hp) (a : Addr) (ns : List Int) (k : Int), W B O H ∧ vs = [.ref a, .int k] ∧ SqL K B a (ns.map V.int) ∧ ns.length ≤ 63 ∧ 0 ≤ k ∧ k ≤ 63 ∧
  ∀ (p : Addr) (x y : Int) (B' H' : Hp), Ex B B' → O p = none → 0 ≤ y → y < 2147483647 → W B' (upd O p (.lst [.int x, .int y])) H' → Q (.ref p) H'
theorem ok_law_pool {f : Addr} {fd : FuncData} (T : Txt K mg) (a : At K mg "_law_pool" s_law_pool ["script", "k"] f fd) : FnOk P w K mg base CX0 2 f fd ["script", "k"] (SpPool K) := by
  refine a.fn.ok sc_law_pool (fun vs H Q E h => ?_) (fun cdv A outer s H vs Q E hr h => ?_)
  · obtain ⟨B, O, a, ns, k, _, rfl, _⟩ := h
    rfl
  · obtain ⟨B, O, a, ns, k, hw, rfl, hs, hl, hk0, hk1, q⟩ := h
    refine ⟨_, (pss_cons (ps_set (i := 2) sc_law_pool.nd rfl (Or.inl rfl) pe_int)
    (Evl.pss_cut (ps_if (pt_cmpR op_lt (pv 1) (pe_callB (call_lenK K) (by rfl) T.b_len PySem.boot_len (pa_cons (pv 0) pa_nil)) (nomark _)) (pss_one (ps_set (i := 2) sc_law_pool.nd rfl (Or.inl rfl) (pe_ix (ix_listK K) (pv 0) (pv 1) (fun _ _ => rfl)))) pss_nil)
    (pss_cons (ps_set (i := 3) sc_law_pool.nd rfl (Or.inl rfl) (pe_callB call_abs (by rfl) T.b_abs (by decide +kernel) (pa_cons (pv 2) pa_nil)))
    (pss_cons (ps_set (i := 4) sc_law_pool.nd rfl (Or.inl rfl) (pe_op op_mod (pe_op op_mul (pe_op op_add (pe_op op_add (pe_op op_mod (pv 3) pe_int) (pe_op op_mul pe_int (pv 1))) pe_int) pe_int) pe_int))
    (pss_one (ps_ret (pe_lst (pa_cons (pe_op op_mul (pv 3) (pe_callTy call_int1 (by rfl) T.b_int (by decide +kernel) (pa_cons (pe_cmpR op_ge (pv 3) (pe_op op_pow pe_int pe_int) (nomark _)) pa_nil))) (pa_cons (pv 4) pa_nil))))))))), ?_⟩
    have st : Sta K B O [.val (.ref a), .dat (.int k), .un, .un, .un] (L2.start N_sc_law_pool [.ref a, .int k]) H := ⟨hw, ⟨rfl, ⟨_, rfl, .int k⟩, trivial, trivial, trivial, trivial⟩⟩
    refine q_asg st ev_int fun v1 B1 H1 x1 d1 st => ?_
    refine ⟨fun σ' H' => ∃ B' c, Ex B B' ∧ Sta K B' O [.val (.ref a), .dat (.int k), .dat (.int c), .un, .un] σ' H', ?_, ?_⟩
    · refine s_if st (et_test (ev_op (ev_var rfl) (ev_lenS rfl (sl_ex x1 hs)) rd_B0)) (fun h B2 H2 x2 st => ?_) (fun h B2 H2 x2 st => ?_)
      · have hlt : k < ns.length := by simpa using h
        have hk : ns[k.toNat]? = some ns[k.toNat] := List.getElem?_eq_getElem (by omega)
        refine s_asg st (ev_ixS rfl (sl_ex (x1.trans x2) hs) (ev_var rfl) (at_nn hk0 hk)) fun v3 B3 H3 x3 d3 st => ?_
        exact ⟨B3, _, (x1.trans x2).trans x3, st⟩
      · exact ⟨B2, 0, x1.trans x2, st⟩
    rintro σ2 H2 ⟨B2, c, x2, st⟩
    refine q_asg st (ev_cb (ea_cons (ev_var rfl) ea_nil) rc_abs) fun v3 B3 H3 x3 d3 st => ?_
    generalize (if c < 0 then -c else c) = z at st
    refine q_asg st (ev_op (ev_op (ev_op (ev_op (ev_op (ev_var rfl) ev_int (rd_I (by decide))) (ev_op ev_int (ev_var rfl) (rd_I (.inl ⟨by decide, by decide⟩))) rd_I0) ev_int rd_I0) ev_int (rd_I (.inr ⟨by decide, by decide⟩))) ev_int (rd_I (by decide))) fun v4 B4 H4 x4 d4 st => ?_
    have hy0 : 0 ≤ (z % 2147483629 + 7919 * k + 31) * 48271 % 2147483647 := Int.emod_nonneg _ (by decide)
    have hy1 : (z % 2147483629 + 7919 * k + 31) * 48271 % 2147483647 < 2147483647 := Int.emod_lt_of_pos _ (by decide)
    generalize (z % 2147483629 + 7919 * k + 31) * 48271 % 2147483647 = y at st hy0 hy1
    refine s_retL st (el_lst (ds := [.int _, .int y]) (ea_cons (ev_op (ev_var rfl) (ev_cb (ea_cons (ev_op (ev_var rfl) (ev_op ev_int ev_int (rd_I ⟨by decide, by decide, by decide⟩)) rd_B0) ea_nil) rc_intB) (rd_I (.inr (by split <;> decide)))) (ea_cons (ev_var rfl) ea_nil)) (by simp)) fun p ws B5 H5 x5 np w5 d5 => ?_
    have e := dps_ints (ns := [_, y]) d5
    subst e
    exact q p _ y B5 H5 (((x2.trans x3).trans x4).trans x5) np hy0 hy1 w5

end
end Toy
set_option Elab.async false
set_option linter.all false
set_option maxRecDepth 100000
set_option maxHeartbeats 4000000
namespace Toy
open PySem PySem.Spec PyProof.Rows L2 StX DL


def del (O : Hp) (l : Addr) : Hp := fun a => if a = l then none else O a
theorem del_same {O : Hp} {l : Addr} : del O l l = none := if_pos rfl
theorem del_ne {O : Hp} {l a : Addr} (h : a ≠ l) : del O l a = O a := if_neg h
theorem del_ex {O : Hp} {l : Addr} : Ex (del O l) O := fun a o e => by
  unfold del at e
  split at e
  · cases e
  · exact e
theorem W.sub {B O O' H : Hp} (w : W B O H) (e : Ex O' O) : W B O' H := ⟨w.b, fun a o h => w.o a o (e a o h), fun a => by
  rcases w.d a with q | q
  · exact .inl q
  · refine .inr ?_
    cases h : O' a with
    | none => rfl
    | some o => rw [e a o h] at q; cases q⟩
theorem upd_del {O : Hp} {l : Addr} {u : HO} (h : O l = some u) : O = upd (del O l) l u := by
  funext a
  by_cases e : a = l
  · subst e
    rw [h, upd_same]
  · rw [upd_ne e, del_ne e]
section
variable {K : PySem.W.Frag} {B O : Hp} {G : List SD} {te ta : TE} {i : Nat} {p r : Addr} {n : Int} {E : XK}
theorem ex_draw (hg : G[i]? = some (.val (.ref p))) (hp : PoolAt O p) (h0 : 0 < n) (h1 : n < 1000000) : EvX K B O G (tCall (SpX K PreDraw) [] E (tCons (tVar i) (tCons (tC (.int n)) tNil))) (fun d O' => ∃ r, d = .int r ∧ 0 ≤ r ∧ r < n ∧ Mv p O O') :=
  ex_call (as_val (evV_var hg) (as_dat ev_int as_nil)) fun B' _ => ⟨p, n, rfl, hp, h0, h1, rfl⟩
/-- a test on what a draw gives -/
theorem s_ifX {R : PyData → Hp → Prop} {σ : L2.St} {H : Hp} {D : Ends} {tu tw : TS} (s : Sta K B O G σ H) (h : EvX K B O G te R) (hb : ∀ d O', R d O' → ∃ b, d = .bool b)
    (k : ∀ b B' O' H', Ex B B' → R (.bool b) O' → Sta K B' O' G σ H' → (b = true → tu D σ H') ∧ (b = false → tw D σ H')) : tIfS (tTest te) tu tw D σ H :=
  h B σ H (Ex.refl _) s _ fun v d B' O' H' e r w dv => by
    obtain ⟨b, rfl⟩ := hb d O' r
    obtain ⟨k1, k2⟩ := k b B' O' H' e r ⟨w, s.s.ex e⟩
    refine ⟨b, dp_bool dv, ?_⟩
    cases b with
    | true =>
      show tu D σ H'
      exact k1 rfl
    | false =>
      show tw D σ H'
      exact k2 rfl
end
/-- rising, from 0 on, below n -/
def Rise (ns : List Int) (n : Int) : Prop := ns.Pairwise (· < ·) ∧ ∀ x, x ∈ ns → 0 ≤ x ∧ x < n
theorem rise_nil {n : Int} : Rise [] n := ⟨.nil, by simp⟩
theorem rise_add {ns : List Int} {n m : Int} (h : Rise ns n) (h0 : 0 ≤ n) (hm : n < m) : Rise (ns ++ [n]) m := by
  refine ⟨List.pairwise_append.mpr ⟨h.1, List.pairwise_singleton _ _, fun x hx y hy => ?_⟩, fun x hx => ?_⟩
  · rw [List.mem_singleton.mp hy]
    exact (h.2 x hx).2
  · rcases List.mem_append.mp hx with hx | hx
    · have := h.2 x hx
      exact ⟨this.1, by omega⟩
    · rw [List.mem_singleton.mp hx]
      exact ⟨h0, hm⟩
theorem rise_mono {ns : List Int} {n m : Int} (h : Rise ns n) (hm : n ≤ m) : Rise ns m := ⟨h.1, fun x hx => ⟨(h.2 x hx).1, by have := (h.2 x hx).2; omega⟩⟩
abbrev whole_list (ns : List Int) : List PyData := ns.map .int

section
variable {P : Program} {w : World} {K : PySem.W.Frag} {mg : Str → Option Value} {base : Heap}


def PreSome (gs : List SD) (_ O : Hp) (R : PyData → Hp → Prop) : Prop := ∃ p n, gs = [.val (.ref p), .dat (.int n)] ∧ PoolAt O p ∧ 0 ≤ n ∧ n ≤ 1000 ∧ R = fun d O' => ∃ ns : List Int, d = .list (whole_list ns) ∧ Rise ns n ∧ ns.length ≤ 1000 ∧ Mv p O O'
theorem ok_law_some {f fr : Addr} {fd fdr : FuncData} (T : Txt K mg) (a : At K mg "_law_some" s_law_some ["pool", "size"] f fd) (ad : At K mg "_law_draw" s_law_draw ["pool", "count"] fr fdr) :
    FnOk P w K mg base CX0 4 f fd ["pool", "size"] (SpX K PreSome) := by
  have C_law_draw := ad.cal (ok_law_draw (P := P) (w := w) (base := base) T ad)
  refine ok_fnX a.fn sc_law_some (by rintro gs B O R ⟨p, n, rfl, _⟩; rfl) fun cdv A outer s H0 E hr => ?_
  refine ⟨_, (pss_cons (ps_set (i := 2) sc_law_some.nd rfl (Or.inl rfl) (pe_lst pa_nil))
    (pss_cons (ps_for PassesOwn.never rfl (pi_range1 (by rfl) T.b_range (pa_cons (pv 1) pa_nil)) (pg_name (i := 3) sc_law_some.nd rfl (Or.inl rfl)) (pss_one (ps_if (pt_cmpR op_eq (pe_cal C_law_draw hr (by omega) (by rfl) (pa_cons (pv 0) (pa_cons pe_int pa_nil))) pe_int (nomark _)) (pss_one (ps_expr (pe_bm PySem.F.plainAttrs_list PySem.F.slot_list_append PySem.F.type_list_append mt_append (pv 2) (pa_cons (pv 3) pa_nil)))) pss_nil)))
    (pss_one (ps_ret (pv 2))))), ?_⟩
  rintro gs B O R σ H Q ⟨p, n, rfl, hp, hn0, hn1, rfl⟩ st q
  refine q_asgL st (el_lst ea_nil (by simp)) fun l vs0 B1 H1 x1 nl dv0 st => ?_
  have e0 : vs0 = [] := by cases dv0; rfl
  subst e0
  have lp : l ≠ p := by
    obtain ⟨_, _, e, _⟩ := hp
    intro z
    subst z
    rw [nl] at e
    cases e
  have hp1 : PoolAt (upd O l (.lst [])) p := by
    obtain ⟨x, y, e, hy⟩ := hp
    exact ⟨x, y, by rw [upd_ne lp.symm]; exact e, hy⟩
  refine q_for st (ei_range1 (j := n) (ea_cons (ev_var rfl) ea_nil) (by omega))
    (fun i B' O' G' => ∃ (vs : List V) (ns : List Int), O' l = some (.lst vs) ∧ DtAll K B' vs (whole_list ns) ∧ Rise ns i ∧ ns.length ≤ i ∧ PoolAt O' p ∧ (∀ a, a ≠ p → a ≠ l → O' a = O a) ∧ ∃ g3 : SD, G' = [.val (.ref p), .dat (.int n), .val (.ref l), g3])
    ?_ ?_ ?_ ?_
  · rintro i B2 B3 O2 G2 e ⟨vs, ns, a1, a2, a3⟩
    exact ⟨vs, ns, a1, dps_ex e _ _ a2, a3⟩
  · exact ⟨[], [], upd_same, .nil, rise_nil, by simp, hp1, fun a h1 h2 => upd_ne h2, _, rfl⟩
  · rintro i e B2 O2 G2 σ2 H2 v hie x2 ⟨vs, ns, hl, dvs, hri, hlen, hp2, hfr, g3, rfl⟩ st dv N hN
    obtain ⟨hi, rfl⟩ := range_inv hie
    have ez : (0 : Int) + (i : Int) = i := by omega
    rw [ez] at dv
    have hvl := dps_len dvs
    rw [List.length_map] at hvl
    refine eg_name B2 _ σ2 H2 v st dv _ fun σ3 st _ => ?_
    refine s_ifX st (ex_op (ex_draw rfl hp2 (n := 2) (by decide) (by decide)) (R2' := fun _ O' d2 O'' => d2 = .int 1 ∧ O'' = O') (R3 := fun d O' => (∃ b, d = .bool b) ∧ Mv p O2 O') (fun d1 B' O' _ _ => ex_pure ev_int) ?_) (fun d O' h => h.1) fun b B4 O4 H4 x4 hR st => ?_
    · rintro d1 O' d2 O'' ⟨r, rfl, _, _, m⟩ ⟨rfl, rfl⟩
      exact ⟨_, rd_eqInt, ⟨_, rfl⟩, m⟩
    · obtain ⟨_, m⟩ := hR
      have hl4 : O4 l = some (.lst vs) := by rw [m.fr l lp]; exact hl
      refine ⟨fun _ => ?_, fun _ => ?_⟩
      · refine s_app st rfl hl4 (by omega) (ev_var rfl) fun v5 B5 H5 x5 d5 st => ?_
        refine hN B5 _ _ _ _ (x4.trans x5) ⟨vs ++ [v5], ns ++ [(i : Int)], upd_same, ?_, ?_, ?_, ?_, fun a h1 h2 => ?_, _, rfl⟩ st
        · show DtAll K B5 _ (whole_list (ns ++ [(i : Int)]))
          rw [show whole_list (ns ++ [(i : Int)]) = whole_list ns ++ [.int (i : Int)] from by simp [whole_list]]
          exact dps_app (dps_ex (x4.trans x5) _ _ dvs) (dps_one d5)
        · exact rise_add hri (by omega) (by omega)
        · simp
          omega
        · obtain ⟨x, y, e, hy⟩ := m.pool
          exact ⟨x, y, by rw [upd_ne lp.symm]; exact e, hy⟩
        · rw [upd_ne h2, m.fr a h1]
          exact hfr a h1 h2
      · exact hN B4 _ _ _ _ x4 ⟨vs, ns, hl4, dps_ex x4 _ _ dvs, rise_mono hri (by omega), by omega, m.pool, fun a h1 h2 => by rw [m.fr a h1]; exact hfr a h1 h2, _, rfl⟩ st
  · rintro B2 O2 G2 σ2 H2 x2 ⟨vs, ns, hl, dvs, hri, hlen, hp2, hfr, g3, rfl⟩ st
    rw [rangeD_len] at hri hlen
    have e := upd_del hl
    refine s_retO st rfl e del_same dvs fun B3 H3 x3 w3 d3 => ?_
    refine q _ _ B3 _ H3 ((x1.trans x2).trans x3) ⟨ns, rfl, rise_mono hri (by omega), by omega, ?_, fun a h1 => ?_⟩ w3 d3
    · obtain ⟨x, y, e, hy⟩ := hp2
      exact ⟨x, y, by rw [del_ne lp.symm]; exact e, hy⟩
    · by_cases h3 : a = l
      · subst h3
        rw [del_same, nl]
      · rw [del_ne h3]
        exact hfr a h1 h3

end
end Toy
set_option Elab.async false
set_option linter.all false
set_option maxRecDepth 100000
set_option maxHeartbeats 4000000
namespace Toy
open PySem PySem.Spec PyProof.Rows L2 StX DL


theorem in_ints {x : Int} {ns : List Int} : inV (.int x) (ns.map V.int) = ns.contains x := by
  induction ns with
  | nil => rfl
  | cons y ys ih =>
    show ((y == x) || inV (.int x) (ys.map V.int)) = _
    rw [ih, List.contains_cons, show (y == x) = (x == y) from Bool.eq_iff_iff.mpr ⟨fun h => beq_iff_eq.mpr (eq_of_beq h).symm, fun h => beq_iff_eq.mpr (eq_of_beq h).symm⟩]
theorem fv_ints {ns : List Int} : (whole_list ns).map fv = ns.map V.int := by
  simp [whole_list, fv]
theorem flat_ints {ns : List Int} : (whole_list ns).all flatD = true := by
  simp [whole_list, flatD]
theorem at3 {α : Type} {x y z u : α} {xs : List α} : atI (x :: y :: z :: u :: xs) 3 = some u := by
  have h : (3 : Int) < (xs.length : Int) + 1 + 1 + 1 + 1 := by omega
  simp [atI, ixN, h]
/-- what the law draws: early, first, rhythm, tails -/
structure Fld where
  early : List Int
  first : Int
  rhythm : Int
  tails : List Int
def Fld.enc (f : Fld) : PyData := .tuple [.list (whole_list f.early), .int f.first, .int f.rhythm, .list (whole_list f.tails)]
structure Fld.Ok (f : Fld) : Prop where
  e : Rise f.early f.first
  f0 : 0 ≤ f.first ∧ f.first < 6
  r0 : 1 ≤ f.rhythm ∧ f.rhythm < 5
  t : Rise f.tails f.rhythm
  le : f.early.length ≤ 1000
  lt : f.tails.length ≤ 1000
/-- is the number a member -/
def Fld.has (f : Fld) (n : Int) : Bool := if n < f.first then f.early.contains n else f.tails.contains (n % f.rhythm)

section
variable {P : Program} {w : World} {K : PySem.W.Frag} {mg : Str → Option Value} {base : Heap}


def R_has (ds : List PyData) (d : PyData) : Prop := ∃ (f : Fld) (n : Int), 0 < f.rhythm ∧ ds = [f.enc, .int n] ∧ d = .bool (f.has n)
theorem ok_law_has {f : Addr} {fd : FuncData} (T : Txt K mg) (a : At K mg "_law_has" s_law_has ["fields", "number"] f fd) : FnOk P w K mg base CX0 2 f fd ["fields", "number"] (SpR K R_has) := by
  refine ok_fn a.fn sc_law_has (by rintro ds d ⟨f, n, _, rfl, _⟩; rfl) fun cdv A outer s H0 E hr ds d ⟨F, n, hp, e1, e2⟩ => ?_
  subst e1 e2
  refine ⟨_, (pss_cons (ps_if (pt_cmpR op_lt (pv 1) (pe_ix (ix_tupK K) (pv 0) pe_int (fun _ _ => rfl)) (nomark _)) (pss_one (ps_ret (pe_cmpR (op_inK K) (pv 1) (pe_ix (ix_tupK K) (pv 0) pe_int (fun _ _ => rfl)) (by rfl)))) pss_nil)
    (pss_one (ps_ret (pe_cmpR (op_inK K) (pe_op op_mod (pe_callTy call_int1 (by rfl) T.b_int (by decide +kernel) (pa_cons (pv 1) pa_nil)) (pe_ix (ix_tupK K) (pv 0) pe_int (fun _ _ => rfl))) (pe_ix (ix_tupK K) (pv 0) pe_int (fun _ _ => rfl)) (by rfl))))), fun B O σ H Q st q => ?_⟩
  refine q_when st (et_test (ev_op (ev_var rfl) (ev_op (ev_var rfl) ev_int (rd_ixT at1)) rd_B0)) (fun h1 B1 H1 x1 st => ?_) (fun h1 B1 H1 x1 st => ?_)
  · have h1' : n < F.first := by simpa using h1
    refine s_ret st (ev_op (ev_var rfl) (ev_op (ev_var rfl) ev_int (rd_ixT at0)) (rd_inL (b := F.has n) rfl flat_ints ?_)) fun v B' H' e w d => q v B' H' (x1.trans e) w d
    show inV (V.int n) ((whole_list F.early).map fv) = _
    rw [fv_ints, in_ints]
    unfold Fld.has
    rw [if_pos h1']
  · have h1' : ¬ n < F.first := by simpa using h1
    refine s_ret st (ev_op (ev_op (ev_cb (ea_cons (ev_var rfl) ea_nil) rc_intI) (ev_op (ev_var rfl) ev_int (rd_ixT at2)) (rd_I hp)) (ev_op (ev_var rfl) ev_int (rd_ixT at3)) (rd_inL (b := F.has n) rfl flat_ints ?_)) fun v B' H' e w d => q v B' H' (x1.trans e) w d
    show inV (V.int (n % F.rhythm)) ((whole_list F.tails).map fv) = _
    rw [fv_ints, in_ints]
    unfold Fld.has
    rw [if_neg h1']
def PreFields (gs : List SD) (_ O : Hp) (R : PyData → Hp → Prop) : Prop := ∃ p, gs = [.val (.ref p)] ∧ PoolAt O p ∧ R = fun d O' => ∃ f : Fld, f.Ok ∧ d = f.enc ∧ Mv p O O'
theorem ok_law_fields {f fr fs : Addr} {fd fdr fds : FuncData} (T : Txt K mg) (a : At K mg "_law_fields" s_law_fields ["pool"] f fd) (ad : At K mg "_law_draw" s_law_draw ["pool", "count"] fr fdr) (as_ : At K mg "_law_some" s_law_some ["pool", "size"] fs fds) :
    FnOk P w K mg base CX0 6 f fd ["pool"] (SpX K PreFields) := by
  have C_law_draw := ad.cal (ok_law_draw (P := P) (w := w) (base := base) T ad)
  have C_law_some := as_.cal (ok_law_some (P := P) (w := w) (base := base) T as_ ad)
  refine ok_fnX a.fn sc_law_fields (by rintro gs B O R ⟨p, rfl, _⟩; rfl) fun cdv A outer s H0 E hr => ?_
  refine ⟨_, (pss_cons (ps_set (i := 1) sc_law_fields.nd rfl (Or.inl rfl) (pe_cal C_law_draw hr (by omega) (by rfl) (pa_cons (pv 0) (pa_cons pe_int pa_nil))))
    (pss_cons (ps_set (i := 2) sc_law_fields.nd rfl (Or.inl rfl) (pe_cal C_law_some hr (by omega) (by rfl) (pa_cons (pv 0) (pa_cons (pv 1) pa_nil))))
    (pss_cons (ps_set (i := 3) sc_law_fields.nd rfl (Or.inl rfl) (pe_op op_add pe_int (pe_cal C_law_draw hr (by omega) (by rfl) (pa_cons (pv 0) (pa_cons pe_int pa_nil)))))
    (pss_one (ps_ret (pe_tup (pa_cons (pv 2) (pa_cons (pv 1) (pa_cons (pv 3) (pa_cons (pe_cal C_law_some hr (by omega) (by rfl) (pa_cons (pv 0) (pa_cons (pv 3) pa_nil))) pa_nil)))))))))), ?_⟩
  rintro gs B O R σ H Q ⟨p, rfl, hp, rfl⟩ st q
  refine qx_asg st (ex_draw rfl hp (by decide) (by decide)) fun v1 d1 B1 O1 H1 x1 ⟨n, e1, n0, n1, m1⟩ dv1 st => ?_
  subst e1
  refine qx_asg st (ex_call (as_val (evV_var rfl) (as_dat (ev_var rfl) as_nil)) fun B' _ => ⟨p, n, rfl, m1.pool, by omega, by omega, rfl⟩) fun v2 d2 B2 O2 H2 x2 ⟨ns, e2, hns, hl, m2⟩ dv2 st => ?_
  subst e2
  refine qx_asg st (ex_op (ex_pure ev_int) (R2' := fun _ O' d O'' => ∃ r, d = .int r ∧ 0 ≤ r ∧ r < 4 ∧ Mv p O' O'') (R3 := fun d O' => ∃ r, d = .int (1 + r) ∧ 0 ≤ r ∧ r < 4 ∧ Mv p O2 O') (fun d B' O' _ e => ?_) ?_) fun v3 d3 B3 O3 H3 x3 ⟨r, e3, r0, r1, m3⟩ dv3 st => ?_
  · obtain ⟨rfl, rfl⟩ := e
    exact ex_draw rfl m2.pool (by decide) (by decide)
  · rintro d O' d' O'' ⟨rfl, rfl⟩ ⟨r, rfl, r0, r1, m⟩
    exact ⟨_, rd_I0, r, rfl, r0, r1, m⟩
  subst e3
  refine sx_ret st (ex_tup (T := fun ds O' => ∃ ms, Rise ms (1 + r) ∧ ms.length ≤ 1000 ∧ ds = [.list (whole_list ns), .int n, .int (1 + r), .list (whole_list ms)] ∧ Mv p O3 O')
    (exs_cons (S := fun _ O' ds O'' => ∃ ms, Rise ms (1 + r) ∧ ms.length ≤ 1000 ∧ ds = [.int n, .int (1 + r), .list (whole_list ms)] ∧ Mv p O' O'') (ex_pure (ev_var rfl)) (fun d B' O' _ e => ?_) ?_) ?_) fun v d B4 O4 H4 x4 hR w4 dv => ?_
  · obtain ⟨rfl, rfl⟩ := e
    refine exs_cons (S := fun _ O' ds O'' => ∃ ms, Rise ms (1 + r) ∧ ms.length ≤ 1000 ∧ ds = [.int (1 + r), .list (whole_list ms)] ∧ Mv p O' O'') (ex_pure (ev_var rfl)) (fun d B' O' _ e => ?_) ?_
    · obtain ⟨rfl, rfl⟩ := e
      refine exs_cons (S := fun _ O' ds O'' => ∃ ms, Rise ms (1 + r) ∧ ms.length ≤ 1000 ∧ ds = [.list (whole_list ms)] ∧ Mv p O' O'') (ex_pure (ev_var rfl)) (fun d B' O' _ e => ?_) ?_
      · obtain ⟨rfl, rfl⟩ := e
        refine exs_cons (R := fun d O'' => ∃ ms, d = .list (whole_list ms) ∧ Rise ms (1 + r) ∧ ms.length ≤ 1000 ∧ Mv p O' O'') (S := fun _ O' ds O'' => ds = [] ∧ O'' = O') (ex_call (as_val (evV_var rfl) (as_dat (ev_var rfl) as_nil)) fun B' _ => ⟨p, 1 + r, rfl, m3.pool, by omega, by omega, rfl⟩) (fun d B'' O'' _ _ => exs_nil) ?_
        rintro d O5 ds O6 ⟨ms, rfl, h1, h2, m⟩ ⟨rfl, rfl⟩
        exact ⟨ms, h1, h2, rfl, m⟩
      · rintro d O5 ds O6 ⟨rfl, rfl⟩ ⟨ms, h1, h2, rfl, m⟩
        exact ⟨ms, h1, h2, rfl, m⟩
    · rintro d O5 ds O6 ⟨rfl, rfl⟩ ⟨ms, h1, h2, rfl, m⟩
      exact ⟨ms, h1, h2, rfl, m⟩
  · rintro d O5 ds O6 ⟨rfl, rfl⟩ ⟨ms, h1, h2, rfl, m⟩
    exact ⟨ms, h1, h2, rfl, m⟩
  · rintro ds O5 ⟨ms, _, _, rfl, _⟩
    simp
  · obtain ⟨ds, rfl, ms, h1, h2, rfl, m4⟩ := hR
    exact q v _ B4 O4 H4 (((x1.trans x2).trans x3).trans x4) ⟨⟨ns, n, 1 + r, ms⟩, ⟨hns, ⟨n0, n1⟩, ⟨by show (1 : Int) ≤ 1 + r; omega, by show 1 + r < 5; omega⟩, h1, hl, h2⟩, rfl, ((m1.trans m2).trans m3).trans m4⟩ w4 dv

end
end Toy
set_option Elab.async false
set_option linter.all false
set_option maxRecDepth 100000
set_option maxHeartbeats 2000000
/-! Dicts by a comprehension, while, repetition, values that stand still and are told by what the heap says of them. -/
namespace L2
/-- a dict comprehension over a walk -/
theorem dc_it {J : It} {n : Nat} {G : Hp → Prop} {Y : Nat → Hp → V → Hp → Prop} (w : Walk J n G Y) {g : TG} {tt : TT} {tk tv : TE} {vs : List Nat} {σ : St} {H1 : Hp} {D : PySem.Addr} {Qd : Hp → Prop} (Iv : Nat → Hp → Prop) (start : Iv 0 (upd H1 D (.dK []))) (stays : ∀ i H, i ≤ n → Iv i H → G H)
    (turn : ∀ i x H H', i < n → Iv i H → Y i H x H' → g x (wipe σ vs) H' fun σ2 H2 => wipe σ2 vs = wipe σ vs ∧ tt σ2 H2 fun b H3 =>
      if b = true then tk σ2 H3 fun y H4 => tv σ2 H4 fun z H5 => ∃ ds key, y = kV key ∧ H5 D = some (.dK ds) ∧ ds.length < PySem.sizeLine ∧ Iv (i + 1) (upd H5 D (.dK (putK ds key z))) else Iv (i + 1) H3) (ends : ∀ H, Iv n H → Qd H) :
    ∃ W : Nat → Nat → Hp → Prop, (∃ m, W 0 m (upd H1 D (.dK []))) ∧ ∀ i m H, W i m H →
      (J.stop i H ∧ Qd H) ∨ (J.go i H ∧ ∃ Nx : Hp → Prop, (∀ H', Nx H' → ∃ m', m' < m ∧ W (i + 1) m' H') ∧ ∀ x H', J.yld i H x H' → g x (wipe σ vs) H' fun σ2 H2 => wipe σ2 vs = wipe σ vs ∧ tt σ2 H2 fun b H3 =>
        if b = true then tk σ2 H3 fun y H4 => tv σ2 H4 fun z H5 => ∃ ds key, y = kV key ∧ H5 D = some (.dK ds) ∧ ds.length < PySem.sizeLine ∧ Nx (upd H5 D (.dK (putK ds key z))) else Nx H3) := by
  refine ⟨fun i m H => m = n - i ∧ i ≤ n ∧ Iv i H, ⟨n, by simp, Nat.zero_le _, start⟩, ?_⟩
  rintro i left H ⟨rfl, hi, p⟩
  have q := stays i H hi p
  by_cases hlt : i < n
  · refine .inr ⟨w.goes i H hlt q, Iv (i + 1), fun H' p' => ⟨n - (i + 1), by omega, rfl, hlt, p'⟩, fun x H' y => turn i x H H' hlt p (w.yields i H x H' hlt q y)⟩
  · have e : i = n := by omega
    subst e
    exact .inl ⟨w.stops H q, ends H p⟩
end L2
namespace DL
open PySem PySem.Spec PyProof.Rows L2 StX
/-- evaluates to a value of which P holds where it stands -/
def EvP (K : PySem.W.Frag) (B O : Hp) (G : List SD) (te : TE) (P : Hp → V → Prop) : Prop := ∀ B1 O1 σ H, Ex B B1 → Ex O O1 → Sta K B1 O1 G σ H → ∀ Q : VK, (∀ v B' H', Ex B1 B' → W B' O1 H' → P B' v → Q v H') → te σ H Q
section
variable {K : PySem.W.Frag} {B O : Hp} {G : List SD} {σ : L2.St} {H : Hp} {te ta tb : TE} {tz : TS} {D : Ends} {P : Hp → V → Prop} {i j : Nat}
theorem q_asgP (s : Sta K B O G σ H) (h : EvP K B O G te P) (k : ∀ v B' H', Ex B B' → P B' v → Sta K B' O (G.set i (.val v)) (σ.set i (some v)) H' → tz D (σ.set i (some v)) H') : tSeq (tAsg te (gName i)) tz D σ H :=
  h B O σ H (Ex.refl _) (Ex.refl _) s _ fun v B' H' e w p => k v B' H' e p ((s.ex e w).setV i)
theorem s_retP (s : Sta K B O G σ H) (h : EvP K B O G te P) (k : ∀ v B' H', Ex B B' → W B' O H' → P B' v → D.rt v H') : tRet te D σ H :=
  h B O σ H (Ex.refl _) (Ex.refl _) s _ fun v B' H' e w p => k v B' H' e w p
/-- a dict whose keys are the ints ns -/
def Ks (ns : List Int) (B : Hp) (v : V) : Prop := ∃ D kvs, v = .ref D ∧ B D = some (.dK kvs) ∧ ∀ i : Int, (valV kvs (.inl i : Key)).isSome = ns.contains i
theorem Ks.ex {ns : List Int} {B B' : Hp} {v : V} (h : Ks ns B v) (e : Ex B B') : Ks ns B' v := by
  obtain ⟨D, kvs, h1, h2, h3⟩ := h
  exact ⟨D, kvs, h1, e _ _ h2, h3⟩
/-- {x: True for x in ..} -/
theorem ev_keys {wi : TI} {ns : List Int} (hj : j < G.length) (hI : EvI K B O G wi (ns.map .int)) (hz : ns.length ≤ 100000) : EvP K B O G (tDc wi (gName j) tYes (tVar j) (tC (.bl true)) [j]) (Ks ns) := fun B1 O1 σ H e1 o s Q q => by
  refine hI B1 O1 σ H e1 o s _ fun J B2 H2 e2 w2 gv D hD => ?_
  obtain ⟨n, G0, Y, hn, wk, hG0, hY⟩ := gv
  have oD : O1 D = none := w2.fo hD
  rw [List.length_map] at hn
  refine dc_it wk (fun i H' => ∃ B' kvs, Ex B2 B' ∧ W B' (upd O1 D (.dK kvs)) H' ∧ kvs.length ≤ i ∧ ∀ z : Int, (valV kvs (.inl z : Key)).isSome = (ns.take i).contains z)
    ⟨B2, [], Ex.refl _, w2.newO hD, Nat.zero_le _, fun z => by simp [valV]⟩ (fun i H' _ ⟨B', kvs, e', w', _⟩ => hG0 B' _ H' e' w') ?_ ?_
  · rintro i x H3 H4 hi ⟨B3, kvs, e3, w3, hl, hk⟩ y
    obtain ⟨e, B4, hie, e4, w4, dx⟩ := hY i H3 x H4 B3 _ e3 w3 hi y
    obtain ⟨z, hz', rfl⟩ := map_inv hie
    have ex := dp_int dx
    subst ex
    have hj' : j < (L2.wipe σ [j]).length := by
      rw [wipe_length]
      rw [slots_len s.s]
      exact hj
    refine ⟨wipe_set (by simp) |>.trans wipe_wipe, ?_⟩
    show ∃ v, _
    refine ⟨.int z, by rw [List.getElem?_set]; simp [hj'], kvs, .inl z, rfl, w4.o D _ upd_same, Nat.lt_of_le_of_lt (m := 100000) (by omega) (by decide), ?_⟩
    refine ⟨B4, putK kvs (.inl z) (.bl true), e3.trans e4, ?_, ?_, fun u => ?_⟩
    · have := w4.mut (v := .dK (putK kvs (.inl z) (.bl true))) upd_same
      rw [upd_upd] at this
      exact this
    · have := length_putK kvs (.inl z : Key) (.bl true)
      omega
    · rw [valV_put, List.take_add_one, hz']
      simp only [Option.toList_some, List.contains_append, List.contains_cons, List.contains_nil, Bool.or_false]
      rw [← hk u]
      by_cases hu : u = z
      · subst hu
        simp
      · have : ¬ (Sum.inl u : Key) = .inl z := by simpa using hu
        rw [if_neg this]
        simp [hu]
  · rintro H3 ⟨B3, kvs, e3, w3, hl, hk⟩
    have hb := w3.bnone upd_same
    rw [hn, List.take_length] at hk
    exact q _ (upd B3 D (.dK kvs)) H3 ((e2.trans e3).trans (Ex.new hb)) (w3.give oD) ⟨D, kvs, rfl, upd_same, hk⟩
/-- x in d -/
theorem ev_din {ns : List Int} {v : V} {z : Int} (ha : EvD K B O G ta (.int z)) (hg : G[i]? = some (.val v)) (hk : Ks ns B v) : EvD K B O G (tDIn ta (tVar i)) (.bool (ns.contains z)) := fun B1 O1 σ H e o s Q q =>
  ha B1 O1 σ H e o s _ fun u B2 H2 e2 w2 d2 => by
    obtain ⟨sv, h1, h2⟩ := s.s.get hg
    have h3 : sv = some v := h2
    subst h3
    refine ⟨v, h1, ?_⟩
    obtain ⟨D, kvs, rfl, hb, hkv⟩ := hk
    rw [dp_int d2]
    refine ⟨D, valV kvs (.inl z : Key), rfl, .inl ⟨kvs, .inl z, .inl (w2.b _ _ (e2 _ _ (e _ _ hb))), rfl, rfl⟩, ?_⟩
    rw [hkv z]
    exact q _ B2 H2 e2 w2 (.bl _)
/-- xs * k -/
theorem dps_flat : ∀ {k : Nat} {ds : List PyData} {vs : List V}, DtAll K B vs ds → DtAll K B (List.replicate k vs).flatten (List.replicate k ds).flatten
  | 0, _, _, _ => .nil
  | k + 1, ds, vs, h => by
    rw [List.replicate_succ, List.replicate_succ, List.flatten_cons, List.flatten_cons]
    exact dps_app h (dps_flat h)
theorem rd_rep {ds : List PyData} {k : Int} (hk : 0 ≤ k ∧ k ≤ 100000) (hz : ds.length * k.toNat ≤ 100000) : RD K rRep (.list ds) (.int k) (.list (List.replicate k.toNat ds).flatten) := fun B1 O1 H v w hw hv hx Q q => by
  obtain ⟨a, xs, rfl, h1, h2⟩ := dp_lst hv
  rw [dp_int hx]
  refine ⟨a, k, xs, rfl, rfl, hw.b _ _ h1, by omega, by omega, sz_of (by rw [dps_len h2]; exact hz), fun p hp => ?_⟩
  exact q _ (upd B1 p _) _ (Ex.new (hw.fb hp)) (hw.newB hp) (.lst upd_same (dps_ex (Ex.new (hw.fb hp)) _ _ (dps_flat h2)))
/-- while: a measure that falls -/
theorem q_while {tt : TT} {tu : TS} (s : Sta K B O G σ H) (Pm : Nat → Hp → Hp → List SD → Prop) (m0 : Nat) (h0 : Pm m0 B O G)
    (hs : ∀ m B1 O1 G1 σ1 H1, Ex B B1 → Pm m B1 O1 G1 → Sta K B1 O1 G1 σ1 H1 → ∃ b, EvT K B1 O1 G1 tt b ∧ (b = true → ∀ B2 H2, Ex B1 B2 → Sta K B2 O1 G1 σ1 H2 → ∀ N : L2.St → Hp → Prop, (∀ m' B' O' G' σ' H', m' < m → Ex B2 B' → Pm m' B' O' G' → Sta K B' O' G' σ' H' → N σ' H') → tu { D with nx := N, ct := N, bk := tz D } σ1 H2) ∧
      (b = false → ∀ B2 H2, Ex B1 B2 → Sta K B2 O1 G1 σ1 H2 → tz D σ1 H2)) : tSeq (tWhile tt tu) tz D σ H := by
  refine ⟨fun m σ' H' => ∃ B' O' G', Ex B B' ∧ Pm m B' O' G' ∧ Sta K B' O' G' σ' H', ⟨m0, B, O, G, Ex.refl _, h0, s⟩, ?_⟩
  rintro m σ1 H1 ⟨B1, O1, G1, e1, p1, s1⟩
  obtain ⟨b, hb, k1, k2⟩ := hs m B1 O1 G1 σ1 H1 e1 p1 s1
  refine hb B1 O1 σ1 H1 (Ex.refl _) (Ex.refl _) s1 _ fun B2 H2 e2 w2 => ?_
  cases b with
  | true =>
    rw [if_pos rfl]
    refine ⟨fun σ' H' => ∃ m', m' < m ∧ ∃ B' O' G', Ex B B' ∧ Pm m' B' O' G' ∧ Sta K B' O' G' σ' H', fun σ' H' ⟨m', hm, h⟩ => ⟨m', hm, h⟩, ?_⟩
    exact k1 rfl B2 H2 e2 (s1.ex e2 w2) _ fun m' B' O' G' σ' H' hm e' p' s' => ⟨m', hm, B', O', G', (e1.trans e2).trans e', p', s'⟩
  | false =>
    rw [if_neg Bool.false_ne_true]
    exact k2 rfl B2 H2 e2 (s1.ex e2 w2)
end
end DL

set_option Elab.async false
set_option linter.all false
set_option maxRecDepth 100000
set_option maxHeartbeats 4000000
namespace Toy
open PySem PySem.Spec PyProof.Rows L2 StX DL
section
variable {P : Program} {w : World} {K : PySem.W.Frag} {mg : Str → Option Value} {base : Heap}


theorem units1 {k : Nat} {A : Around} (r : Room k A) : A.units + 1 < cLine := by
  have := r.un
  omega
/-- a list or tuple of ints -/
def seqInts (d : PyData) (ns : List Int) : Prop := d = .list (whole_list ns) ∨ d = .tuple (whole_list ns)
def marksOf (ns : List Int) (many : Int) : List Bool := (List.range many.toNat).map fun (i : Nat) => ns.contains (i : Int)
abbrev bools (bs : List Bool) : List PyData := bs.map .bool
def R_marks (ds es : List PyData) : Prop := ∃ x ns many, seqInts x ns ∧ ns.length ≤ 100000 ∧ 0 ≤ many ∧ many ≤ 5000 ∧ ds = [x, .int many] ∧ es = bools (marksOf ns many)
theorem ok_marks_for {f : Addr} {fd : FuncData} (T : Txt K mg) (a : At K mg "marks_for" s_marks_for ["numbers", "many"] f fd) : FnOk P w K mg base CX0 2 f fd ["numbers", "many"] (SpL K R_marks) := by
  refine ok_fnL a.fn sc_marks_for (by rintro ds d ⟨x, ns, many, _, _, _, _, rfl, _⟩; rfl) fun cdv A outer s H0 E hr ds d ⟨x, ns, many, hx, hl, h0, h1, e1, e2⟩ => ?_
  subst e1 e2
  refine ⟨_, (pss_cons (ps_set (i := 2) sc_marks_for.nd rfl (Or.inr rfl) (pe_dc (own := [("number", 3)]) (by rfl) sc_marks_for.nd ((fun h => pi_or (pi_listK K h) (pi_tupK K h)) (pv 0)) (blkOk_by (own := [("number", 3)]) (N := N_sc_marks_for) (sc := defScope s_marks_for) (by decide +kernel)) (fun _ _ _ _ _ => (pg_name (i := 3) sc_marks_for.nd rfl (Or.inl rfl))) (fun _ _ _ _ _ => pts_nil) (fun _ _ _ _ _ => (pv 3)) (fun _ _ _ _ _ => pe_bl)))
    (pss_one (ps_ret (pe_lc (own := [("number", 3)]) (by rfl) sc_marks_for.nd (pi_range1 (by rfl) T.b_range (pa_cons (pv 1) pa_nil)) (blkOk_by (own := [("number", 3)]) (N := N_sc_marks_for) (sc := defScope s_marks_for) (by decide +kernel)) (fun _ _ _ _ _ => (pg_name (i := 3) sc_marks_for.nd rfl (Or.inl rfl))) (fun _ _ _ _ _ => pts_nil) (fun _ _ _ _ _ => (pe_cmp (pc_din (units1 hr) (pv 3) (pv 2)) (by rfl))))))), fun B O σ H Q st q => ?_⟩
  refine q_asgP st (ev_keys (ns := ns) (show 3 < 4 from by decide) ?_ hl) fun v B1 H1 x1 hk st => ?_
  · rcases hx with rfl | rfl
    · exact ei_orL (ei_list (ev_var rfl))
    · exact ei_orR (ei_tup (ev_var rfl))
  refine s_retL st (el_map (List.range many.toNat) (fun i => .int (i : Int)) (fun i => .bool (ns.contains (i : Int))) (fun i => _) ?_ (by rw [List.length_range]; omega) (fun i _ => eg_nameW (by decide)) (fun i _ => ev_din (ev_var rfl) rfl hk)) fun p ws B2 H2 x2 n2 w2 d2 => ?_
  · have e : rangeD 0 many.toNat = (List.range many.toNat).map fun (i : Nat) => PyData.int (i : Int) := by
      unfold rangeD
      refine List.map_congr_left fun i _ => ?_
      rw [show (0 : Int) + (i : Int) = i by omega]
    rw [← e]
    exact ei_range1 (j := many) (ea_cons (ev_var rfl) ea_nil) (by omega)
  · refine q p ws B2 H2 (x1.trans x2) n2 w2 ?_
    have e : bools (marksOf ns many) = (List.range many.toNat).map fun (i : Nat) => PyData.bool (ns.contains (i : Int)) := by
      unfold marksOf bools
      rw [List.map_map]
      rfl
    rw [e]
    exact d2

end
end Toy
set_option Elab.async false
set_option linter.all false
set_option maxRecDepth 100000
set_option maxHeartbeats 4000000
namespace Toy
open PySem PySem.Spec PyProof.Rows L2 StX DL
section
variable {P : Program} {w : World} {K : PySem.W.Frag} {mg : Str → Option Value} {base : Heap}


theorem lay_bools {bs : List Bool} : PT.Lay 1 (.list (bools bs)) := by
  refine PT.lay_lst (n := 0) fun d hd => ?_
  obtain ⟨b, _, rfl⟩ := List.mem_map.mp hd
  exact PT.lay_good (by simp [PT.good, flatD, SeqAt.shaped, PyData.canLay0, PyData.depth])
theorem eqv_bools : ∀ {a b : List Bool}, PyData.eqv (.list (bools a)) (.list (bools b)) = decide (a = b) := by
  have key : ∀ {a b : List Bool}, PyData.eqvAll (bools a) (bools b) = decide (a = b) := by
    intro a
    induction a with
    | nil => intro b; cases b <;> simp [bools, PyData.eqvAll]
    | cons x a ih =>
      intro b
      cases b with
      | nil => simp [bools, PyData.eqvAll]
      | cons y b =>
        have ih' := ih (b := b)
        unfold bools at ih' ⊢
        rw [List.map_cons, List.map_cons, PyData.eqvAll, ih']
        cases x <;> cases y <;> simp [PyData.eqv]
  intro a b
  have k := key (a := a) (b := b)
  simpa [PyData.eqv] using k
def isPer (bs : List Bool) (p : Nat) : Bool := bs.length % p == 0 && decide (bs = (List.replicate (bs.length / p) (bs.take p)).flatten)
/-- the least period that makes the marks up -/
def leastP (bs : List Bool) : Nat := ((List.range (bs.length - 1)).map (· + 1)).find? (isPer bs) |>.getD bs.length
theorem find_range {f : Nat → Bool} {n i : Nat} (hi : i < n) (h : ∀ j, j < i → f (j + 1) = false) (ht : f (i + 1) = true) : ((List.range n).map (· + 1)).find? f = some (i + 1) := by
  rw [List.find?_map]
  have : (List.range n).find? (f ∘ (· + 1)) = some i := by
    rw [List.find?_eq_some_iff_getElem]
    refine ⟨ht, i, by simpa using hi, by simp, fun j hj => ?_⟩
    simp [h j hj]
  rw [this]
  rfl
theorem find_none {f : Nat → Bool} {n : Nat} (h : ∀ j, j < n → f (j + 1) = false) : ((List.range n).map (· + 1)).find? f = none := by
  rw [List.find?_eq_none]
  intro x hx
  obtain ⟨j, hj, rfl⟩ := List.mem_map.mp hx
  rw [h j (List.mem_range.mp hj)]
  exact Bool.false_ne_true
def R_lp (ds : List PyData) (d : PyData) : Prop := ∃ bs : List Bool, 1 ≤ bs.length ∧ bs.length ≤ 5000 ∧ ds = [.list (bools bs)] ∧ d = .int (leastP bs : Nat)
theorem bools_len {bs : List Bool} : (bools bs).length = bs.length := List.length_map ..
theorem cut_bools {bs : List Bool} {p : Nat} : cutX (bools bs) none (some (p : Int)) = bools (bs.take p) := by
  have e : HT.sIx (bools bs).length (bools bs).length (some (p : Int)) = min p (bools bs).length := HT.sIx_nat ..
  unfold cutX
  rw [e, HT.sIx_none, List.drop_zero, Nat.sub_zero]
  unfold bools
  rw [← List.map_take]
  by_cases hl : p ≤ (bs.map PyData.bool).length
  · rw [Nat.min_eq_left hl]
  · rw [Nat.min_eq_right (by omega), List.length_map, List.take_length, List.take_of_length_le (by rw [List.length_map] at hl; omega)]
theorem rep_bools {bs : List Bool} : ∀ {k : Nat}, (List.replicate k (bools bs)).flatten = bools (List.replicate k bs).flatten
  | 0 => rfl
  | k + 1 => by
    rw [List.replicate_succ, List.replicate_succ, List.flatten_cons, List.flatten_cons, rep_bools (k := k)]
    unfold bools
    rw [List.map_append]
theorem ok_least_period {f : Addr} {fd : FuncData} (T : Txt K mg) (a : At K mg "least_period" s_least_period ["marks"] f fd) : FnOk P w K mg base CX0 2 f fd ["marks"] (SpR K R_lp) := by
  refine ok_fn a.fn sc_least_period (by rintro ds d ⟨bs, _, _, rfl, _⟩; rfl) fun cdv A outer s H0 E hr ds d ⟨bs, hl1, hl2, e1, e2⟩ => ?_
  subst e1 e2
  refine ⟨_, (pss_cons (ps_for PassesOwn.never rfl (pi_range2 (by rfl) T.b_range (pa_cons pe_int (pa_cons (pe_callB (call_lenK K) (by rfl) T.b_len PySem.boot_len (pa_cons (pv 0) pa_nil)) pa_nil))) (pg_name (i := 1) sc_least_period.nd rfl (Or.inl rfl)) (pss_one (ps_if (PW.pt (pw_and (pt_cmpR op_eq (pe_op op_mod (pe_callB (call_lenK K) (by rfl) T.b_len PySem.boot_len (pa_cons (pv 0) pa_nil)) (pv 1)) pe_int (nomark _)) (pw_and1 (pt_cmpR (op_eqDK K hr.units) (pv 0) (pe_op op_rep (pe_slice (sl_listK K) (pv 0) po_none (po_some (pv 1))) (pe_op op_fdiv (pe_callB (call_lenK K) (by rfl) T.b_len PySem.boot_len (pa_cons (pv 0) pa_nil)) (pv 1))) (nomark _))))) (pss_one (ps_ret (pv 1))) pss_nil)))
    (pss_one (ps_ret (pe_callB (call_lenK K) (by rfl) T.b_len PySem.boot_len (pa_cons (pv 0) pa_nil))))), fun B O σ H Q st q => ?_⟩
  refine q_for st (ei_range2 (i := 1) (j := bs.length) (ea_cons ev_int (ea_cons (ev_is (ev_cb (ea_cons (ev_var rfl) ea_nil) rc_lenL) (by rw [bools_len])) ea_nil)) (by omega) (by omega))
    (fun i B' O' G' => O' = O ∧ (∀ j, j < i → isPer bs (j + 1) = false) ∧ ∃ g2 : SD, G' = [.dat (.list (bools bs)), g2]) ?_ ?_ ?_ ?_
  · exact fun i B1 B2 O1 G1 _ h => h
  · exact ⟨rfl, fun j hj => absurd hj (Nat.not_lt_zero _), _, rfl⟩
  · rintro i e B1 O1 G1 σ1 H1 v hie x1 ⟨rfl, hno, g2, rfl⟩ st dv N hN
    obtain ⟨hi, rfl⟩ := range_inv hie
    have ez : (1 : Int) + (i : Int) = ((i + 1 : Nat) : Int) := by omega
    rw [ez] at dv
    refine eg_name B1 _ σ1 H1 v st dv _ fun σ2 st _ => ?_
    have hmod : ((bs.length : Int) % ((i + 1 : Nat) : Int) == 0) = (bs.length % (i + 1) == 0) := by
      rw [Bool.eq_iff_iff, beq_iff_eq, beq_iff_eq]
      omega
    have hdiv : ((bs.length : Int) / ((i + 1 : Nat) : Int)).toNat = bs.length / (i + 1) := by
      rw [← Int.natCast_ediv]
      rfl
    have hsz : (i + 1) * (bs.length / (i + 1)) ≤ bs.length := Nat.mul_div_le _ _
    have hd0 : (0 : Int) ≤ (bs.length : Int) / ((i + 1 : Nat) : Int) := Int.ediv_nonneg (by omega) (by omega)
    have hd1 : (bs.length : Int) / ((i + 1 : Nat) : Int) ≤ 5000 := by
      rw [← Int.natCast_ediv]
      have := Nat.div_le_self bs.length (i + 1)
      omega
    have htk : (bs.take (i + 1)).length ≤ i + 1 := List.length_take_le ..
    refine s_if st (b := isPer bs (i + 1)) (et_is (et_and (a := bs.length % (i + 1) == 0) (b := decide (bs = (List.replicate (bs.length / (i + 1)) (bs.take (i + 1))).flatten))
        (et_test (ev_is (ev_op (ev_op (ev_is (ev_cb (ea_cons (ev_var rfl) ea_nil) rc_lenL) (by rw [bools_len])) (ev_var rfl) (rd_I (by omega))) ev_int rd_eqInt) (by rw [hmod])))
        fun _ => et_test (ev_op (ev_var rfl) (ev_op (ev_is (ev_slL (ev_var rfl) eo_none (eo_some (ev_var rfl))) (by rw [cut_bools])) (ev_op (ev_is (ev_cb (ea_cons (ev_var rfl) ea_nil) rc_lenL) (by rw [bools_len])) (ev_var rfl) (rd_I ⟨by omega, by omega⟩)) (rd_rep ⟨hd0, by omega⟩ ?_)) (rd_eq (lay_bools.sh (by decide)) ?_ ?_))) rfl) (fun h1 B2 H2 x2 st => ?_) (fun h1 B2 H2 x2 st => ?_)
    · rw [bools_len, hdiv]
      have := Nat.mul_le_mul_right (bs.length / (i + 1)) htk
      omega
    · rw [hdiv, rep_bools]
      exact lay_bools.sh (by decide)
    · rw [hdiv, rep_bools]
      exact eqv_bools
    · have hlp : leastP bs = i + 1 := by
        unfold leastP
        rw [find_range (by omega) hno h1]
        rfl
      refine s_ret st (ev_var rfl) fun v3 B3 H3 x3 w3 d3 => ?_
      rw [hlp] at q
      exact q v3 B3 H3 ((x1.trans x2).trans x3) w3 d3
    · refine hN B2 _ _ _ _ x2 ⟨rfl, fun j hj => ?_, _, rfl⟩ st
      by_cases e : j = i
      · subst e
        exact h1
      · exact hno j (by omega)
  · rintro B1 O1 G1 σ1 H1 x1 ⟨rfl, hno, g2, rfl⟩ st
    rw [rangeD_len] at hno
    have hlp : leastP bs = bs.length := by
      unfold leastP
      rw [find_none fun j hj => hno j (by omega)]
      rfl
    refine s_ret st (ev_is (ev_cb (ea_cons (ev_var rfl) ea_nil) rc_lenL) (by rw [bools_len])) fun v3 B3 H3 x3 w3 d3 => ?_
    rw [hlp] at q
    exact q v3 B3 H3 (x1.trans x3) w3 d3
def leastS (ms cs : List Bool) : Nat → Nat
  | 0 => 0
  | s + 1 => if (ms.getD s false == cs.getD (s % cs.length) false) = true then leastS ms cs s else s + 1
def R_ls (ds : List PyData) (d : PyData) : Prop := ∃ ms cs : List Bool, ms.length ≤ 5000 ∧ 1 ≤ cs.length ∧ cs.length ≤ 5000 ∧ ds = [.list (bools ms), .tuple (bools cs)] ∧ d = .int (leastS ms cs ms.length : Nat)
theorem at_bools {bs : List Bool} {i : Nat} (h : i < bs.length) : atI (bools bs) (i : Int) = some (.bool (bs.getD i false)) := by
  refine at_nn (by omega) ?_
  show (bools bs)[i]? = _
  unfold bools
  rw [List.getElem?_map, List.getD_eq_getElem?_getD, List.getElem?_eq_getElem h]
  rfl
theorem ok_least_start {f : Addr} {fd : FuncData} (T : Txt K mg) (a : At K mg "least_start" s_least_start ["marks", "cycle"] f fd) : FnOk P w K mg base CX0 2 f fd ["marks", "cycle"] (SpR K R_ls) := by
  refine ok_fn a.fn sc_least_start (by rintro ds d ⟨ms, cs, _, _, _, rfl, _⟩; rfl) fun cdv A outer s H0 E hr ds d ⟨ms, cs, hm, hc1, hc2, e1, e2⟩ => ?_
  subst e1 e2
  refine ⟨_, (pss_cons (ps_set (i := 2) sc_least_start.nd rfl (Or.inl rfl) (pe_callB (call_lenK K) (by rfl) T.b_len PySem.boot_len (pa_cons (pv 0) pa_nil)))
    (pss_cons (ps_while PassesOwn.never (PW.pt (pw_and (pt_cmpR op_gt (pv 2) pe_int (nomark _)) (pw_and1 (pt_cmpR op_eq (pe_ix (ix_listK K) (pv 0) (pe_op op_sub (pv 2) pe_int) (fun _ _ => rfl)) (pe_ix (ix_tupK K) (pv 1) (pe_op op_mod (pe_op op_sub (pv 2) pe_int) (pe_callB (call_lenK K) (by rfl) T.b_len PySem.boot_len (pa_cons (pv 1) pa_nil))) (fun _ _ => rfl)) (nomark _))))) (pss_one (ps_set (i := 2) sc_least_start.nd rfl (Or.inl rfl) (pe_op op_sub (pv 2) pe_int))))
    (pss_one (ps_ret (pv 2))))), fun B O σ H Q st q => ?_⟩
  refine q_asg st (ev_is (ev_cb (ea_cons (ev_var rfl) ea_nil) rc_lenL) (by rw [bools_len])) fun v1 B1 H1 x1 d1 st => ?_
  refine q_while st (fun m B' O' G' => O' = O ∧ m ≤ ms.length ∧ leastS ms cs m = leastS ms cs ms.length ∧ G' = [.dat (.list (bools ms)), .dat (.tuple (bools cs)), .dat (.int (m : Int))]) ms.length ⟨rfl, Nat.le_refl _, rfl, rfl⟩ ?_
  rintro m B2 O2 G2 σ2 H2 x2 ⟨rfl, hml, hls, rfl⟩ st
  cases m with
  | zero =>
    refine ⟨false, et_is (et_and (a := false) (b := true) (et_test (ev_is (ev_op (ev_var rfl) ev_int rd_B0) (by simp))) fun z => Bool.noConfusion z) rfl, fun z => Bool.noConfusion z, fun _ B3 H3 x3 st => ?_⟩
    refine s_ret st (ev_var rfl) fun v4 B4 H4 x4 w4 d4 => ?_
    rw [← hls] at q
    exact q v4 B4 H4 (((x1.trans x2).trans x3).trans x4) w4 d4
  | succ m =>
    have e1 : ((m + 1 : Nat) : Int) - 1 = (m : Int) := by omega
    have hmod : ((m : Int) % (cs.length : Int)) = ((m % cs.length : Nat) : Int) := by omega
    have hlt : m % cs.length < cs.length := Nat.mod_lt _ (by omega)
    refine ⟨ms.getD m false == cs.getD (m % cs.length) false, et_is (et_and (a := true) (b := ms.getD m false == cs.getD (m % cs.length) false) (et_test (ev_is (ev_op (ev_var rfl) ev_int rd_B0) (by simp)))
      fun _ => et_test (ev_op (ev_op (ev_var rfl) (ev_is (ev_op (ev_var rfl) ev_int rd_I0) (by rw [e1])) (rd_ixL (at_bools (by omega)))) (ev_op (ev_var rfl) (ev_is (ev_op (ev_is (ev_op (ev_var rfl) ev_int rd_I0) (by rw [e1])) (ev_is (ev_cb (ea_cons (ev_var rfl) ea_nil) rc_lenT) (by rw [bools_len])) (rd_I (by omega))) (by rw [hmod])) (rd_ixT (at_bools hlt))) (rd_eqS rfl rfl rfl dec_bl))) (Bool.true_and _), fun hb B3 H3 x3 st N hN => ?_, fun hb B3 H3 x3 st => ?_⟩
    · refine s_asg st (ev_is (ev_op (ev_var rfl) ev_int rd_I0) (by rw [e1])) fun v4 B4 H4 x4 d4 st => ?_
      refine hN m B4 _ _ _ _ (Nat.lt_succ_self _) x4 ⟨rfl, by omega, ?_, rfl⟩ st
      rw [← hls, leastS, if_pos hb]
    · refine s_ret st (ev_var rfl) fun v4 B4 H4 x4 w4 d4 => ?_
      rw [← hls, leastS, if_neg (by rw [hb]; exact Bool.false_ne_true)] at q
      exact q v4 B4 H4 (((x1.trans x2).trans x3).trans x4) w4 d4

end
end Toy
set_option Elab.async false
set_option linter.all false
set_option maxRecDepth 100000
set_option maxHeartbeats 2000000
/-! Instances: owned while they are made, standing still afterwards. -/
namespace DL
open PySem PySem.Spec PyProof.Rows L2 StX
section
variable {K : PySem.W.Frag} {B B' O : Hp} {G : List SD} {σ : L2.St} {H : Hp} {te ta tb : TE} {tz : TS} {D : Ends} {d : PyData} {i : Nat} {x dx C : Addr} {fs : List (Str × V)} {f : Str} {v : V}
/-- self.f = e, self owned -/
theorem s_fld (c : Cls K C) (n : NoAttr K C f) (s : Sta K B O G σ H) (hg : G[i]? = some (.val (.ref x))) (ho : O x = some (.ins C dx fs)) (hl : fs.length < 1000) (h : EvD K B O G te d)
    (k : ∀ v B' H', Ex B B' → Dt K B' v d → Sta K B' (upd O x (.ins C dx (putF f v fs))) G σ H' → D.nx σ H') : sFld K (tVar i) te f D σ H := by
  refine h B O σ H (Ex.refl _) (Ex.refl _) s _ fun v B' H' e w dv => ?_
  obtain ⟨sv, h1, h2⟩ := s.s.get hg
  have h3 : sv = some (.ref x) := h2
  subst h3
  exact ⟨_, h1, x, C, dx, fs, rfl, w.o _ _ ho, c, n, hl, k v B' _ e dv ⟨w.mut ho, s.s.ex e⟩⟩
theorem q_fld (c : Cls K C) (n : NoAttr K C f) (s : Sta K B O G σ H) (hg : G[i]? = some (.val (.ref x))) (ho : O x = some (.ins C dx fs)) (hl : fs.length < 1000) (h : EvD K B O G te d)
    (k : ∀ v B' H', Ex B B' → Dt K B' v d → Sta K B' (upd O x (.ins C dx (putF f v fs))) G σ H' → tz D σ H') : tSeq (sFld K (tVar i) te f) tz D σ H := s_fld (D := { D with nx := tz D }) c n s hg ho hl h k
/-- self.f, self owned -/
theorem ev_fldO (c : Cls K C) (n : NoAttr K C f) (hg : G[i]? = some (.val (.ref x))) (ho : O x = some (.ins C dx fs)) (hf : fs.lookup f = some v) (hd : Dt K B v d) : EvD K B O G (tFld K (tVar i) f) d := fun B1 O1 σ H e o s Q q => by
  obtain ⟨sv, h1, h2⟩ := s.s.get hg
  have h3 : sv = some (.ref x) := h2
  subst h3
  exact ⟨_, h1, x, C, dx, fs, v, rfl, s.w.o _ _ (o _ _ ho), c, n, hf, q v B1 H (Ex.refl _) s.w (dp_ex e _ _ hd)⟩
/-- e.f, e a value of which B says that it is an instance with that field -/
theorem ev_fld {P : Hp → V → Prop} (c : Cls K C) (n : NoAttr K C f) (h : EvP K B O G te P) (hp : ∀ B1 v, Ex B B1 → P B1 v → ∃ x dx fs u, v = .ref x ∧ B1 x = some (.ins C dx fs) ∧ fs.lookup f = some u ∧ Dt K B1 u d) : EvD K B O G (tFld K te f) d := fun B1 O1 σ H e o s Q q =>
  h B1 O1 σ H e o s _ fun v B2 H2 e2 w2 p => by
    obtain ⟨x, dx, fs, u, rfl, h1, h2, h3⟩ := hp B2 v (e.trans e2) p
    exact ⟨x, C, dx, fs, u, rfl, w2.b _ _ h1, c, n, h2, q u B2 H2 e2 w2 h3⟩
theorem evP_var {P : Hp → V → Prop} (hg : G[i]? = some (.val v)) (hp : ∀ B1, Ex B B1 → P B1 v) : EvP K B O G (tVar i) P := fun B1 O1 σ H e o s Q q => by
  obtain ⟨sv, h1, h2⟩ := s.s.get hg
  have h3 : sv = some v := h2
  subst h3
  exact ⟨_, h1, q v B1 H (Ex.refl _) s.w (hp B1 e)⟩
theorem EvP.ex {P : Hp → V → Prop} (h : EvP K B O G te P) (e : Ex B B') : EvP K B' O G te P := fun B1 O1 σ H e1 o s Q q => h B1 O1 σ H (e.trans e1) o s Q q
end
/-- a set of lengths as it is kept -/
structure LS where
  period : Nat
  cycle : List Bool
  start : Nat
  marks : List Bool
abbrev blist (bs : List Bool) : List PyData := bs.map .bool
/-- v is an instance of the class at C that keeps L -/
def IsLS (K : PySem.W.Frag) (C : Addr) (L : LS) (B : Hp) (v : V) : Prop := ∃ x dx fs cv mv, v = .ref x ∧ B x = some (.ins C dx fs) ∧ fs.lookup ("period" : Str) = some (.int L.period) ∧ fs.lookup ("cycle" : Str) = some cv ∧ Dt K B cv (.tuple (blist L.cycle)) ∧
  fs.lookup ("start" : Str) = some (.int L.start) ∧ fs.lookup ("marks" : Str) = some mv ∧ Dt K B mv (.tuple (blist L.marks))
theorem IsLS.ex {K : PySem.W.Frag} {C : Addr} {L : LS} {B B' : Hp} {v : V} (h : IsLS K C L B v) (e : Ex B B') : IsLS K C L B' v := by
  obtain ⟨x, dx, fs, cv, mv, h1, h2, h3, h4, h5, h6, h7, h8⟩ := h
  exact ⟨x, dx, fs, cv, mv, h1, e _ _ h2, h3, h4, dp_ex e _ _ h5, h6, h7, dp_ex e _ _ h8⟩
end DL

set_option Elab.async false
set_option linter.all false
set_option maxRecDepth 100000
set_option maxHeartbeats 4000000
namespace Toy
open PySem PySem.Spec PyProof.Rows L2 StX DL


def clsS (i j : Nat) : Stmt := match topS i with
  | .ClassDef _ _ _ body _ _ _ _ _ _ _ => body.getD j (.Pass ⟨0, 0, 0, 0⟩)
  | _ => .Pass ⟨0, 0, 0, 0⟩
abbrev s_NoSet_init : Stmt := clsS 3 0
abbrev N_sc_NoSet_init : List Str := ["self", "place"]
theorem sc_NoSet_init : FnScope N_sc_NoSet_init ["self", "place"] (defScope s_NoSet_init) := ⟨rfl, rfl, rfl, by decide +kernel, rfl, by decide +kernel, by decide +kernel⟩
abbrev s_TooLarge_init : Stmt := clsS 4 0
abbrev N_sc_TooLarge_init : List Str := ["self", "limit"]
theorem sc_TooLarge_init : FnScope N_sc_TooLarge_init ["self", "limit"] (defScope s_TooLarge_init) := ⟨rfl, rfl, rfl, by decide +kernel, rfl, by decide +kernel, by decide +kernel⟩
abbrev s_LengthSet_init : Stmt := clsS 23 0
abbrev N_sc_LengthSet_init : List Str := ["self", "early", "start", "period", "rests", "cycle", "marks"]
theorem sc_LengthSet_init : FnScope N_sc_LengthSet_init ["self", "early", "start", "period", "rests"] (defScope s_LengthSet_init) := ⟨rfl, rfl, rfl, by decide +kernel, rfl, by decide +kernel, by decide +kernel⟩
abbrev s_LengthSet_early : Stmt := clsS 23 1
abbrev N_sc_LengthSet_early : List Str := ["self", "number"]
theorem sc_LengthSet_early : FnScope N_sc_LengthSet_early ["self"] (defScope s_LengthSet_early) := ⟨rfl, rfl, rfl, by decide +kernel, rfl, by decide +kernel, by decide +kernel⟩
abbrev s_LengthSet_rests : Stmt := clsS 23 2
abbrev N_sc_LengthSet_rests : List Str := ["self", "rest"]
theorem sc_LengthSet_rests : FnScope N_sc_LengthSet_rests ["self"] (defScope s_LengthSet_rests) := ⟨rfl, rfl, rfl, by decide +kernel, rfl, by decide +kernel, by decide +kernel⟩
abbrev s_LengthSet_contains : Stmt := clsS 23 5
abbrev N_sc_LengthSet_contains : List Str := ["self", "x"]
theorem sc_LengthSet_contains : FnScope N_sc_LengthSet_contains ["self", "x"] (defScope s_LengthSet_contains) := ⟨rfl, rfl, rfl, by decide +kernel, rfl, by decide +kernel, by decide +kernel⟩
abbrev s_LengthSet_eq : Stmt := clsS 23 7
abbrev N_sc_LengthSet_eq : List Str := ["self", "other"]
theorem sc_LengthSet_eq : FnScope N_sc_LengthSet_eq ["self", "other"] (defScope s_LengthSet_eq) := ⟨rfl, rfl, rfl, by decide +kernel, rfl, by decide +kernel, by decide +kernel⟩

theorem pe_fldK (K : PySem.W.Frag) {X : Cx} {e : Expr} {f : Str} {pos : Pos} {ta : TE} (he : PE X e ta) (hb : attributeBase e f X.env (eval e X.env) = eval e X.env) (h : X.K = K := by rfl) : PE X (.Attribute e f pos) (tFld K ta f) := h ▸ pe_fld he hb
theorem ps_fldK (K : PySem.W.Frag) {X : Cx} {o value : Expr} {f : Str} {pos pos' : Pos} {ta tv : TE} (ha : PE X o ta) (hv : PE X value tv) (hs : swapsWith value (some (.Attribute o f pos')) pos.line X.env = pure false) (h : X.K = K := by rfl) : PS X (.Assign [.Attribute o f pos'] value pos) (sFld K ta tv f) := h ▸ ps_fld ha hv hs
/-- what the text says of the class -/
structure SetC (K : PySem.W.Frag) (mg : Str → Option Value) (C : Addr) : Prop where
  g : mg "LengthSet" = some (.ref C)
  cls : Cls K C
  nP : NoAttr K C "period"
  nC : NoAttr K C "cycle"
  nS : NoAttr K C "start"
  nM : NoAttr K C "marks"

section
variable {P : Program} {w : World} {K : PySem.W.Frag} {mg : Str → Option Value} {base : Heap}


/-- the set that is kept of such ints -/
def lsOf (es : List Int) (n : Int) (p : Int) (rs : List Int) : LS :=
  let cyc := marksOf rs p
  let mks := marksOf es n
  let per := leastP cyc
  let cy := cyc.take per
  let st := leastS mks cy mks.length
  ⟨per, cy, st, mks.take st⟩
/-- what stands of the four arguments, once they pass -/
structure Right (e s p r : PyData) (es : List Int) (n k : Int) (rs : List Int) : Prop where
  s : s = .int n ∧ 0 ≤ n ∧ n ≤ 5000
  p : p = .int k ∧ 1 ≤ k ∧ k ≤ 5000
  e : seqInts e es ∧ rowD (n - 1) e = true ∧ es.length ≤ 100000
  r : seqInts r rs ∧ rowD (k - 1) r = true ∧ rs.length ≤ 100000
/-- how the making ends -/
inductive MkOut where
  | ok (L : LS)
  | exc (C : Addr) (f : Str) (x : Str)
def intOf : PyData → Int
  | .int i => i
  | _ => 0
/-- the first thing that is wrong -/
def mkErr (CN CT : Addr) (e s p r : PyData) : Option (Addr × Str × Str) :=
  match sizeOut CN CT s 0 "start" with
  | .exc C f x => some (C, f, x)
  | .ret _ => match sizeOut CN CT p 1 "period" with
    | .exc C f x => some (C, f, x)
    | .ret _ => match numsOut CN e (intOf s) "early" with
      | .exc C f x => some (C, f, x)
      | .ret _ => match numsOut CN r (intOf p) "rests" with
        | .exc C f x => some (C, f, x)
        | .ret _ => none
inductive Makes (CN CT : Addr) (e s p r : PyData) : MkOut → Prop where
  | ok {es : List Int} {n k : Int} {rs : List Int} (h : Right e s p r es n k rs) : Makes CN CT e s p r (.ok (lsOf es n k rs))
  | exc {C : Addr} {f x : Str} (h : mkErr CN CT e s p r = some (C, f, x)) : Makes CN CT e s p r (.exc C f x)
def MkOk (K : PySem.W.Frag) (B O : Hp) (CS : Addr) (x : Addr) (Q : VK) (E : XK) : MkOut → Prop
  | .ok L => ∀ B' H', Ex B B' → W B' O H' → IsLS K CS L B' (.ref x) → Q .non H'
  | .exc C f y => ∀ p B' H', Ex B B' → W B' O H' → B' p = some (.xd [(f, .str y)]) → E (.ref C) (some p) H'
/-- LengthSet.__init__ -/
def SpInit (K : PySem.W.Frag) (CN CT CS : Addr) : Sp := fun vs H Q E => ∃ B O x dx ws e s p r o, vs = .ref x :: ws ∧ O x = none ∧ O dx = none ∧ dx ≠ x ∧ W B (upd (upd O dx (.own x)) x (.ins CS dx [])) H ∧ DtAll K B ws [e, s, p, r] ∧ Makes CN CT e s p r o ∧ MkOk K B O CS x Q E o
theorem marks_len {ns : List Int} {m : Int} : (marksOf ns m).length = m.toNat := by
  unfold marksOf
  rw [List.length_map, List.length_range]
theorem leastP_le {bs : List Bool} (h : 1 ≤ bs.length) : 1 ≤ leastP bs ∧ leastP bs ≤ bs.length := by
  unfold leastP
  cases hf : ((List.range (bs.length - 1)).map (· + 1)).find? (isPer bs) with
  | none => exact ⟨h, Nat.le_refl _⟩
  | some p =>
    have hm := List.mem_of_find?_eq_some hf
    obtain ⟨j, hj, rfl⟩ := List.mem_map.mp hm
    have := List.mem_range.mp hj
    simp
    omega
theorem leastS_le {ms cs : List Bool} : ∀ s, leastS ms cs s ≤ s
  | 0 => Nat.le_refl _
  | s + 1 => by
    rw [leastS]
    split
    · exact Nat.le_succ_of_le (leastS_le s)
    · exact Nat.le_refl _
theorem give_to {B O O1 H : Hp} {x : Addr} {u : HO} (w : W B O1 H) (h : O1 x = some u) (hs : ∀ a o, O a = some o → O1 a = some o) (hx : O x = none) : W (upd B x u) O H := by
  have w2 : W B (upd (Toy.del O1 x) x u) H := by
    rw [← upd_del h]
    exact w
  refine W.sub (W.give w2 Toy.del_same) fun a o e => ?_
  rw [Toy.del_ne (ne_of_none e hx)]
  exact hs a o e
theorem size_ret {CN CT : Addr} {x d : PyData} {lo : Int} {pl : Str} (h : sizeOut CN CT x lo pl = .ret d) : ∃ i, x = .int i ∧ lo ≤ i ∧ i ≤ 5000 := by
  unfold sizeOut at h
  split at h
  · split at h
    · rename_i h1 h2
      obtain ⟨z, rfl, a, b⟩ := from_int h2
      exact ⟨z, rfl, a, by simpa [under] using b⟩
    · cases h
  · cases h
theorem size_ok {CN CT : Addr} {i lo : Int} {pl : Str} (h1 : lo ≤ i) (h2 : i ≤ 5000) : sizeOut CN CT (.int i) lo pl = .ret .none := by
  unfold sizeOut
  rw [if_pos (by simp [inFrom, under, h1]), if_pos (by simp [inFrom, under, h1, h2])]
theorem nums_ok {CN : Addr} {x : PyData} {n : Int} {pl : Str} (h : rowD (n - 1) x = true) : numsOut CN x n pl = .ret .none := by
  unfold numsOut
  rw [if_pos h]
theorem ok_init {f CN CT CS : Addr} {fd : FuncData} {dvs : List V} (T : Txt K mg) (S : SetC K mg CS) (C_check_size : CalE P w K mg base 6 "check_size" ["number", "low", "place"] (SpE K (R_size CN CT))) (C_check_numbers : CalE P w K mg base 6 "check_numbers" ["numbers", "bound", "place"] (SpE K (R_nums CN)))
    (C_marks_for : Cal P w K mg base 2 "marks_for" ["numbers", "many"] (SpL K R_marks)) (C_least_period : Cal P w K mg base 2 "least_period" ["marks"] (SpR K R_lp)) (C_least_start : Cal P w K mg base 2 "least_start" ["marks", "cycle"] (SpR K R_ls))
    (F : FunD K "__init__" "LengthSet.__init__" (defArgs s_LengthSet_init) (defBody s_LengthSet_init) (defScope s_LengthSet_init) dvs [] f fd) : FnOk P w K mg base (L2.CX P w) 8 f fd ["self", "early", "start", "period", "rests"] (SpInit K CN CT CS) := by
  refine F.ok sc_LengthSet_init (fun vs H Q E h => ?_) (fun cdv A outer s H vs Q E hr h => ?_)
  · obtain ⟨B, O, x, dx, ws, e, s, p, r, o, rfl, _, _, _, _, h5, _⟩ := h
    rw [List.length_cons, dps_len h5]
    rfl
  obtain ⟨B, O, x, dx, ws, e, s, p, r, o, rfl, hx, hdx, hne, hw, hd, hm, q⟩ := h
  refine ⟨_, (pss_cons (ps_expr (pe_calE C_check_size hr (by omega) (by rfl) (takes_of rfl rfl rfl rfl) (pa_cons (pv 2) (pa_cons pe_int (pa_cons pe_str pa_nil)))))
    (pss_cons (ps_expr (pe_calE C_check_size hr (by omega) (by rfl) (takes_of rfl rfl rfl rfl) (pa_cons (pv 3) (pa_cons pe_int (pa_cons pe_str pa_nil)))))
    (pss_cons (ps_expr (pe_calE C_check_numbers hr (by omega) (by rfl) (takes_of rfl rfl rfl rfl) (pa_cons (pv 1) (pa_cons (pv 2) (pa_cons pe_str pa_nil)))))
    (pss_cons (ps_expr (pe_calE C_check_numbers hr (by omega) (by rfl) (takes_of rfl rfl rfl rfl) (pa_cons (pv 4) (pa_cons (pv 3) (pa_cons pe_str pa_nil)))))
    (pss_cons (ps_set (i := 5) sc_LengthSet_init.nd rfl (Or.inl rfl) (pe_cal C_marks_for hr (by omega) (by rfl) (pa_cons (pv 4) (pa_cons (pv 3) pa_nil))))
    (pss_cons (ps_set (i := 6) sc_LengthSet_init.nd rfl (Or.inl rfl) (pe_cal C_marks_for hr (by omega) (by rfl) (pa_cons (pv 1) (pa_cons (pv 2) pa_nil))))
    (pss_cons (ps_fldK K (pv 0) (pe_cal C_least_period hr (by omega) (by rfl) (pa_cons (pv 5) pa_nil)) (by rfl))
    (pss_cons (ps_fldK K (pv 0) (pe_callTy (call_tupleK K) (by rfl) T.b_tuple (by decide +kernel) (pa_cons (pe_slice (sl_listK K) (pv 5) po_none (po_some (pe_fldK K (pv 0) rfl))) pa_nil)) (by rfl))
    (pss_cons (ps_fldK K (pv 0) (pe_cal C_least_start hr (by omega) (by rfl) (pa_cons (pv 6) (pa_cons (pe_fldK K (pv 0) rfl) pa_nil))) (by rfl))
    (pss_one (ps_fldK K (pv 0) (pe_callTy (call_tupleK K) (by rfl) T.b_tuple (by decide +kernel) (pa_cons (pe_slice (sl_listK K) (pv 6) po_none (po_some (pe_fldK K (pv 0) rfl))) pa_nil)) (by rfl)))))))))))), ?_⟩
  cases hd with
  | cons d1 hd =>
  cases hd with
  | cons d2 hd =>
  cases hd with
  | cons d3 hd =>
  cases hd with
  | cons d4 hd =>
  cases hd
  have hOO : Ex O (upd (upd O dx (.own x)) x (.ins CS dx [])) := (Ex.new hdx).trans (Ex.new (by rw [upd_ne (fun z => hne z.symm)]; exact hx))
  have ox : (upd (upd O dx (.own x)) x (.ins CS dx [])) x = some (.ins CS dx []) := upd_same
  generalize hO : upd (upd O dx (.own x)) x (.ins CS dx []) = O1 at hw hOO ox
  have st : Sta K B O1 [.val (.ref x), .dat e, .dat s, .dat p, .dat r, .un, .un] (L2.start N_sc_LengthSet_init [.ref x, _, _, _, _]) H := ⟨hw, ⟨rfl, ⟨_, rfl, d1⟩, ⟨_, rfl, d2⟩, ⟨_, rfl, d3⟩, ⟨_, rfl, d4⟩, trivial, trivial, trivial⟩⟩
  have hdW : ∀ {B' H' : Hp}, W B' O1 H' → W B' O H' := fun w => W.sub w hOO
  cases hm with
  | exc he =>
    rename_i C1 f1 y1
    refine q_callE st (o := sizeOut CN CT s 0 "start") (ea_cons (ev_var rfl) (ea_cons ev_int (ea_cons ev_str ea_nil))) ⟨s, 0, "start", rfl, rfl⟩ (fun d hc B1 H1 x1 st => ?_) (fun C f y hc pp B1 H1 x1 w1 hp => by
      unfold mkErr at he
      rw [hc] at he
      cases he
      exact q pp B1 H1 x1 (hdW w1) hp)
    obtain ⟨n, rfl, n0, n1⟩ := size_ret hc
    refine q_callE st (o := sizeOut CN CT p 1 "period") (ea_cons (ev_var rfl) (ea_cons ev_int (ea_cons ev_str ea_nil))) ⟨p, 1, "period", rfl, rfl⟩ (fun d2 hc2 B2 H2 x2 st => ?_) (fun C f y hc2 pp B2 H2 x2 w2 hp => by
      unfold mkErr at he
      rw [hc] at he
      simp only at he
      rw [hc2] at he
      cases he
      exact q pp B2 H2 (x1.trans x2) (hdW w2) hp)
    obtain ⟨k, rfl, k0, k1⟩ := size_ret hc2
    refine q_callE st (o := numsOut CN e n "early") (ea_cons (ev_var rfl) (ea_cons (ev_var rfl) (ea_cons ev_str ea_nil))) ⟨e, n, "early", rfl, rfl⟩ (fun d3 hc3 B3 H3 x3 st => ?_) (fun C f y hc3 pp B3 H3 x3 w3 hp => by
      unfold mkErr at he
      rw [hc] at he
      simp only at he
      rw [hc2] at he
      simp only [intOf] at he
      rw [hc3] at he
      cases he
      exact q pp B3 H3 ((x1.trans x2).trans x3) (hdW w3) hp)
    refine q_callE st (o := numsOut CN r k "rests") (ea_cons (ev_var rfl) (ea_cons (ev_var rfl) (ea_cons ev_str ea_nil))) ⟨r, k, "rests", rfl, rfl⟩ (fun d4 hc4 B4 H4 x4 st => ?_) (fun C f y hc4 pp B4 H4 x4 w4 hp => by
      unfold mkErr at he
      rw [hc] at he
      simp only at he
      rw [hc2] at he
      simp only [intOf] at he
      rw [hc3] at he
      simp only at he
      rw [hc4] at he
      cases he
      exact q pp B4 H4 (((x1.trans x2).trans x3).trans x4) (hdW w4) hp)
    exfalso
    unfold mkErr at he
    rw [hc] at he
    simp only at he
    rw [hc2] at he
    simp only [intOf] at he
    rw [hc3] at he
    simp only at he
    rw [hc4] at he
    cases he
  | ok hg =>
    rename_i es n k rs
    obtain ⟨⟨rfl, n0, n1⟩, ⟨rfl, k0, k1⟩, ⟨he1, he2, he3⟩, ⟨hr1, hr2, hr3⟩⟩ := hg
    refine q_callE st (o := .ret .none) (ea_cons (ev_var rfl) (ea_cons ev_int (ea_cons ev_str ea_nil))) ⟨_, 0, "start", rfl, (size_ok n0 n1).symm⟩ (fun d hc B1 H1 x1 st => ?_) (fun C f y hc => by cases hc)
    refine q_callE st (o := .ret .none) (ea_cons (ev_var rfl) (ea_cons ev_int (ea_cons ev_str ea_nil))) ⟨_, 1, "period", rfl, (size_ok k0 k1).symm⟩ (fun d hc B2 H2 x2 st => ?_) (fun C f y hc => by cases hc)
    refine q_callE st (o := .ret .none) (ea_cons (ev_var rfl) (ea_cons (ev_var rfl) (ea_cons ev_str ea_nil))) ⟨_, n, "early", rfl, (nums_ok he2).symm⟩ (fun d hc B3 H3 x3 st => ?_) (fun C f y hc => by cases hc)
    refine q_callE st (o := .ret .none) (ea_cons (ev_var rfl) (ea_cons (ev_var rfl) (ea_cons ev_str ea_nil))) ⟨_, k, "rests", rfl, (nums_ok hr2).symm⟩ (fun d hc B4 H4 x4 st => ?_) (fun C f y hc => by cases hc)
    refine q_asg st (EvL.d (el_call (ea_cons (ev_var rfl) (ea_cons (ev_var rfl) ea_nil)) ⟨r, rs, k, hr1, hr3, by omega, k1, rfl, rfl⟩)) fun v5 B5 H5 x5 d5 st => ?_
    refine q_asg st (EvL.d (el_call (ea_cons (ev_var rfl) (ea_cons (ev_var rfl) ea_nil)) ⟨e, es, n, he1, he3, by omega, n1, rfl, rfl⟩)) fun v6 B6 H6 x6 d6 st => ?_
    have lc : (marksOf rs k).length = k.toNat := marks_len
    have lm : (marksOf es n).length = n.toNat := marks_len
    have lp := leastP_le (bs := marksOf rs k) (by omega)
    refine q_fld S.cls S.nP st rfl ox (by decide) (ev_call (ea_cons (ev_var rfl) ea_nil) ⟨marksOf rs k, by omega, by omega, rfl, rfl⟩) fun v7 B7 H7 x7 d7 st => ?_
    have e7 := dp_int d7
    subst e7
    have l7 : (putF ("period" : Str) (V.int (leastP (marksOf rs k) : Nat)) []).length ≤ 1 := length_putF _ _ _
    refine q_fld S.cls S.nC st rfl upd_same (by omega) (ev_cb (ea_cons (ev_is (ev_slL (ev_var rfl) eo_none (eo_some (ev_fldO S.cls S.nP rfl upd_same (by rw [lookup_putF, if_pos rfl]) (.int _)))) (by rw [cut_bools])) ea_nil) rc_tupL) fun v8 B8 H8 x8 d8 st => ?_
    have l8 := length_putF ("cycle" : Str) v8 (putF ("period" : Str) (V.int (leastP (marksOf rs k) : Nat)) [])
    have lk : ((marksOf rs k).take (leastP (marksOf rs k))).length = leastP (marksOf rs k) := by
      rw [List.length_take]
      omega
    refine q_fld S.cls S.nS st rfl upd_same (by omega) (ev_call (ea_cons (ev_var rfl) (ea_cons (ev_fldO S.cls S.nC rfl upd_same (by rw [lookup_putF, if_pos rfl]) d8) ea_nil)) ⟨marksOf es n, (marksOf rs k).take (leastP (marksOf rs k)), by omega, by omega, by omega, rfl, rfl⟩) fun v9 B9 H9 x9 d9 st => ?_
    have e9 := dp_int d9
    subst e9
    have l9 := length_putF ("start" : Str) (V.int (leastS (marksOf es n) ((marksOf rs k).take (leastP (marksOf rs k))) (marksOf es n).length : Nat)) (putF ("cycle" : Str) v8 (putF ("period" : Str) (V.int (leastP (marksOf rs k) : Nat)) []))
    refine s_fld S.cls S.nM st rfl upd_same (by omega) (ev_cb (ea_cons (ev_is (ev_slL (ev_var rfl) eo_none (eo_some (ev_fldO S.cls S.nS rfl upd_same (by rw [lookup_putF, if_pos rfl]) (.int _)))) (by rw [cut_bools])) ea_nil) rc_tupL) fun v10 B10 H10 x10 d10 st => ?_
    have hb := st.w.bnone upd_same
    have w2 := give_to (O := O) st.w upd_same (fun a o e => by
      have ha : a ≠ x := ne_of_none e hx
      rw [upd_ne ha, upd_ne ha, upd_ne ha, upd_ne ha]
      exact hOO a o e) hx
    have xx := ((((((((x1.trans x2).trans x3).trans x4).trans x5).trans x6).trans x7).trans x8).trans x9).trans x10
    have xn := Ex.new (o := .ins CS dx (putF ("marks" : Str) v10 (putF ("start" : Str) (V.int (leastS (marksOf es n) ((marksOf rs k).take (leastP (marksOf rs k))) (marksOf es n).length : Nat)) (putF ("cycle" : Str) v8 (putF ("period" : Str) (V.int (leastP (marksOf rs k) : Nat)) []))))) hb
    refine q _ H10 (xx.trans xn) w2 ⟨x, dx, _, v8, v10, rfl, upd_same, ?_, ?_, dp_ex ((x9.trans x10).trans xn) _ _ d8, ?_, ?_, dp_ex xn _ _ d10⟩
    · rw [lookup_putF, if_neg (by decide), lookup_putF, if_neg (by decide), lookup_putF, if_neg (by decide), lookup_putF, if_pos rfl]
      rfl
    · rw [lookup_putF, if_neg (by decide), lookup_putF, if_neg (by decide), lookup_putF, if_pos rfl]
    · rw [lookup_putF, if_neg (by decide), lookup_putF, if_pos rfl]
      rfl
    · rw [lookup_putF, if_pos rfl]

end
end Toy
set_option Elab.async false
set_option linter.all false
set_option maxRecDepth 100000
set_option maxHeartbeats 4000000
namespace Toy
open PySem PySem.Spec PyProof.Rows L2 StX DL


theorem lay_boolsT {bs : List Bool} : PT.Lay 1 (.tuple (bools bs)) := by
  refine PT.lay_tup (n := 0) fun d hd => ?_
  obtain ⟨b, _, rfl⟩ := List.mem_map.mp hd
  exact PT.lay_good (by simp [PT.good, flatD, SeqAt.shaped, PyData.canLay0, PyData.depth])
theorem eqv_boolsT {a b : List Bool} : PyData.eqv (.tuple (bools a)) (.tuple (bools b)) = decide (a = b) := by
  have h := eqv_bools (a := a) (b := b)
  simpa [PyData.eqv] using h
/-- what isinstance asks of the class -/
structure SetI (K : PySem.W.Frag) (C : Addr) : Prop where
  ca : PySem.W.findIn K (.ref C) "__class__" = some (some (.builtin "object.__class__"))
  cn : PySem.W.specialIn K (.builtin "object.__class__") "__get__" = some (some (.builtin "getset_descriptor.__get__"))
  ct : PySem.W.takesIn K (.builtin "object.__class__") = some true
  cm : PySem.W.mroIn K C (.type "object") = some true
structure LOk (L : LS) : Prop where
  c : L.cycle.length = L.period
  p : 1 ≤ L.period ∧ L.period ≤ 5000
  m : L.marks.length = L.start
  s : L.start ≤ 5000
/-- the places of the marks -/
def idx (bs : List Bool) : List Int := ((List.range bs.length).filter fun i => bs.getD i false).map fun (i : Nat) => (i : Int)
def hasL (L : LS) (d : PyData) : Bool := match d with
  | .int i => if i < 0 then false else if i < L.start then L.marks.getD i.toNat false else L.cycle.getD (i.toNat % L.period) false
  | _ => false
theorem hasL_not {L : LS} {d : PyData} (h : inFrom d 0 none = false) : hasL L d = false := by
  cases d with
  | int i =>
    have : ¬ 0 ≤ i := by simpa [inFrom, under] using h
    show (if i < 0 then false else _) = false
    rw [if_pos (by omega)]
  | none => rfl
  | bool => rfl
  | str => rfl
  | list => rfl
  | tuple => rfl
  | dict => rfl
def SpIdx (K : PySem.W.Frag) (C : Addr) (fld : LS → List Bool) : Sp := fun vs H Q _ => ∃ B O v L, vs = [v] ∧ W B O H ∧ IsLS K C L B v ∧ LOk L ∧ ∀ p ws B' H', Ex B B' → O p = none → W B' (upd O p (.lst ws)) H' → DtAll K B' ws (whole_list (idx (fld L))) → Q (.ref p) H'
def SpHas (K : PySem.W.Frag) (C : Addr) : Sp := fun vs H Q _ => ∃ B O v u L d, vs = [v, u] ∧ W B O H ∧ IsLS K C L B v ∧ LOk L ∧ Dt K B u d ∧ ∀ B' H', Ex B B' → W B' O H' → Q (.bl (hasL L d)) H'
def SpEqL (K : PySem.W.Frag) (C : Addr) : Sp := fun vs H Q _ => ∃ B O v u L M, vs = [v, u] ∧ W B O H ∧ IsLS K C L B v ∧ IsLS K C M B u ∧ ∀ B' H', Ex B B' → W B' O H' → Q (.bl (decide (L.marks = M.marks) && decide (L.cycle = M.cycle))) H'

section
variable {P : Program} {w : World} {K : PySem.W.Frag} {mg : Str → Option Value} {base : Heap}


section
variable {B O : Hp} {G : List SD} {te : TE} {C : Addr} {L : LS}
theorem f_period (S : SetC K mg C) (h : EvP K B O G te (IsLS K C L)) : EvD K B O G (tFld K te "period") (.int (L.period : Int)) := ev_fld S.cls S.nP h fun B1 v _ ⟨x, dx, fs, cv, mv, h1, h2, h3, _⟩ => ⟨x, dx, fs, _, h1, h2, h3, .int _⟩
theorem f_cycle (S : SetC K mg C) (h : EvP K B O G te (IsLS K C L)) : EvD K B O G (tFld K te "cycle") (.tuple (bools L.cycle)) := ev_fld S.cls S.nC h fun B1 v _ ⟨x, dx, fs, cv, mv, h1, h2, _, h4, h5, _⟩ => ⟨x, dx, fs, _, h1, h2, h4, h5⟩
theorem f_start (S : SetC K mg C) (h : EvP K B O G te (IsLS K C L)) : EvD K B O G (tFld K te "start") (.int (L.start : Int)) := ev_fld S.cls S.nS h fun B1 v _ ⟨x, dx, fs, cv, mv, h1, h2, _, _, _, h6, _⟩ => ⟨x, dx, fs, _, h1, h2, h6, .int _⟩
theorem f_marks (S : SetC K mg C) (h : EvP K B O G te (IsLS K C L)) : EvD K B O G (tFld K te "marks") (.tuple (bools L.marks)) := ev_fld S.cls S.nM h fun B1 v _ ⟨x, dx, fs, cv, mv, h1, h2, _, _, _, _, h7, h8⟩ => ⟨x, dx, fs, _, h1, h2, h7, h8⟩
theorem ev_ls {i : Nat} {v : V} (hg : G[i]? = some (.val v)) (h : IsLS K C L B v) : EvP K B O G (tVar i) (IsLS K C L) := evP_var hg fun B1 e => h.ex e
end
theorem ok_early {f CS : Addr} {fd : FuncData} (T : Txt K mg) (S : SetC K mg CS) (F : Fun K "early" "LengthSet.early" s_LengthSet_early f fd) : FnOk P w K mg base CX0 2 f fd ["self"] (SpIdx K CS (·.marks)) := by
  refine F.ok sc_LengthSet_early (fun vs H Q E h => ?_) (fun cdv A outer s H vs Q E hr h => ?_)
  · obtain ⟨B, O, v, L, rfl, _⟩ := h
    rfl
  · obtain ⟨B, O, v, L, rfl, hw, hL, ok, q⟩ := h
    refine ⟨_, (pss_one (ps_ret (pe_lc (own := [("number", 1)]) (by rfl) sc_LengthSet_early.nd (pi_range1 (by rfl) T.b_range (pa_cons (pe_fldK K (pv 0) rfl) pa_nil)) (blkOk_by (own := [("number", 1)]) (N := N_sc_LengthSet_early) (sc := defScope s_LengthSet_early) (by decide +kernel)) (fun _ _ _ _ _ => (pg_name (i := 1) sc_LengthSet_early.nd rfl (Or.inl rfl))) (fun _ _ _ _ _ => (pts_one (pt_val (pe_ix (ix_tupK K) (pe_fldK K (pv 0) rfl) (pv 1) (fun _ _ => rfl))))) (fun _ _ _ _ _ => (pv 1))))), ?_⟩
    have st : Sta K B O [.val v, .un] (L2.start N_sc_LengthSet_early [v]) H := ⟨hw, ⟨rfl, trivial, trivial⟩⟩
    refine s_retL st (el_lcT (List.range L.start) (fun i => .int (i : Int)) (fun i => L.marks.getD i false) (fun i => .int (i : Int)) (fun i => _) ?_ (by rw [List.length_range]; have := ok.s; omega) (fun i _ => eg_nameW (by decide)) (fun i hi => et_test (ev_op (f_marks S (ev_ls rfl hL)) (ev_var rfl) (rd_ixT (at_bools (by rw [ok.m]; exact List.mem_range.mp hi))))) (fun i _ _ => ev_var rfl)) fun p ws B' H' x n w d => ?_
    · have e : rangeD 0 ((L.start : Int)).toNat = (List.range L.start).map fun (i : Nat) => PyData.int (i : Int) := by
        unfold rangeD
        rw [show ((L.start : Int)).toNat = L.start from rfl]
        refine List.map_congr_left fun i _ => ?_
        rw [show (0 : Int) + (i : Int) = i by omega]
      rw [← e]
      exact ei_range1 (ea_cons (f_start S (ev_ls rfl hL)) ea_nil) (by have := ok.s; omega)
    · refine q p ws B' H' x n w ?_
      show DtAll K B' ws (whole_list (idx L.marks))
      unfold idx whole_list
      rw [ok.m, List.map_map]
      exact d
theorem ok_rests {f CS : Addr} {fd : FuncData} (T : Txt K mg) (S : SetC K mg CS) (F : Fun K "rests" "LengthSet.rests" s_LengthSet_rests f fd) : FnOk P w K mg base CX0 2 f fd ["self"] (SpIdx K CS (·.cycle)) := by
  refine F.ok sc_LengthSet_rests (fun vs H Q E h => ?_) (fun cdv A outer s H vs Q E hr h => ?_)
  · obtain ⟨B, O, v, L, rfl, _⟩ := h
    rfl
  · obtain ⟨B, O, v, L, rfl, hw, hL, ok, q⟩ := h
    refine ⟨_, (pss_one (ps_ret (pe_lc (own := [("rest", 1)]) (by rfl) sc_LengthSet_rests.nd (pi_range1 (by rfl) T.b_range (pa_cons (pe_fldK K (pv 0) rfl) pa_nil)) (blkOk_by (own := [("rest", 1)]) (N := N_sc_LengthSet_rests) (sc := defScope s_LengthSet_rests) (by decide +kernel)) (fun _ _ _ _ _ => (pg_name (i := 1) sc_LengthSet_rests.nd rfl (Or.inl rfl))) (fun _ _ _ _ _ => (pts_one (pt_val (pe_ix (ix_tupK K) (pe_fldK K (pv 0) rfl) (pv 1) (fun _ _ => rfl))))) (fun _ _ _ _ _ => (pv 1))))), ?_⟩
    have st : Sta K B O [.val v, .un] (L2.start N_sc_LengthSet_rests [v]) H := ⟨hw, ⟨rfl, trivial, trivial⟩⟩
    refine s_retL st (el_lcT (List.range L.period) (fun i => .int (i : Int)) (fun i => L.cycle.getD i false) (fun i => .int (i : Int)) (fun i => _) ?_ (by rw [List.length_range]; have := ok.p; omega) (fun i _ => eg_nameW (by decide)) (fun i hi => et_test (ev_op (f_cycle S (ev_ls rfl hL)) (ev_var rfl) (rd_ixT (at_bools (by rw [ok.c]; exact List.mem_range.mp hi))))) (fun i _ _ => ev_var rfl)) fun p ws B' H' x n w d => ?_
    · have e : rangeD 0 ((L.period : Int)).toNat = (List.range L.period).map fun (i : Nat) => PyData.int (i : Int) := by
        unfold rangeD
        rw [show ((L.period : Int)).toNat = L.period from rfl]
        refine List.map_congr_left fun i _ => ?_
        rw [show (0 : Int) + (i : Int) = i by omega]
      rw [← e]
      exact ei_range1 (ea_cons (f_period S (ev_ls rfl hL)) ea_nil) (by have := ok.p; omega)
    · refine q p ws B' H' x n w ?_
      show DtAll K B' ws (whole_list (idx L.cycle))
      unfold idx whole_list
      rw [ok.c, List.map_map]
      exact d
theorem ok_has {f CS : Addr} {fd : FuncData} (T : Txt K mg) (S : SetC K mg CS) (C_is_from : CalFrom P w K mg base) (F : Fun K "__contains__" "LengthSet.__contains__" s_LengthSet_contains f fd) : FnOk P w K mg base CX0 6 f fd ["self", "x"] (SpHas K CS) := by
  refine F.ok sc_LengthSet_contains (fun vs H Q E h => ?_) (fun cdv A outer s H vs Q E hr h => ?_)
  · obtain ⟨B, O, v, u, L, d, rfl, _⟩ := h
    rfl
  · obtain ⟨B, O, v, u, L, d, rfl, hw, hL, ok, du, q⟩ := h
    refine ⟨_, (pss_cons (ps_if (pt_not (pt_val (pe_calD C_is_from hr (by omega) (by rfl) (pa_cons (pv 1) (pa_cons pe_int pa_nil))))) (pss_one (ps_ret pe_bl)) pss_nil)
    (pss_cons (ps_if (pt_cmpR op_lt (pv 1) (pe_fldK K (pv 0) rfl) (nomark _)) (pss_one (ps_ret (pe_ix (ix_tupK K) (pe_fldK K (pv 0) rfl) (pv 1) (fun _ _ => rfl)))) pss_nil)
    (pss_one (ps_ret (pe_ix (ix_tupK K) (pe_fldK K (pv 0) rfl) (pe_op op_mod (pv 1) (pe_fldK K (pv 0) rfl)) (fun _ _ => rfl)))))), ?_⟩
    have st : Sta K B O [.val v, .dat d] (L2.start N_sc_LengthSet_contains [v, u]) H := ⟨hw, ⟨rfl, ⟨_, rfl, du⟩, trivial⟩⟩
    refine q_when st (b := !inFrom d 0 none) (et_not (et_test (ev_callD (es := [.none]) (ea_cons (ev_var rfl) (ea_cons ev_int ea_nil)) (fun _ => dps_one .non) ⟨d, 0, none, rfl, rfl⟩))) (fun h1 B1 H1 x1 st => ?_) (fun h1 B1 H1 x1 st => ?_)
    · have h1' : inFrom d 0 none = false := by simpa using h1
      refine s_ret st ev_bl fun v2 B2 H2 x2 w2 d2 => ?_
      rw [dp_bool d2]
      rw [hasL_not h1'] at q
      exact q B2 H2 (x1.trans x2) w2
    · have h1' : inFrom d 0 none = true := by simpa using h1
      obtain ⟨i, rfl, hi, _⟩ := from_int h1'
      have hL1 := hL.ex x1
      have ei : ((i.toNat : Nat) : Int) = i := by omega
      have hn : ¬ i < 0 := by omega
      refine q_when st (et_test (ev_op (ev_var rfl) (f_start S (ev_ls rfl hL1)) rd_B0)) (fun h2 B2 H2 x2 st => ?_) (fun h2 B2 H2 x2 st => ?_)
      · have h2' : i < L.start := by simpa using h2
        have key : hasL L (.int i) = L.marks.getD i.toNat false := by
          show (if i < 0 then false else if i < L.start then _ else _) = _
          rw [if_neg hn, if_pos h2']
        rw [key] at q
        refine s_ret st (ev_op (f_marks S (ev_ls rfl (hL1.ex x2))) (ev_var rfl) (rd_ixT (d := .bool (L.marks.getD i.toNat false)) (by have h := at_bools (bs := L.marks) (i := i.toNat) (by rw [ok.m]; omega); rwa [ei] at h))) fun v3 B3 H3 x3 w3 d3 => ?_
        rw [dp_bool d3]
        exact q B3 H3 ((x1.trans x2).trans x3) w3
      · have h2' : ¬ i < L.start := by simpa using h2
        have key : hasL L (.int i) = L.cycle.getD (i.toNat % L.period) false := by
          show (if i < 0 then false else if i < L.start then _ else _) = _
          rw [if_neg hn, if_neg h2']
        rw [key] at q
        have hp := ok.p
        have em : i % (L.period : Int) = ((i.toNat % L.period : Nat) : Int) := by rw [Int.natCast_emod, ei]
        have hlt : i.toNat % L.period < L.cycle.length := by rw [ok.c]; exact Nat.mod_lt _ (by omega)
        refine s_ret st (ev_op (f_cycle S (ev_ls rfl (hL1.ex x2))) (ev_is (ev_op (ev_var rfl) (f_period S (ev_ls rfl (hL1.ex x2))) (rd_I (by omega))) (by rw [em])) (rd_ixT (at_bools hlt))) fun v3 B3 H3 x3 w3 d3 => ?_
        rw [dp_bool d3]
        exact q B3 H3 ((x1.trans x2).trans x3) w3
theorem ev_isiOwn {B O : Hp} {G : List SD} {te : TE} {C : Addr} {L : LS} (S : SetC K mg C) (I : SetI K C) (h : EvP K B O G te (IsLS K C L)) : EvD K B O G (tCB (rIsi K) (tCons te (tCons (tC (.ref C)) tNil))) (.bool true) := fun B1 O1 σ H e1 o s Q q =>
  h B1 O1 σ H e1 o s _ fun v B2 H2 e2 w2 ⟨x, dx, fs, cv, mv, ev, h2, _⟩ => by
    subst ev
    refine ⟨.ref x, .ref C, .ref C, .ref C, true, rfl, .own C, .base (.ins (w2.b _ _ h2) S.cls I.ca I.cn I.ct I.cm), ?_, q _ B2 H2 e2 w2 (.bl true)⟩
    unfold PySem.W.kitOne
    simp
theorem ok_eq {f CS : Addr} {fd : FuncData} (T : Txt K mg) (S : SetC K mg CS) (I : SetI K CS) (F : Fun K "__eq__" "LengthSet.__eq__" s_LengthSet_eq f fd) : FnOk P w K mg base CX0 2 f fd ["self", "other"] (SpEqL K CS) := by
  refine F.ok sc_LengthSet_eq (fun vs H Q E h => ?_) (fun cdv A outer s H vs Q E hr h => ?_)
  · obtain ⟨B, O, v, u, L, M, rfl, _⟩ := h
    rfl
  · obtain ⟨B, O, v, u, L, M, rfl, hw, hL, hM, q⟩ := h
    refine ⟨_, (pss_one (ps_ret (pe_and (pe_callB (call_isiK' K) (by rfl) T.b_isinstance (by decide +kernel) (pa_cons (pv 1) (pa_cons (pe_glob (v := .ref CS) (by rfl) S.g rfl) pa_nil))) (pe_and (pe_cmpR (op_eqDK K hr.units) (pe_fldK K (pv 0) rfl) (pe_fldK K (pv 1) rfl) (nomark _)) (pe_one (pe_cmpR (op_eqDK K hr.units) (pe_fldK K (pv 0) rfl) (pe_fldK K (pv 1) rfl) (nomark _))))))), ?_⟩
    have st : Sta K B O [.val v, .val u] (L2.start N_sc_LengthSet_eq [v, u]) H := ⟨hw, ⟨rfl, rfl, trivial⟩⟩
    refine s_ret st (ev_andV (a := true) (b := decide (L.marks = M.marks) && decide (L.cycle = M.cycle)) (ev_isiOwn S I (ev_ls rfl hM)) fun _ => ev_andV (ev_op (f_marks S (ev_ls rfl hL)) (f_marks S (ev_ls rfl hM)) (rd_eq (lay_boolsT.sh (by decide)) (lay_boolsT.sh (by decide)) eqv_boolsT)) fun _ => ev_op (f_cycle S (ev_ls rfl hL)) (f_cycle S (ev_ls rfl hM)) (rd_eq (lay_boolsT.sh (by decide)) (lay_boolsT.sh (by decide)) eqv_boolsT)) fun v2 B2 H2 x2 w2 d2 => ?_
    have e := dp_bool d2
    rw [e, Bool.true_and]
    exact q B2 H2 x2 w2

end
end Toy
set_option Elab.async false
set_option linter.all false
set_option maxRecDepth 100000
set_option maxHeartbeats 4000000
namespace Toy
open PySem PySem.Spec PyProof.Rows L2 StX DL


theorem pg_or {X : Cx} {tg : Expr} {g1 g2 : TG} (h1 : PG X tg g1) (h2 : PG X tg g2) : PG X tg (fun v σ H Q => g1 v σ H Q ∨ g2 v σ H Q) := ⟨fun pins s σ H v u Q I r h => h.elim (h1.run pins s σ H v u Q I r) (h2.run pins s σ H v u Q I r)⟩
theorem pg_lstK (K : PySem.W.Frag) {X : Cx} {es : List Expr} {t : TGs} {kk n : Nat} {pos : Pos} (hc : X.calm = true) (hts : PGs X es t) (h : X.K = K := by rfl) (hn : (assignEach es X.env).length = n := by rfl) (hst : (assignEach es X.env).findIdx? (·.1) = none := by rfl) :
    PG X (.Tuple es kk pos) (gLst K n t) := h ▸ pg_lst hc hts hn hst
/-- four data, unpacked from a tuple or a list -/
abbrev g4 (K : PySem.W.Frag) (a b c d : Nat) : TG := fun v σ H Q => gTup K 4 (gCons (gName a) (gCons (gName b) (gCons (gName c) (gCons (gName d) gNil)))) v σ H Q ∨ gLst K 4 (gCons (gName a) (gCons (gName b) (gCons (gName c) (gCons (gName d) gNil)))) v σ H Q
theorem q_four {K : PySem.W.Frag} {B O : Hp} {G : List SD} {σ : L2.St} {H : Hp} {te : TE} {tz : TS} {D : Ends} {x : PyData} {e s p r : PyData} {a b c d : Nat} (st : Sta K B O G σ H) (h : EvD K B O G te x) (hx : x = .tuple [e, s, p, r] ∨ x = .list [e, s, p, r])
    (k : ∀ σ' B' H', Ex B B' → Sta K B' O ((((G.set a (.dat e)).set b (.dat s)).set c (.dat p)).set d (.dat r)) σ' H' → tz D σ' H') : tSeq (tAsg te (g4 K a b c d)) tz D σ H :=
  h B O σ H (Ex.refl _) (Ex.refl _) st _ fun v B' H' x1 w dv => by
    have fin : ∀ xs : List V, DtAll K B' xs [e, s, p, r] → xs.length = 4 ∧ gCons (gName a) (gCons (gName b) (gCons (gName c) (gCons (gName d) gNil))) xs σ H' (fun σ2 H2 => tz D σ2 H2) := by
      intro xs hxs
      cases hxs with
      | cons h1 hxs =>
      cases hxs with
      | cons h2 hxs =>
      cases hxs with
      | cons h3 hxs =>
      cases hxs with
      | cons h4 hxs =>
      cases hxs
      exact ⟨rfl, _, _, rfl, _, _, rfl, _, _, rfl, _, _, rfl, rfl, k _ B' H' x1 (((((st.ex x1 w).set a h1).set b h2).set c h3).set d h4)⟩
    rcases hx with rfl | rfl
    · obtain ⟨q, xs, rfl, h1, h2⟩ := dp_tup dv
      obtain ⟨f1, f2⟩ := fin xs h2
      exact .inl ⟨q, xs, rfl, st_ex w.b h1, f1, f2⟩
    · obtain ⟨q, xs, rfl, h1, h2⟩ := dp_lst dv
      obtain ⟨f1, f2⟩ := fin xs h2
      exact .inr ⟨q, xs, rfl, .inl (.inl (w.b _ _ h1)), f1, f2⟩
/-- rises, and is a list -/
def rowL (size : Int) (d : PyData) : Bool := match d with
  | .list ds => risesD 0 (size - 1) ds
  | _ => false
/-- what the law says is wrong -/
def wrongD (e s p r : PyData) : PyData :=
  if !inFrom s 0 none then .tuple [.str "set", .str "start"] else if decide (5000 < intOf s) then .tuple [.str "large", .str "start"] else
  if !inFrom p 1 none then .tuple [.str "set", .str "period"] else if decide (5000 < intOf p) then .tuple [.str "large", .str "period"] else
  if !rowL (intOf s) e then .tuple [.str "set", .str "early"] else if !rowL (intOf p) r then .tuple [.str "set", .str "rests"] else .none

section
variable {P : Program} {w : World} {K : PySem.W.Frag} {mg : Str → Option Value} {base : Heap}


def R_whole (ds : List PyData) (d : PyData) : Prop := ∃ x lo, ds = [x, .int lo] ∧ d = .bool (inFrom x lo none)
theorem ok_law_whole {f : Addr} {fd : FuncData} (T : Txt K mg) (a : At K mg "_law_whole" s_law_whole ["thing", "least"] f fd) : FnOk P w K mg base CX0 2 f fd ["thing", "least"] (SpR K R_whole) := by
  refine ok_fn a.fn sc_law_whole (by rintro ds d ⟨x, lo, rfl, _⟩; rfl) fun cdv A outer s H0 E hr ds d ⟨x, lo, e1, e2⟩ => ?_
  subst e1 e2
  refine ⟨_, (pss_one (ps_ret (pe_and (pe_callB (call_isiK' K) (by rfl) T.b_isinstance (by decide +kernel) (pa_cons (pv 0) (pa_cons (pe_bltn (v := .ty "int") (by rfl) T.b_int (by decide +kernel) rfl) pa_nil))) (pe_and (pe_not (pe_callB (call_isiK' K) (by rfl) T.b_isinstance (by decide +kernel) (pa_cons (pv 0) (pa_cons (pe_bltn (v := .ty "bool") (by rfl) T.b_bool (by decide +kernel) rfl) pa_nil)))) (pe_one (pe_cmpR op_ge (pv 0) (pv 1) (nomark _))))))), fun B O σ H Q st q => ?_⟩
  refine s_ret st (d := .bool (inFrom x lo none)) (ev_is (ev_andV (a := isIntD x) (b := (!isBoolD x) && (inFrom x lo none)) (ev_isi (ev_var rfl) (kit_int x)) fun h1 => ev_andV (ev_notV (ev_isi (ev_var rfl) (kit_bool x))) fun h2 => ?_) ?_) fun v B' H' e w d => q v B' H' e w d
  · have hw : isWhole x = true := by unfold isWhole; rw [h1, h2]; rfl
    obtain ⟨i, rfl⟩ := whole_cases hw
    refine ev_is (ev_op (ev_var rfl) (ev_var rfl) rd_B0) ?_
    simp [inFrom, under]
  · cases x <;> simp [isIntD, isBoolD, inFrom]
def R_rises (ds : List PyData) (d : PyData) : Prop := ∃ x n, ds = [x, .int n] ∧ d = .bool (rowL n x)
theorem ok_law_rises {f : Addr} {fd : FuncData} (T : Txt K mg) (C_law_whole : Cal P w K mg base 2 "_law_whole" ["thing", "least"] (SpR K R_whole)) (a : At K mg "_law_rises" s_law_rises ["row", "size"] f fd) : FnOk P w K mg base CX0 4 f fd ["row", "size"] (SpR K R_rises) := by
  refine ok_fn a.fn sc_law_rises (by rintro ds d ⟨x, n, rfl, _⟩; rfl) fun cdv A outer s H0 E hr ds d ⟨x, n, e1, e2⟩ => ?_
  subst e1 e2
  refine ⟨_, (pss_cons (ps_if (pt_not (pt_val (pe_callB (call_isiK' K) (by rfl) T.b_isinstance (by decide +kernel) (pa_cons (pv 0) (pa_cons (pe_bltn (v := .ty "list") (by rfl) T.b_list (by decide +kernel) rfl) pa_nil))))) (pss_one (ps_ret pe_bl)) pss_nil)
    (pss_cons (ps_set (i := 2) sc_law_rises.nd rfl (Or.inl rfl) (pe_un un_neg pe_int))
    (pss_cons (ps_for PassesOwn.never rfl (pi_listK K (pv 0)) (pg_name (i := 3) sc_law_rises.nd rfl (Or.inl rfl)) (pss_cons (ps_if (PW.pt (pw_or (pt_not (pt_val (pe_cal C_law_whole hr (by omega) (by rfl) (pa_cons (pv 3) (pa_cons (pe_op op_add (pv 2) pe_int) pa_nil))))) (pw_or1 (pt_cmpR op_ge (pv 3) (pv 1) (nomark _))))) (pss_one (ps_ret pe_bl)) pss_nil)
    (pss_one (ps_set (i := 2) sc_law_rises.nd rfl (Or.inl rfl) (pv 3)))))
    (pss_one (ps_ret pe_bl))))), fun B O σ H Q st q => ?_⟩
  refine q_when st (b := !isListD x) (et_not (et_test (ev_isi (ev_var rfl) (kit_list x)))) (fun h1 B1 H1 x1 st => ?_) (fun h1 B1 H1 x1 st => ?_)
  · have e : rowL n x = false := by
      cases x <;> simp [isListD] at h1 <;> rfl
    rw [e] at q
    exact s_ret st ev_bl fun v B2 H2 x2 w2 d2 => q v B2 H2 (x1.trans x2) w2 d2
  · obtain ⟨es, rfl⟩ : ∃ es, x = .list es := by
      cases x with
      | list es => exact ⟨es, rfl⟩
      | tuple => simp [isListD] at h1
      | none => simp [isListD] at h1
      | int => simp [isListD] at h1
      | bool => simp [isListD] at h1
      | str => simp [isListD] at h1
      | dict => simp [isListD] at h1
    have eo : rowL n (.list es) = risesD 0 (n - 1) es := rfl
    rw [eo] at q
    refine q_asg st (ev_un ev_int) fun v2 B2 H2 x2 d2 st => ?_
    refine q_for st (ei_list (ev_var rfl)) (fun i B' O' G' => O' = O ∧ ∃ lo : Int, risesD 0 (n - 1) es = risesD (lo + 1) (n - 1) (es.drop i) ∧ ∃ g4 : SD, G' = [.dat (.list es), .dat (.int n), .dat (.int lo), g4]) ?_ ?_ ?_ ?_
    · exact fun i B3 B4 O3 G3 _ h => h
    · exact ⟨rfl, -1, rfl, _, rfl⟩
    · rintro i e B3 O3 G3 σ3 H3 v hie x3 ⟨rfl, lo, hlo, g4, rfl⟩ st dv N hN
      have hdr : es.drop i = e :: es.drop (i + 1) := by
        have hi := (List.getElem?_eq_some_iff.mp hie).1
        rw [List.drop_eq_getElem_cons hi]
        congr 1
        exact (List.getElem?_eq_some_iff.mp hie).2
      refine eg_name B3 _ σ3 H3 v st dv _ fun σ4 st _ => ?_
      have hsplit : inFrom e (lo + 1) (some (n - 1)) = (inFrom e (lo + 1) none && !decide (n ≤ intOf e)) := by
        cases e with
        | int z =>
          have e2 : decide (z ≤ n - 1) = !decide (n ≤ z) := by
            by_cases h : n ≤ z
            · rw [decide_eq_true h, decide_eq_false (by omega)]
              rfl
            · rw [decide_eq_false h, decide_eq_true (by omega)]
              rfl
          show (decide (lo + 1 ≤ z) && decide (z ≤ n - 1)) = ((decide (lo + 1 ≤ z) && true) && !decide (n ≤ z))
          rw [e2, Bool.and_true]
        | none => rfl
        | bool => rfl
        | str => rfl
        | list => rfl
        | tuple => rfl
        | dict => rfl
      refine q_when st (b := !inFrom e (lo + 1) (some (n - 1))) (et_is (et_or (a := !inFrom e (lo + 1) none) (b := decide (n ≤ intOf e)) (et_not (et_test (ev_call (ea_cons (ev_var rfl) (ea_cons (ev_op (ev_var rfl) ev_int rd_I0) ea_nil)) ⟨e, lo + 1, rfl, rfl⟩))) fun h => ?_) (by rw [hsplit, Bool.not_and, Bool.not_not])) (fun h3 B4 H4 x4 st => ?_) (fun h3 B4 H4 x4 st => ?_)
      · obtain ⟨z, rfl, _, _⟩ := from_int (show inFrom e (lo + 1) none = true by simpa using h)
        exact et_test (ev_op (ev_var rfl) (ev_var rfl) rd_B0)
      · have ef : risesD 0 (n - 1) es = false := by
          rw [hlo, hdr, risesD, show inFrom e (lo + 1) (some (n - 1)) = false by simpa using h3]
          rfl
        rw [ef] at q
        exact s_ret st ev_bl fun v B5 H5 x5 w5 d5 => q v B5 H5 ((((x1.trans x2).trans x3).trans x4).trans x5) w5 d5
      · have h3' : inFrom e (lo + 1) (some (n - 1)) = true := by simpa using h3
        obtain ⟨z, rfl, _, _⟩ := from_int h3'
        refine s_asg st (ev_var rfl) fun v5 B5 H5 x5 d5 st => ?_
        refine hN B5 _ _ _ _ (x4.trans x5) ⟨rfl, z, ?_, _, rfl⟩ st
        rw [hlo, hdr, risesD, h3']
        rfl
    · rintro B3 O3 G3 σ3 H3 x3 ⟨rfl, lo, hlo, g4, rfl⟩ st
      have et : risesD 0 (n - 1) es = true := by
        rw [hlo, List.drop_length]
        rfl
      rw [et] at q
      exact s_ret st ev_bl fun v B5 H5 x5 w5 d5 => q v B5 H5 (((x1.trans x2).trans x3).trans x5) w5 d5
def R_wrong (ds : List PyData) (d : PyData) : Prop := ∃ x e s p r, (x = .tuple [e, s, p, r] ∨ x = .list [e, s, p, r]) ∧ ds = [x] ∧ d = wrongD e s p r
theorem ok_law_wrong {f : Addr} {fd : FuncData} (T : Txt K mg) (C_law_whole : Cal P w K mg base 2 "_law_whole" ["thing", "least"] (SpR K R_whole)) (C_law_rises : Cal P w K mg base 4 "_law_rises" ["row", "size"] (SpR K R_rises)) (a : At K mg "_law_wrong" s_law_wrong ["fields"] f fd) : FnOk P w K mg base CX0 6 f fd ["fields"] (SpR K R_wrong) := by
  refine ok_fn a.fn sc_law_wrong (by rintro ds d ⟨x, e, s, p, r, _, rfl, _⟩; rfl) fun cdv A outer s0 H0 E hr ds d ⟨x, e, s, p, r, hx, e1, e2⟩ => ?_
  subst e1 e2
  refine ⟨_, (pss_cons (ps_asg (pv 0) (pg_or (pg_tupK K (n := 4) (by rfl) (pgs_cons (pg_name (i := 1) sc_law_wrong.nd rfl (Or.inl rfl)) (pgs_cons (pg_name (i := 2) sc_law_wrong.nd rfl (Or.inl rfl)) (pgs_cons (pg_name (i := 3) sc_law_wrong.nd rfl (Or.inl rfl)) (pgs_cons (pg_name (i := 4) sc_law_wrong.nd rfl (Or.inl rfl)) pgs_nil))))) (pg_lstK K (n := 4) (by rfl) (pgs_cons (pg_name (i := 1) sc_law_wrong.nd rfl (Or.inl rfl)) (pgs_cons (pg_name (i := 2) sc_law_wrong.nd rfl (Or.inl rfl)) (pgs_cons (pg_name (i := 3) sc_law_wrong.nd rfl (Or.inl rfl)) (pgs_cons (pg_name (i := 4) sc_law_wrong.nd rfl (Or.inl rfl)) pgs_nil)))))))
    (pss_cons (ps_if (pt_not (pt_val (pe_cal C_law_whole hr (by omega) (by rfl) (pa_cons (pv 2) (pa_cons pe_int pa_nil))))) (pss_one (ps_ret (pe_tup (pa_cons pe_str (pa_cons pe_str pa_nil))))) pss_nil)
    (pss_cons (ps_if (pt_cmpR op_gt (pv 2) pe_int (nomark _)) (pss_one (ps_ret (pe_tup (pa_cons pe_str (pa_cons pe_str pa_nil))))) pss_nil)
    (pss_cons (ps_if (pt_not (pt_val (pe_cal C_law_whole hr (by omega) (by rfl) (pa_cons (pv 3) (pa_cons pe_int pa_nil))))) (pss_one (ps_ret (pe_tup (pa_cons pe_str (pa_cons pe_str pa_nil))))) pss_nil)
    (pss_cons (ps_if (pt_cmpR op_gt (pv 3) pe_int (nomark _)) (pss_one (ps_ret (pe_tup (pa_cons pe_str (pa_cons pe_str pa_nil))))) pss_nil)
    (pss_cons (ps_if (pt_not (pt_val (pe_cal C_law_rises hr (by omega) (by rfl) (pa_cons (pv 1) (pa_cons (pv 2) pa_nil))))) (pss_one (ps_ret (pe_tup (pa_cons pe_str (pa_cons pe_str pa_nil))))) pss_nil)
    (pss_cons (ps_if (pt_not (pt_val (pe_cal C_law_rises hr (by omega) (by rfl) (pa_cons (pv 4) (pa_cons (pv 3) pa_nil))))) (pss_one (ps_ret (pe_tup (pa_cons pe_str (pa_cons pe_str pa_nil))))) pss_nil)
    (pss_one (ps_ret pe_non))))))))), fun B O σ H Q st q => ?_⟩
  refine q_four st (ev_var rfl) hx fun σ1 B1 H1 x1 st => ?_
  unfold wrongD at q
  have back : ∀ {a b : Str}, EvD K B1 O _ (tTup (tCons (tC (.str a)) (tCons (tC (.str b)) tNil))) (.tuple [.str a, .str b]) := fun {a b} => ev_tup (G := [.dat x, .dat e, .dat s, .dat p, .dat r]) (ea_cons ev_str (ea_cons ev_str ea_nil)) (by simp)
  refine q_when st (b := !inFrom s 0 none) (et_not (et_test (ev_call (ea_cons (ev_var rfl) (ea_cons ev_int ea_nil)) ⟨s, 0, rfl, rfl⟩))) (fun h B2 H2 x2 st => ?_) (fun h B2 H2 x2 st => ?_)
  · rw [if_pos h] at q
    exact s_ret st (back.ex x2) fun v B3 H3 x3 w3 d3 => q v B3 H3 ((x1.trans x2).trans x3) w3 d3
  rw [if_neg (by rw [h]; exact Bool.false_ne_true)] at q
  obtain ⟨n, rfl, _, _⟩ := from_int (show inFrom s 0 none = true by simpa using h)
  refine q_when st (et_test (ev_op (ev_var rfl) ev_int rd_B0)) (fun h B3 H3 x3 st => ?_) (fun h B3 H3 x3 st => ?_)
  · rw [if_pos (show decide (5000 < intOf (.int n)) = true from h)] at q
    exact s_ret st (back.ex (x2.trans x3)) fun v B4 H4 x4 w4 d4 => q v B4 H4 (((x1.trans x2).trans x3).trans x4) w4 d4
  rw [if_neg (by rw [show decide (5000 < intOf (.int n)) = false from h]; exact Bool.false_ne_true)] at q
  refine q_when st (b := !inFrom p 1 none) (et_not (et_test (ev_call (ea_cons (ev_var rfl) (ea_cons ev_int ea_nil)) ⟨p, 1, rfl, rfl⟩))) (fun h B4 H4 x4 st => ?_) (fun h B4 H4 x4 st => ?_)
  · rw [if_pos h] at q
    exact s_ret st (back.ex ((x2.trans x3).trans x4)) fun v B5 H5 x5 w5 d5 => q v B5 H5 ((((x1.trans x2).trans x3).trans x4).trans x5) w5 d5
  rw [if_neg (by rw [h]; exact Bool.false_ne_true)] at q
  obtain ⟨k, rfl, _, _⟩ := from_int (show inFrom p 1 none = true by simpa using h)
  refine q_when st (et_test (ev_op (ev_var rfl) ev_int rd_B0)) (fun h B5 H5 x5 st => ?_) (fun h B5 H5 x5 st => ?_)
  · rw [if_pos (show decide (5000 < intOf (.int k)) = true from h)] at q
    exact s_ret st (back.ex (((x2.trans x3).trans x4).trans x5)) fun v B6 H6 x6 w6 d6 => q v B6 H6 (((((x1.trans x2).trans x3).trans x4).trans x5).trans x6) w6 d6
  rw [if_neg (by rw [show decide (5000 < intOf (.int k)) = false from h]; exact Bool.false_ne_true)] at q
  refine q_when st (b := !rowL n e) (et_not (et_test (ev_call (ea_cons (ev_var rfl) (ea_cons (ev_var rfl) ea_nil)) ⟨e, n, rfl, rfl⟩))) (fun h B6 H6 x6 st => ?_) (fun h B6 H6 x6 st => ?_)
  · rw [if_pos (show (!rowL (intOf (.int n)) e) = true from h)] at q
    exact s_ret st (back.ex ((((x2.trans x3).trans x4).trans x5).trans x6)) fun v B7 H7 x7 w7 d7 => q v B7 H7 ((((((x1.trans x2).trans x3).trans x4).trans x5).trans x6).trans x7) w7 d7
  rw [if_neg (by rw [show (!rowL (intOf (.int n)) e) = false from h]; exact Bool.false_ne_true)] at q
  refine q_when st (b := !rowL k r) (et_not (et_test (ev_call (ea_cons (ev_var rfl) (ea_cons (ev_var rfl) ea_nil)) ⟨r, k, rfl, rfl⟩))) (fun h B7 H7 x7 st => ?_) (fun h B7 H7 x7 st => ?_)
  · rw [if_pos (show (!rowL (intOf (.int k)) r) = true from h)] at q
    exact s_ret st (back.ex (((((x2.trans x3).trans x4).trans x5).trans x6).trans x7)) fun v B8 H8 x8 w8 d8 => q v B8 H8 (((((((x1.trans x2).trans x3).trans x4).trans x5).trans x6).trans x7).trans x8) w8 d8
  rw [if_neg (by rw [show (!rowL (intOf (.int k)) r) = false from h]; exact Bool.false_ne_true)] at q
  exact s_ret st ev_non fun v B8 H8 x8 w8 d8 => q v B8 H8 (((((((x1.trans x2).trans x3).trans x4).trans x5).trans x6).trans x7).trans x8) w8 d8

end
end Toy
set_option Elab.async false
set_option linter.all false
set_option maxRecDepth 100000
set_option maxHeartbeats 2000000
/-! Several except clauses that all bind the same name; isinstance of such an error that has fields. -/
namespace L2
open PySem PySem.Spec PyProof.Rows
/-- behind a suite the name's slot is empty again -/
abbrev Ends.gone (D : Ends) (i : Nat) : Ends := ⟨fun σ H => D.nx (σ.set i none) H, D.rt, fun σ H => D.bk (σ.set i none) H, fun σ H => D.ct (σ.set i none) H⟩
/-- the wish of the clauses, from the first on -/
def wAll (K : PySem.W.Frag) (i : Nat) (Wout : WX) (D : Ends) : List (Value × (Addr → Value → Option Addr → TS)) → WX
  | [] => Wout
  | cl :: more => fun cls d σ H => ∃ hit, PySem.W.exmOne K cls cl.1 = some hit ∧ (hit = true → ∀ a, H a = none → cl.2 a cls d (D.gone i) (σ.set i (some (.ref a))) H) ∧ (hit = false → wAll K i Wout D more cls d σ H)
/-- clauses: except x as n, n in every one -/
inductive Clauses (X : Cx) (n : Str) : List ExceptHandler → List (Value × (Addr → Value → Option Addr → TS)) → Prop
  | none : Clauses X n [] []
  | more {x : Str} {c : Value} {ts : Addr → Value → Option Addr → TS} {first : Stmt} {rest : List Stmt} {p q : Pos} {hs : List ExceptHandler} {l : List (Value × (Addr → Value → Option Addr → TS))} (names : Names X x c)
      (suite : ∀ (a : Addr) (oe : Obj) (cls : Value) (d : Option Addr) (pn : List (Addr × Obj)), Zc cls d oe → (∃ vs, oe.data = .fields vs) → PSs (X.suite a ((a, oe) :: pn)) (first :: rest) (ts a cls d)) (tail : Clauses X n hs l) :
      Clauses X n (.ExceptHandler (some (.Name x p)) (some n) (first :: rest) q :: hs) ((c, ts) :: l)
section
variable {X : Cx} {n : Str} {i : Nat} {body : List Stmt} {h₀ : ExceptHandler} {hds : List ExceptHandler} {l : List (Value × (Addr → Value → Option Addr → TS))} {pos : Pos} {tb : WX → TS} {Wout : WX}
/-- where an exception at a has landed in the running body -/
structure Landed (X : Cx) (pins : List (Addr × Obj)) (σ : St) (H : Hp) (B : Heap) (a : Addr) (cls : Value) (d : Option Addr) (sI s : Shared) (h : Heap) : Prop where
  J : Inv X pins σ H sI
  nb : ∀ b o, sI.heap.get? b = some o → b ∉ frs X.stack → B.get? b = some o
  up : sI.heap.UpToSlots h
  fl : HandSPX.FlyingZ B (X.env :: X.outer) a (Zc cls d) h
  na : H a = none
  os : s.os = sI.os
  ag : AllBare s.gens
  nL : a ≠ X.env.locals
  nF : a ∉ X.fs
theorem Landed.inv {pins : List (Addr × Obj)} {σ : St} {H : Hp} {B : Heap} {a : Addr} {cls : Value} {d : Option Addr} {sI s : Shared} {h : Heap} (L : Landed X pins σ H B a cls d sI s h) : Inv X pins σ H { s with heap := h } := L.J.landed L.nb L.fl.1 L.up L.os L.ag
theorem Landed.step {pins : List (Addr × Obj)} {σ : St} {H : Hp} {B : Heap} {a : Addr} {cls : Value} {d : Option Addr} {sI s : Shared} {h h' : Heap} (L : Landed X pins σ H B a cls d sI s h) (f : HandSPX.FlyingZ B (X.env :: X.outer) a (Zc cls d) h') (u : h.UpToSlots h') : Landed X pins σ H B a cls d sI s h' :=
  { J := L.J, nb := L.nb, up := L.up.trans u, fl := f, na := L.na, os := L.os, ag := L.ag, nL := L.nL, nF := L.nF }
/-- no clause is left: the exception goes on -/
theorem none_left {pins : List (Addr × Obj)} {σ : St} {H : Hp} {B : Heap} {a : Addr} {cls : Value} {d : Option Addr} {sI s : Shared} {h : Heap} {Q : Flow → Shared → Prop} (hs : X.stack = X.env :: X.outer) (hf : X.env.frame = some X.env.locals) (tk : Takes X Wout) (L : Landed X pins σ H B a cls d sI s h) (w : Wout cls d σ H) :
    wpAny (model X.prog X.w) X.A (handleBy (.ref a) X.env []) Q X.xe { s with heap := h } := by
  obtain ⟨_, _, _, oe, vs, T, oT, _, heap_a, _, dat, fld, _⟩ := id L.fl
  have thrown : wpAny (model X.prog X.w) X.A (setFlight (.ref a) X.env.frame) (fun _ s4 => wpAny (model X.prog X.w) X.A (throw (.ref a) : Sem Flow) Q X.xe s4) X.xe { s with heap := h } := by
    rw [hf]
    exact HandSPX.setFlight_upZ L.fl fun h4 held u4 => wpAny_throw (tk _ _ ⟨a, B, sI, pins, σ, H, cls, d, rfl, L.J, L.nb, L.up.trans u4, .inr (.inr (by rw [hs]; exact held)), L.na, L.os, L.ag, w⟩)
  refine wpAny_handleBy_nil ?_
  unfold PySem.passOn
  refine wpAny_bind (wpAny_field heap_a dat fld ?_)
  rw [if_neg (by simp : ¬ ((Value.ref T == Value.none) = true))]
  first | exact wpAny_bind thrown | exact wpAny_bind (wpAny_pure (wpAny_bind thrown))
/-- the clauses, one after the other -/
theorem by_clauses {pins : List (Addr × Obj)} {σ : St} {H : Hp} {B : Heap} {a : Addr} {cls : Value} {d : Option Addr} {sI s : Shared} {h : Heap} {D : Ends} (ok : X.Ok) (hs : X.stack = X.env :: X.outer) (hf : X.env.frame = some X.env.locals) (hN : X.N.Nodup) (hi : X.N[i]? = some n) (hln : X.env.kindOf n = some .local) (tk : Takes X Wout)
    (L : Landed X pins σ H B a cls d sI s h) (cs : Clauses X n hds l) (w : wAll X.K i Wout D l cls d σ H) : wpAny (model X.prog X.w) X.A (handleBy (.ref a) X.env hds) (SP X pins D) X.xe { s with heap := h } := by
  induction cs with
  | none => exact none_left hs hf tk L w
  | @more x c ts first rest p q hs2 l2 names suite tail ih =>
    obtain ⟨hit, isit, yes, no⟩ := w
    obtain ⟨oe, vs, there, zc, dat⟩ := L.fl.there
    have SU := L.inv.suite there dat L.na L.nL L.nF
    have known := PySem.W.exm_one (M := model X.prog X.w) L.inv.kIn (fun A Q E s k q => wpAny_typeOf_ref (k _ _ there) (by rw [zc.1]; exact q)) isit
    refine wpAny_handleBy_cons (codeAny_handlers_test ?_) (fun z => by cases z)
    have name : ∀ {Q : Value → Shared → Prop} {E : Value → Shared → Prop}, Q c { s with heap := h } → wpAny (model X.prog X.w) (X.A.mark (some (.ref a))) (eval (.Name x p) X.env) Q E { s with heap := h } := by
      intro Q E fine
      obtain ⟨g, dbg, m⟩ := names
      rcases m with m | ⟨m, b, nn⟩
      · exact ld_glob (X := X.suite a ((a, oe) :: (X.pn ++ pins))) SU g m fine dbg
      · exact ld_blt (X := X.suite a ((a, oe) :: (X.pn ++ pins))) SU g m b fine nn dbg
    refine name (known.here ?_)
    cases hit with
    | false => exact ih (no rfl)
    | true =>
      refine codeAny_handlers_suite_as (HandSPX.lands_againZ L.fl fun h2 fl2 up2 => ?_)
      have L2' := L.step fl2 up2
      obtain ⟨oe2, vs2, there2, zc2, dat2⟩ := fl2.there
      have SU2 := L2'.inv.suite there2 dat2 L.na L.nL L.nF
      refine store_ok (X := X.suite a ((a, oe2) :: (X.pn ++ pins))) (v := .ref a) SU2 hN hi (.inl hln) rfl (fun s5 SU5 => ?_) (.inr hln)
      refine wpAny_mono ((suite a oe2 cls d (X.pn ++ pins) zc2 ⟨_, dat2⟩).run [] s5 _ H (D.gone i) SU5 (yes rfl a L.na)) (fun f s6 done => ?_) (fun _ _ z => z.elim)
      have unbound : ∀ {σ6 : St} {H6 : Hp} {Q : Shared → Prop}, Inv (X.suite a ((a, oe2) :: (X.pn ++ pins))) [] σ6 H6 s6 → (∀ s7, Inv X pins (σ6.set i none) H6 s7 → Q s7) → wpAny (model X.prog X.w) X.A (do bindName X.env n .none; unbindBehindTheSuite X.env n q) (fun _ s7 => Q s7) X.xe s6 :=
        fun {σ6 H6 Q} S6 k => gone_ok (S6.unsuite ok) hN hi hln k
      cases f with
      | ret u =>
        obtain ⟨v6, σ6, H6, S6, r6, q6⟩ := done
        exact unbound S6 fun s7 J7 => ⟨v6, _, H6, J7, r6, q6⟩
      | next =>
        obtain ⟨σ6, H6, S6, q6⟩ := done
        exact unbound S6 fun s7 J7 => ⟨_, H6, J7, q6⟩
      | brk =>
        obtain ⟨σ6, H6, S6, q6⟩ := done
        exact unbound S6 fun s7 J7 => ⟨_, H6, J7, q6⟩
      | cont =>
        obtain ⟨σ6, H6, S6, q6⟩ := done
        exact unbound S6 fun s7 J7 => ⟨_, H6, J7, q6⟩
/-- try: body, except x as n: .., except y as n: .. -/
theorem ps_try_all (hs : X.stack = X.env :: X.outer) (hf : X.env.frame = some X.env.locals) (hN : X.N.Nodup) (hi : X.N[i]? = some n) (hln : X.env.kindOf n = some .local) (tk : Takes X Wout)
    (hb : ∀ (W : WX) (pn : List (Addr × Obj)) (xe : Value → Shared → Prop), Takes (X.tr pn xe) W → PassesOwn (model X.prog X.w) X.A X.env xe → PSs (X.tr pn xe) body (tb W))
    (cs : Clauses X n (h₀ :: hds) l) : PS X (.Try body (h₀ :: hds) [] [] pos) (fun D σ H => tb (wAll X.K i Wout D l) D σ H) := by
  refine ⟨fun pins s σ H D I want => wpAny_Try_except ?_⟩
  have ok := I.ok
  have frames : X.A.frames = some (X.env :: X.outer) := by rw [ok.frames, hs]
  have B0 := hb (wAll X.K i Wout D l) (X.pn ++ pins) (fun e s₁ => wpAny (model X.prog X.w) X.A (noteFrame e X.env) (fun _ s₂ => wpAny (model X.prog X.w) X.A (setFlight e none) (fun _ s₃ => wpAny (model X.prog X.w) X.A (handleBy e X.env (h₀ :: hds)) (SP X pins D) X.xe s₃) X.xe s₂) X.xe s₁)
    (by
      rintro u s' ⟨a, B, sI, pins', σ', H', cls, d, rfl, J', nb, up, sky, na, os, ag, w⟩
      have J : Inv X pins σ' H' sI := J'.ofTry ok
      rw [show X.stack = X.env :: X.outer from hs] at sky
      refine Sky.land Zc.steady frames hf sky fun h3 fl3 up3 => ?_
      obtain ⟨oe, vs, there, _, dat⟩ := fl3.there
      have off : a ∉ frs (X.env :: X.outer) := fun z => by
        obtain ⟨_, o, e, bad⟩ := fl3.2.2.1.mem z
        rw [there] at e
        cases e
        exact bad _ dat
      refine by_clauses ok hs hf hN hi hln tk ⟨J, nb, up.trans up3, fl3, na, os, ag, fun z => off (List.mem_filterMap.mpr ⟨X.env, List.mem_cons_self, by rw [hf, z]⟩), fun z => ?_⟩ cs w
      obtain ⟨e, he, q⟩ := List.mem_filterMap.mp z
      exact off (List.mem_filterMap.mpr ⟨e, List.mem_cons_of_mem _ he, q⟩))
    PassesOwn.looking
  refine wpAny_mono (B0.run [] s σ H D (I.toTry _) want) (fun f s1 done => ?_) (fun _ _ z => z)
  cases f with
  | ret u =>
    obtain ⟨v, σ1, H1, J1, r1, q1⟩ := done
    exact ⟨v, σ1, H1, J1.ofTry ok, r1, q1⟩
  | next =>
    obtain ⟨σ1, H1, J1, q1⟩ := done
    exact wpAny_execs_nil ⟨σ1, H1, J1.ofTry ok, q1⟩
  | brk =>
    obtain ⟨σ1, H1, J1, q1⟩ := done
    exact ⟨σ1, H1, J1.ofTry ok, q1⟩
  | cont =>
    obtain ⟨σ1, H1, J1, q1⟩ := done
    exact ⟨σ1, H1, J1.ofTry ok, q1⟩
end
end L2

set_option Elab.async false
set_option linter.all false
set_option maxRecDepth 100000
set_option maxHeartbeats 2000000
/-! isinstance of a caught error of the text that has fields. -/
namespace L2
open PySem PySem.Spec PyProof.Rows
/-- isinstance(e, c), e the exception (its class cls, its dict d) that the suite holds -/
def rIsX (K : PySem.W.Frag) (D a : Addr) (cls : Value) (d : Option Addr) : List V → Hp → VK → Prop := fun xs H Q => ∃ (c : V) (cv : Value) (b : Bool) (dd : Addr) (fs : List (Str × V)), xs = [.ref a, c] ∧ cls = .ref D ∧ d = some dd ∧ (∀ u, RelV c u → u = cv) ∧ PySem.W.kitOne K (.ref D) cv = some b ∧ H dd = some (.xd fs) ∧ Q (.bl b) H
theorem call_isX {X : Cx} {a D : Addr} {cls : Value} {d : Option Addr} {oe : Obj} {pn : List (Addr × Obj)} (C : ExcC X.K D) (hz : Zc cls d oe) (hf : ∃ vs, oe.data = .fields vs) : CallR (X.suite a ((a, oe) :: pn)) (.builtin "isinstance") (rIsX X.K D a cls d) := by
  intro pins s σ H xs us Q I r h
  obtain ⟨c, cv, b, dd, fs, rfl, ec, ed, hcv, e, hd, q⟩ := h
  subst ec ed
  obtain ⟨u1, u2, rfl, r1, r2⟩ := vals2 r
  cases (show u1 = Value.ref a from r1)
  have e2 := hcv _ r2
  subst e2
  obtain ⟨there, _⟩ := I.pin (a, oe) (List.mem_append_left _ List.mem_cons_self)
  obtain ⟨vs, dat⟩ := hf
  obtain ⟨mA, hns, _⟩ := (show ObjOk X.prog X.w H s.heap dd (.xd fs) from I.hok dd _ hd)
  obtain ⟨od, ho, _⟩ := lookIn_ns hns
  have J : PySem.W.InstAt s.heap a oe D (some od) := ⟨there, hz.1, by unfold PySem.W.notCls; rw [dat] <;> rfl, by rw [hz.2]; exact ho⟩
  have hc : (PySem.W.clsIn X.K D).isSome = true := by
    obtain ⟨cd, hc, _⟩ := PySem.W.any_some C.hd
    rw [hc]
    rfl
  exact PySem.W.kia_one (PySem.W.kitx_exc (od := some od) hc C.hg C.hk C.hs C.ha C.hn C.ht C.hm) I.kIn J e (fun z => nomatch z) fun tk => ⟨.bl b, H, I.kept (t' := tk) fun _ _ z => z, rfl, q⟩
end L2

set_option Elab.async false
set_option linter.all false
set_option maxRecDepth 100000
set_option maxHeartbeats 4000000
namespace Toy
open PySem PySem.Spec PyProof.Rows L2 StX DL


theorem passN {X : Cx} {W : WX} {m : Nat} (tk : Takes X W) (hm : X.N.length = m) : Passes (L2.CX X.prog X.w) X (fun cls d H => ∀ σ' : L2.St, σ'.length = m → W cls d σ' H) := fun _ σ _ _ e s' I c => tk e s' (XE.of_call I (fun _ _ _ h => h σ (I.len.trans hm)) c)
/-- the class stands, it can be made -/
structure MkS (P : Program) (w : World) (K : PySem.W.Frag) (mg : Str → Option Value) (base : Heap) (CN CT CS t0 t1 : Addr) : Prop where
  ex : ∃ fI fd, Mk K CS fI ∧ FnOk P w K mg base (L2.CX P w) 8 fI fd ["self", "early", "start", "period", "rests"] (SpInit K CN CT CS) ∧ Binds K fd ["self", "early", "start", "period", "rests"] [] ∧
    (∃ ds, Vals [.ref t0, .int 0, .int 1, .ref t1] ds ∧ Binds K fd ["self", "early", "start", "period", "rests"] ds) ∧ (∃ ds, Vals [.int 1, .ref t1] ds ∧ Binds K fd ["self", "early", "start", "period", "rests"] ds) ∧
    ∃ g, KBn K fd ["self", "early", "start", "period", "rests"] 2 ["start", "period", "rests"] g (fun vs zs => vs ++ zs)
  e0 : ∀ B, Dt K B (.ref t0) (.tuple [])
  e1 : ∀ B, Dt K B (.ref t1) (.tuple [])
section
variable {K : PySem.W.Frag} {B O : Hp} {G : List SD} {CN CT CS : Addr} {t tk : TA} {ds es0 : List PyData} {dvs : List V} {e s p r : PyData} {es rs : List Int} {n k : Int} {E : XK}
theorem make_at {B1 B2 O1 H2 : Hp} {vs : List V} {Q : VK} (e2 : Ex B1 B2) (w2 : W B2 O1 H2) (d : DtAll K B2 vs [e, s, p, r]) (hm : Right e s p r es n k rs) (q : ∀ v B' H', Ex B1 B' → W B' O1 H' → IsLS K CS (lsOf es n k rs) B' v → Q v H') :
    ∀ x dx, H2 x = none → H2 dx = none → dx ≠ x → SpInit K CN CT CS (.ref x :: vs) (upd (upd H2 dx (.own x)) x (.ins CS dx [])) (fun v H3 => v = .non ∧ Q (.ref x) H3) E := fun x dx hx hdx hne => by
  have hw := (w2.newO (u := .own x) hdx).newO (p := x) (u := .ins CS dx []) (by rw [upd_ne (fun z => hne z.symm)]; exact hx)
  exact ⟨B2, O1, x, dx, vs, e, s, p, r, .ok (lsOf es n k rs), rfl, w2.fo hx, w2.fo hdx, hne, hw, d, .ok hm, fun B' H' e' w' hL => ⟨rfl, q (.ref x) B' H' (e2.trans e') w' hL⟩⟩
/-- LengthSet(..), what is written and the defaults behind it -/
theorem ev_make (h : EvA K B O G t ds) (hv : ∀ B', DtAll K B' dvs es0) (he : ds ++ es0 = [e, s, p, r]) (hm : Right e s p r es n k rs) : EvP K B O G (tMake CS (SpInit K CN CT CS) dvs E t) (IsLS K CS (lsOf es n k rs)) := fun B1 O1 σ H e1 o st Q q =>
  h B1 O1 σ H e1 o st _ fun vs B2 H2 e2 w2 d2 => by
    have d := dps_app d2 (hv B2)
    rw [he] at d
    exact make_at e2 w2 d hm q
theorem ev_makeN {ds2 : List PyData} {m1 m2 : Nat} (h : EvA K B O G t ds) (h2 : EvA K B O G tk ds2) (l1 : ds.length = m1) (l2 : ds2.length = m2) (he : ds ++ ds2 = [e, s, p, r]) (hm : Right e s p r es n k rs) : EvP K B O G (tMakeN CS m1 m2 (SpInit K CN CT CS) (fun vs zs => vs ++ zs) E t tk) (IsLS K CS (lsOf es n k rs)) := fun B1 O1 σ H e1 o st Q q =>
  h B1 O1 σ H e1 o st _ fun vs B2 H2 e2 w2 d2 => h2 B2 O1 σ H2 (e1.trans e2) o (st.ex e2 w2) _ fun zs B3 H3 e3 w3 d3 => ⟨by rw [dps_len d2, l1], by rw [dps_len d3, l2], by
    have d := dps_app (dps_ex e3 _ _ d2) d3
    rw [he] at d
    exact make_at (e2.trans e3) w3 d hm q⟩
/-- LengthSet(..) as a statement, wrong -/
theorem s_makeX {σ : L2.St} {H : Hp} {D : Ends} {C1 : Addr} {f1 x1 : Str} (st : Sta K B O G σ H) (h : EvA K B O G t [e, s, p, r]) (hm : mkErr CN CT e s p r = some (C1, f1, x1)) (k2 : ∀ pp B' H', Ex B B' → W B' O H' → B' pp = some (.xd [(f1, .str x1)]) → E (.ref C1) (some pp) H') :
    tDrop (tMake CS (SpInit K CN CT CS) [] E t) D σ H :=
  h B O σ H (Ex.refl _) (Ex.refl _) st _ fun vs B2 H2 e2 w2 d2 x dx hx hdx hne => by
    have hw := (w2.newO (u := .own x) hdx).newO (p := x) (u := .ins CS dx []) (by rw [upd_ne (fun z => hne z.symm)]; exact hx)
    refine ⟨B2, O, x, dx, vs, e, s, p, r, .exc C1 f1 x1, by rw [List.append_nil], w2.fo hx, w2.fo hdx, hne, hw, d2, .exc hm, fun pp B' H' e' w' hp => k2 pp B' H' (e2.trans e') w' hp⟩
theorem s_makeR {σ : L2.St} {H : Hp} {D : Ends} (st : Sta K B O G σ H) (h : EvA K B O G t [e, s, p, r]) (hm : Right e s p r es n k rs) (k1 : ∀ B' H', Ex B B' → Sta K B' O G σ H' → D.nx σ H') :
    tDrop (tMake CS (SpInit K CN CT CS) [] E t) D σ H :=
  h B O σ H (Ex.refl _) (Ex.refl _) st _ fun vs B2 H2 e2 w2 d2 => by
    rw [List.append_nil]
    exact make_at (B1 := B) e2 w2 d2 hm fun v B' H' e' w' _ => k1 B' H' e' ⟨w', st.s.ex e'⟩
end
/-- what the law makes of an error -/
def ansD (CN CT : Addr) (e s p r : PyData) : PyData := match mkErr CN CT e s p r with
  | none => .none
  | some (C, _, x) => if C = CN then .tuple [.str "set", .str x] else .tuple [.str "large", .str x]

section
variable {P : Program} {w : World} {K : PySem.W.Frag} {mg : Str → Option Value} {base : Heap}


/-- what the law's handlers ask of the two classes and of LimitError -/
structure Errs (P : Program) (w : World) (K : PySem.W.Frag) (mg : Str → Option Value) (base : Heap) (CN CT CL : Addr) : Prop where
  n : ErrC P w K mg base "NoSet" CN "place"
  t : ErrC P w K mg base "TooLarge" CT "limit"
  ne : CN ≠ CT
  gL : mg "LimitError" = some (.ref CL)
  nn : PySem.W.exmOne K (.ref CN) (.ref CN) = some true
  tn : PySem.W.exmOne K (.ref CT) (.ref CN) = some false
  tt : PySem.W.exmOne K (.ref CT) (.ref CT) = some true
  nL : PySem.W.kitOne K (.ref CN) (.ref CL) = some true
  nV : PySem.W.kitOne K (.ref CN) (.type "ValueError") = some true
  tL : PySem.W.kitOne K (.ref CT) (.ref CL) = some true
  cN : ExcC K CN
  cT : ExcC K CT
def R_ans (CN CT : Addr) (ds : List PyData) (d : PyData) : Prop := ∃ e s p r, ((∃ es n k rs, Right e s p r es n k rs) ∨ ∃ x, mkErr CN CT e s p r = some x) ∧ ds = [.list [e, s, p, r]] ∧ d = ansD CN CT e s p r

end
end Toy
set_option Elab.async false
set_option linter.all false
set_option maxRecDepth 100000
set_option maxHeartbeats 4000000
namespace Toy
open PySem PySem.Spec PyProof.Rows L2 StX DL

section
variable {K : PySem.W.Frag} {B O : Hp} {G : List SD} {CN CT : Addr} {e s p r : PyData} {es rs : List Int} {n k : Int}
theorem mkErr_right (h : Right e s p r es n k rs) : mkErr CN CT e s p r = none := by
  obtain ⟨⟨rfl, n0, n1⟩, ⟨rfl, k0, k1⟩, ⟨_, he2, _⟩, ⟨_, hr2, _⟩⟩ := h
  unfold mkErr
  rw [size_ok n0 n1]
  simp only
  rw [size_ok k0 k1]
  simp only [intOf]
  rw [nums_ok he2]
  simp only
  rw [nums_ok hr2]
theorem size_exc {x : PyData} {lo : Int} {pl : Str} {C : Addr} {f y : Str} (h : sizeOut CN CT x lo pl = .exc C f y) : (C = CN ∧ f = "place") ∨ (C = CT ∧ f = "limit") := by
  unfold sizeOut at h
  split at h
  · split at h
    · cases h
    · cases h
      exact .inr ⟨rfl, rfl⟩
  · cases h
    exact .inl ⟨rfl, rfl⟩
theorem nums_exc {x : PyData} {n : Int} {pl : Str} {C : Addr} {f y : Str} (h : numsOut CN x n pl = .exc C f y) : C = CN ∧ f = "place" := by
  unfold numsOut at h
  split at h
  · cases h
  · cases h
    exact ⟨rfl, rfl⟩
theorem mkErr_cls {C : Addr} {f x : Str} (h : mkErr CN CT e s p r = some (C, f, x)) : (C = CN ∧ f = "place") ∨ (C = CT ∧ f = "limit") := by
  unfold mkErr at h
  cases h1 : sizeOut CN CT s 0 "start" with
  | exc C f x =>
    rw [h1] at h
    cases h
    exact size_exc h1
  | ret d =>
    rw [h1] at h
    simp only at h
    cases h2 : sizeOut CN CT p 1 "period" with
    | exc C f x =>
      rw [h2] at h
      cases h
      exact size_exc h2
    | ret d =>
      rw [h2] at h
      simp only at h
      cases h3 : numsOut CN e (intOf s) "early" with
      | exc C f x =>
        rw [h3] at h
        cases h
        exact .inl (nums_exc h3)
      | ret d =>
        rw [h3] at h
        simp only at h
        cases h4 : numsOut CN r (intOf p) "rests" with
        | exc C f x =>
          rw [h4] at h
          cases h
          exact .inl (nums_exc h4)
        | ret d =>
          rw [h4] at h
          cases h
theorem ev_isX {i : Nat} {a D pp : Addr} {fs : List (Str × V)} {c : V} {cv : Value} {b : Bool} (hg : G[i]? = some (.val (.ref a))) (hb : B pp = some (.xd fs)) (hc : ∀ u, RelV c u → u = cv) (hk : PySem.W.kitOne K (.ref D) cv = some b) :
    EvD K B O G (tCB (rIsX K D a (.ref D) (some pp)) (tCons (tVar i) (tCons (tC c) tNil))) (.bool b) := fun B1 O1 σ H e o st Q q => by
  obtain ⟨sv, h1, h2⟩ := st.s.get hg
  have h3 : sv = some (.ref a) := h2
  subst h3
  exact ⟨_, h1, c, cv, b, pp, fs, rfl, rfl, rfl, hc, hk, st.w.b _ _ (e _ _ hb), q _ B1 H (Ex.refl _) st.w (.bl b)⟩
theorem ev_xf {i : Nat} {a C pp : Addr} {f x : Str} (hg : G[i]? = some (.val (.ref a))) (hb : B pp = some (.xd [(f, .str x)])) : EvD K B O G (tXf a (.ref C) (some pp) C f (tVar i)) (.str x) := fun B1 O1 σ H e o st Q q => by
  obtain ⟨sv, h1, h2⟩ := st.s.get hg
  have h3 : sv = some (.ref a) := h2
  subst h3
  exact ⟨_, h1, rfl, rfl, pp, [(f, .str x)], .str x, rfl, st.w.b _ _ (e _ _ hb), by simp [List.lookup], q _ B1 H (Ex.refl _) st.w (.str x)⟩
theorem slots_two {σ : L2.St} {B : Hp} {a : Addr} (h : σ.length = 2) : Slots K B (σ.set 1 (some (.ref a))) [.un, .val (.ref a)] := by
  match σ, h with
  | [x, y], _ => exact ⟨trivial, rfl, trivial⟩
end
section
variable {P : Program} {w : World} {K : PySem.W.Frag} {mg : Str → Option Value} {base : Heap}


theorem ok_law_answer {f CN CT CS CL t0 t1 : Addr} {fd : FuncData} (T : Txt K mg) (S : SetC K mg CS) (Er : Errs P w K mg base CN CT CL) (M : MkS P w K mg base CN CT CS t0 t1) (a : At K mg "_law_answer" s_law_answer ["fields"] f fd) : FnOk P w K mg base CX0 10 f fd ["fields"] (SpR K (R_ans CN CT)) := by
  obtain ⟨⟨fI, fdI, Mk_, Fi, B4, ⟨d0, V0, B0⟩, ⟨d2, V2, B2⟩, gk, Bk⟩, E0_, E1_⟩ := M
  refine ok_fn a.fn sc_law_answer (by rintro ds d ⟨e, s, p, r, _, rfl, _⟩; rfl) fun cdv A outer s0 H0 E hr ds d ⟨e, s, p, r, hm, e1, e2⟩ => ?_
  subst e1 e2
  refine ⟨_, (pss_cons (ps_try_all (i := 1) rfl rfl sc_law_answer.nd rfl rfl takes0 (fun W pn xe tk _ => (pss_one (ps_expr (pe_make Mk_ Fi (hr.mono (by omega)) (by rfl) S.g B4 .nil (passN (m := 2) tk (by rfl)) (pa_cons (pe_ix (ix_listK K) (pv 0) pe_int (fun _ _ => rfl)) (pa_cons (pe_ix (ix_listK K) (pv 0) pe_int (fun _ _ => rfl)) (pa_cons (pe_ix (ix_listK K) (pv 0) pe_int (fun _ _ => rfl)) (pa_cons (pe_ix (ix_listK K) (pv 0) pe_int (fun _ _ => rfl)) pa_nil)))))))) (Clauses.more ⟨by rfl, by decide, .inl Er.n.g⟩ (fun a oe cls d pn hz hf => (pss_one (ps_ret (pe_ifExp (PW.pt (pw_and (pt_val (pe_callB (call_isX Er.cN hz hf) (by rfl) T.b_isinstance (by decide +kernel) (pa_cons (pv 1) (pa_cons (pe_glob (v := .ref CL) (by rfl) Er.gL rfl) pa_nil)))) (pw_and1 (pt_val (pe_callB (call_isX Er.cN hz hf) (by rfl) T.b_isinstance (by decide +kernel) (pa_cons (pv 1) (pa_cons (pe_bltn (v := .ty "ValueError") (by rfl) T.b_ValueError (by decide +kernel) rfl) pa_nil))))))) (pe_tup (pa_cons pe_str (pa_cons (pe_xf Er.n.X Er.n.no hz hf (pv 1)) pa_nil))) pe_non)))) (Clauses.more ⟨by rfl, by decide, .inl Er.t.g⟩ (fun a oe cls d pn hz hf => (pss_one (ps_ret (pe_ifExp (pt_val (pe_callB (call_isX Er.cT hz hf) (by rfl) T.b_isinstance (by decide +kernel) (pa_cons (pv 1) (pa_cons (pe_glob (v := .ref CL) (by rfl) Er.gL rfl) pa_nil)))) (pe_tup (pa_cons pe_str (pa_cons (pe_xf Er.t.X Er.t.no hz hf (pv 1)) pa_nil))) pe_non)))) Clauses.none)))
    (pss_one (ps_ret pe_non))), fun B O σ H Q st q => ?_⟩
  have args : EvA K B O _ _ [e, s, p, r] := ea_cons (ev_op (G := [.dat (.list [e, s, p, r]), .un]) (ev_var (i := 0) rfl) ev_int (rd_ixL at0)) (ea_cons (ev_op (ev_var (i := 0) rfl) ev_int (rd_ixL at1)) (ea_cons (ev_op (ev_var (i := 0) rfl) ev_int (rd_ixL at2)) (ea_cons (ev_op (ev_var (i := 0) rfl) ev_int (rd_ixL at3)) ea_nil)))
  rcases hm with ⟨es, n, k, rs, hm⟩ | ⟨⟨C1, f1, x1⟩, hm⟩
  · refine s_makeR st args hm fun B1 H1 x1 st => ?_
    have ea : ansD CN CT e s p r = .none := by
      unfold ansD
      rw [mkErr_right hm]
    rw [ea] at q
    show tRet (tC V.non) { nx := fun _ H' => Q .non H', rt := Q } σ H1
    refine s_ret st ev_non fun v B2 H2 x2 w2 d2 => ?_
    exact q v B2 H2 (x1.trans x2) w2 d2
  · refine s_makeX st args hm fun pp B1 H1 x2 w1 hp σ' hσ => ?_
    have ca := mkErr_cls hm
    have ea : ansD CN CT e s p r = if C1 = CN then .tuple [.str "set", .str x1] else .tuple [.str "large", .str x1] := by
      unfold ansD
      rw [hm]
    rw [ea] at q
    rcases ca with ⟨rfl, rfl⟩ | ⟨rfl, rfl⟩
    · rw [if_pos rfl] at q
      refine ⟨true, Er.nn, fun _ a ha => ?_, fun z => Bool.noConfusion z⟩
      have st2 : Sta K B1 O [.un, .val (.ref a)] (σ'.set 1 (some (.ref a))) H1 := ⟨w1, slots_two hσ⟩
      refine s_ret st2 (ev_if (b := true) (et_is (et_and (et_test (ev_isX (c := .ref CL) (cv := .ref CL) rfl hp (fun u h => h) Er.nL)) fun _ => et_test (ev_isX (c := .ty "ValueError") (cv := .type "ValueError") rfl hp (fun u h => h) Er.nV)) rfl) (fun _ => ev_tup (ea_cons ev_str (ea_cons (ev_xf rfl hp) ea_nil)) (by simp)) (fun z => Bool.noConfusion z)) fun v B3 H3 x3 w3 d3 => ?_
      exact q v B3 H3 (x2.trans x3) w3 d3
    · rw [if_neg (fun z => Er.ne z.symm)] at q
      refine ⟨false, Er.tn, fun z => Bool.noConfusion z, fun _ => ⟨true, Er.tt, fun _ a ha => ?_, fun z => Bool.noConfusion z⟩⟩
      have st2 : Sta K B1 O [.un, .val (.ref a)] (σ'.set 1 (some (.ref a))) H1 := ⟨w1, slots_two hσ⟩
      refine s_ret st2 (ev_if (b := true) (et_test (ev_isX (c := .ref CL) (cv := .ref CL) rfl hp (fun u h => h) Er.tL)) (fun _ => ev_tup (ea_cons ev_str (ea_cons (ev_xf rfl hp) ea_nil)) (by simp)) (fun z => Bool.noConfusion z)) fun v B3 H3 x3 w3 d3 => ?_
      exact q v B3 H3 (x2.trans x3) w3 d3

end
end Toy
set_option Elab.async false
set_option linter.all false
set_option maxRecDepth 100000
set_option maxHeartbeats 4000000
namespace Toy
open PySem PySem.Spec PyProof.Rows L2 StX DL


theorem rises_ints {hi : Int} : ∀ {es : List Int} {lo : Int}, es.Pairwise (· < ·) → (∀ x, x ∈ es → lo ≤ x ∧ x ≤ hi) → risesD lo hi (whole_list es) = true
  | [], _, _, _ => rfl
  | x :: es, lo, hp, hb => by
    obtain ⟨h1, h2⟩ := List.pairwise_cons.mp hp
    obtain ⟨b1, b2⟩ := hb x List.mem_cons_self
    show (inFrom (.int x) lo (some hi) && risesD (x + 1) hi (whole_list es)) = true
    rw [rises_ints h2 fun y hy => ⟨by have := h1 y hy; omega, (hb y (List.mem_cons_of_mem _ hy)).2⟩]
    simp [inFrom, under, b1, b2]
theorem rise_row {es : List Int} {n : Int} (h : Rise es n) : risesD 0 (n - 1) (whole_list es) = true := rises_ints h.1 fun x hx => ⟨(h.2 x hx).1, by have := (h.2 x hx).2; omega⟩
/-- the set that such fields make -/
def Fld.ls (F : Fld) : LS := lsOf F.early F.first F.rhythm F.tails
theorem right_of {F : Fld} (h : F.Ok) (e r : PyData) (he : seqInts e F.early) (hr : seqInts r F.tails) : Right e (.int F.first) (.int F.rhythm) r F.early F.first F.rhythm F.tails := by
  refine ⟨⟨rfl, h.f0.1, by have := h.f0.2; omega⟩, ⟨rfl, h.r0.1, by have := h.r0.2; omega⟩, ⟨he, ?_, by have := h.le; omega⟩, ⟨hr, ?_, by have := h.lt; omega⟩⟩
  · rcases he with rfl | rfl <;> exact rise_row h.e
  · rcases hr with rfl | rfl <;> exact rise_row h.t
def SpMade (K : PySem.W.Frag) (CS : Addr) : Sp := fun vs H Q _ => ∃ (B O : Hp) (v : V) (F : Fld) (b : Bool), vs = [v, .bl b] ∧ W B O H ∧ Dt K B v F.enc ∧ F.Ok ∧ ∀ u B' H', Ex B B' → W B' O H' → IsLS K CS F.ls B' u → Q u H'

section
variable {P : Program} {w : World} {K : PySem.W.Frag} {mg : Str → Option Value} {base : Heap}


theorem ok_law_made {f CN CT CS t0 t1 : Addr} {fd : FuncData} (T : Txt K mg) (S : SetC K mg CS) (M : MkS P w K mg base CN CT CS t0 t1) (a : At K mg "_law_made" s_law_made ["fields", "is_tuple"] f fd) : FnOk P w K mg base CX0 10 f fd ["fields", "is_tuple"] (SpMade K CS) := by
  obtain ⟨⟨fI, fdI, Mk_, Fi, B4, ⟨d0, V0, B0⟩, ⟨d2, V2, B2⟩, gk, Bk⟩, E0_, E1_⟩ := M
  refine a.fn.ok sc_law_made (fun vs H Q E h => ?_) (fun cdv A outer s H vs Q E hr h => ?_)
  · obtain ⟨B, O, v, F, b, rfl, _⟩ := h
    rfl
  obtain ⟨B, O, v, F, b, rfl, hw, hd, ok, q⟩ := h
  refine ⟨_, (pss_cons (ps_asg (pv 0) (pg_or (pg_tupK K (n := 4) (by rfl) (pgs_cons (pg_name (i := 2) sc_law_made.nd rfl (Or.inl rfl)) (pgs_cons (pg_name (i := 3) sc_law_made.nd rfl (Or.inl rfl)) (pgs_cons (pg_name (i := 4) sc_law_made.nd rfl (Or.inl rfl)) (pgs_cons (pg_name (i := 5) sc_law_made.nd rfl (Or.inl rfl)) pgs_nil))))) (pg_lstK K (n := 4) (by rfl) (pgs_cons (pg_name (i := 2) sc_law_made.nd rfl (Or.inl rfl)) (pgs_cons (pg_name (i := 3) sc_law_made.nd rfl (Or.inl rfl)) (pgs_cons (pg_name (i := 4) sc_law_made.nd rfl (Or.inl rfl)) (pgs_cons (pg_name (i := 5) sc_law_made.nd rfl (Or.inl rfl)) pgs_nil)))))))
    (pss_cons (ps_if (pt_val (pv 1)) (pss_one (ps_ret (pe_makeN Mk_ Fi (hr.mono (by omega)) (by rfl) S.g Bk passL (pa_cons (pe_callTy (call_tupleK K) (by rfl) T.b_tuple (by decide +kernel) (pa_cons (pv 2) pa_nil)) pa_nil) (pk_cons (pv 3) (pk_cons (pv 4) (pk_cons (pe_callTy (call_tupleK K) (by rfl) T.b_tuple (by decide +kernel) (pa_cons (pv 5) pa_nil)) pk_nil)))))) pss_nil)
    (pss_one (ps_ret (pe_make Mk_ Fi (hr.mono (by omega)) (by rfl) S.g B4 .nil passL (pa_cons (pe_callTy (call_listK K) (by rfl) T.b_list (by decide +kernel) (pa_cons (pv 2) pa_nil)) (pa_cons (pv 3) (pa_cons (pv 4) (pa_cons (pe_callTy (call_listK K) (by rfl) T.b_list (by decide +kernel) (pa_cons (pv 5) pa_nil)) pa_nil))))))))), ?_⟩
  have st : Sta K B O [.dat F.enc, .dat (.bool b), .un, .un, .un, .un] (L2.start N_sc_law_made [v, .bl b]) H := ⟨hw, ⟨⟨_, rfl, hd⟩, ⟨_, rfl, .bl b⟩, trivial, trivial, trivial, trivial, trivial⟩⟩
  refine q_four st (ev_var rfl) (.inl rfl) fun σ1 B1 H1 x1 st => ?_
  refine q_when st (et_test (ev_var rfl)) (fun h B2 H2 x2 st => ?_) (fun h B2 H2 x2 st => ?_)
  · refine s_retP st (ev_makeN (ea_cons (ev_cb (ea_cons (ev_var rfl) ea_nil) rc_tupL) ea_nil) (ea_cons (ev_var rfl) (ea_cons (ev_var rfl) (ea_cons (ev_cb (ea_cons (ev_var rfl) ea_nil) rc_tupL) ea_nil))) rfl rfl rfl (right_of ok (.tuple (whole_list F.early)) (.tuple (whole_list F.tails)) (.inr rfl) (.inr rfl))) fun u B3 H3 x3 w3 p3 => ?_
    exact q u B3 H3 ((x1.trans x2).trans x3) w3 p3
  · refine s_retP st (ev_make (ea_cons (ev_cb (ea_cons (ev_var rfl) ea_nil) rc_listL) (ea_cons (ev_var rfl) (ea_cons (ev_var rfl) (ea_cons (ev_cb (ea_cons (ev_var rfl) ea_nil) rc_listL) ea_nil)))) (fun _ => .nil) rfl (right_of ok (.list (whole_list F.early)) (.list (whole_list F.tails)) (.inl rfl) (.inl rfl))) fun u B3 H3 x3 w3 p3 => ?_
    exact q u B3 H3 ((x1.trans x2).trans x3) w3 p3

end
end Toy
set_option Elab.async false
set_option linter.all false
set_option maxRecDepth 100000
set_option maxHeartbeats 4000000
namespace Toy
open PySem PySem.Spec PyProof.Rows L2 StX DL


def notNoneD : PyData → Bool
  | .none => false
  | _ => true
/-- x is not None -/
theorem ev_notNone {K : PySem.W.Frag} {B O : Hp} {G : List SD} {d : PyData} {ta tb : TE} (h : EvD K B O G ta d) (hb : EvD K B O G tb .none) : EvD K B O G (tOp (fun x y H Q => y = .non ∧ Q (.bl (!decide (x = .non))) H) ta tb) (.bool (notNoneD d)) :=
  ev_op h hb fun B1 O1 H v w hw hv hx Q q => ⟨dp_none hx, by
    have e : (!decide (v = V.non)) = notNoneD d := by cases hv <;> simp [notNoneD]
    rw [e]
    exact q _ B1 H (Ex.refl _) hw (.bl _)⟩
/-- i, j = e, f -/
theorem q_par {K : PySem.W.Frag} {B O : Hp} {G : List SD} {σ : L2.St} {H : Hp} {t : TA} {tz : TS} {D : Ends} {i j : Nat} {d e : PyData} (s : Sta K B O G σ H) (h : EvA K B O G t [d, e])
    (k : ∀ v u B' H', Ex B B' → Sta K B' O ((G.set i (.dat d)).set j (.dat e)) ((σ.set i (some v)).set j (some u)) H' → tz D ((σ.set i (some v)).set j (some u)) H') : tSeq (tPar i j t) tz D σ H :=
  h B O σ H (Ex.refl _) (Ex.refl _) s _ fun vs B' H' x w dv => by
    cases dv with
    | cons h1 dv =>
    cases dv with
    | cons h2 dv =>
    cases dv
    exact ⟨_, _, rfl, k _ _ B' H' x (((s.ex x w).set i h1).set j h2)⟩
/-- a property of the class that is read -/
structure PropP (P : Program) (w : World) (K : PySem.W.Frag) (mg : Str → Option Value) (base : Heap) (C : Addr) (f : Str) (sp : Sp) : Prop where
  ex : ∃ p g fd, PropOf K C f p g ∧ FnOk P w K mg base CX0 2 g fd ["self"] sp ∧ Binds K fd ["self"] []
  cls : Cls K C
theorem pe_prop0 {X : Cx} {C : Addr} {f : Str} {sp : Sp} {k : Nat} {e : Expr} {pos : Pos} {ta : TE} (Pp : PropP X.prog X.w X.K X.mg X.base C f sp) (hr : Room k X.A) (hk : 3 ≤ k) (he : PE X e ta) (hab : attributeBase e f X.env (eval e X.env) = eval e X.env) : PE X (.Attribute e f pos) (tProp C sp [] E0 ta) := by
  obtain ⟨p, g, fd, h1, h2, h3⟩ := Pp.ex
  exact pe_prop he Pp.cls h1 h2 (hr.mono hk) h3 .nil pass0 hab
/-- what is read back -/
def LS.told (L : LS) : Fld := ⟨idx L.marks, L.start, L.period, idx L.cycle⟩
/-- such a set is the shortest form of the fields -/
structure Short (L : LS) (F : Fld) : Prop where
  s : (L.start : Int) ≤ F.first
  p : (L.period : Int) ≤ F.rhythm
  f0 : 0 < F.rhythm
  e : rowL L.start (.list (whole_list (idx L.marks))) = true
  r : rowL L.period (.list (whole_list (idx L.cycle))) = true
  h : ∀ i : Nat, i < 40 → (LS.told L).has i = F.has i
  n : ∀ p : Nat, p < L.period - 1 → ∃ i : Nat, i < 12 ∧ F.has (8 + (i : Int)) ≠ F.has (8 + (i : Int) + (1 + (p : Int)))
  l : L.start = 0 ∨ F.has ((L.start : Int) - 1) ≠ F.has ((L.start : Int) - 1 + L.period)
theorem from_ge {i lo : Int} (h : lo ≤ i) : inFrom (.int i) lo none = true := by
  show (decide (lo ≤ i) && true) = true
  rw [decide_eq_true h]
  rfl
theorem wrong_told {L : LS} {F : Fld} (S : Short L F) (ok : LOk L) : wrongD (.list (whole_list (idx L.marks))) (.int L.start) (.int L.period) (.list (whole_list (idx L.cycle))) = .none := by
  have h1 := ok.p
  have h2 := ok.s
  unfold wrongD
  have a1 : inFrom (.int (L.start : Int)) 0 none = true := from_ge (by omega)
  have a2 : inFrom (.int (L.period : Int)) 1 none = true := from_ge (by omega)
  rw [a1, a2, if_neg (by decide), if_neg (by show ¬ decide (5000 < (L.start : Int)) = true; rw [decide_eq_true_eq]; omega), if_neg (by decide), if_neg (by show ¬ decide (5000 < (L.period : Int)) = true; rw [decide_eq_true_eq]; omega)]
  rw [if_neg (by rw [show rowL (intOf (.int (L.start : Int))) _ = true from S.e]; simp), if_neg (by rw [show rowL (intOf (.int (L.period : Int))) _ = true from S.r]; simp)]
def SpSh (K : PySem.W.Frag) (CS : Addr) : Sp := fun vs H Q _ => ∃ (B O : Hp) (v u : V) (L : LS) (F : Fld), vs = [v, u] ∧ W B O H ∧ IsLS K CS L B v ∧ LOk L ∧ Dt K B u F.enc ∧ Short L F ∧ ∀ B' H', Ex B B' → W B' O H' → Q (.bl true) H'
section
variable {K : PySem.W.Frag} {B O : Hp} {G : List SD} {te tn : TE} {C : Addr} {L : LS} {F : Fld} {fld : LS → List Bool} {E : XK} {i : Nat} {n : Int}
theorem el_prop {f : Str} (h : EvP K B O G te (IsLS K C L)) (ok : LOk L) : EvL K B O G (tProp C (SpIdx K C fld) [] E te) (whole_list (idx (fld L))) := fun B1 O1 σ H e o s Q q =>
  h B1 O1 σ H e o s _ fun v B2 H2 e2 w2 p => by
    obtain ⟨x, dx, fs, cv, mv, ev, hx, _⟩ := id p
    subst ev
    exact ⟨x, dx, fs, rfl, w2.b _ _ hx, B2, O1, .ref x, L, rfl, w2, p, ok, fun a ws B' H' e' n' w' d' => q a ws B' H' (e2.trans e') n' w' d'⟩
theorem ev_has (h : EvD K B O G te F.enc) (hn : EvD K B O G tn (.int n)) (hp : 0 < F.rhythm) : EvD K B O G (tCall (SpR K R_has) [] E (tCons te (tCons tn tNil))) (.bool (F.has n)) := ev_call (ea_cons h (ea_cons hn ea_nil)) ⟨F, n, hp, rfl, rfl⟩
theorem rd_neB {a b : Bool} : RD K rNe (.bool a) (.bool b) (.bool (a != b)) := rd_neS rfl rfl rfl (by rw [show decide (fv (.bool a) = fv (.bool b)) = (a == b) from dec_bl]; cases a <;> cases b <;> rfl)
end

section
variable {P : Program} {w : World} {K : PySem.W.Frag} {mg : Str → Option Value} {base : Heap}


theorem ok_law_is_shortest {f CS : Addr} {fd : FuncData} (T : Txt K mg) (S : SetC K mg CS) (Pe : PropP P w K mg base CS "early" (SpIdx K CS (·.marks))) (Pr : PropP P w K mg base CS "rests" (SpIdx K CS (·.cycle)))
    (C_law_whole : Cal P w K mg base 2 "_law_whole" ["thing", "least"] (SpR K R_whole)) (C_law_wrong : Cal P w K mg base 6 "_law_wrong" ["fields"] (SpR K R_wrong)) (C_law_has : Cal P w K mg base 2 "_law_has" ["fields", "number"] (SpR K R_has))
    (a : At K mg "_law_is_shortest" s_law_is_shortest ["lengths", "fields"] f fd) : FnOk P w K mg base CX0 8 f fd ["lengths", "fields"] (SpSh K CS) := by
  refine a.fn.ok sc_law_is_shortest (fun vs H Q E h => ?_) (fun cdv A outer s H vs Q E hr h => ?_)
  · obtain ⟨B, O, v, u, L, F, rfl, _⟩ := h
    rfl
  obtain ⟨B, O, v, u, L, F, rfl, hw, hL, ok, hd, sh, q⟩ := h
  refine ⟨_, (pss_cons (ps_par (i := 2) (j := 3) (by rfl) sc_law_is_shortest.nd rfl rfl (by decide) rfl rfl (pa_cons (pe_fldK K (pv 0) rfl) (pa_cons (pe_fldK K (pv 0) rfl) pa_nil)) (by rfl))
    (pss_cons (ps_if (PW.pt (pw_or (pt_not (pt_val (pe_cal C_law_whole hr (by omega) (by rfl) (pa_cons (pv 2) (pa_cons pe_int pa_nil))))) (pw_or (pt_not (pt_val (pe_cal C_law_whole hr (by omega) (by rfl) (pa_cons (pv 3) (pa_cons pe_int pa_nil))))) (pw_or (pt_cmpR op_gt (pv 2) (pe_ix (ix_tupK K) (pv 1) pe_int (fun _ _ => rfl)) (nomark _)) (pw_or1 (pt_cmpR op_gt (pv 3) (pe_ix (ix_tupK K) (pv 1) pe_int (fun _ _ => rfl)) (nomark _))))))) (pss_one (ps_ret pe_bl)) pss_nil)
    (pss_cons (ps_set (i := 4) sc_law_is_shortest.nd rfl (Or.inl rfl) (pe_tup (pa_cons (pe_prop0 Pe hr (by omega) (pv 0) rfl) (pa_cons (pv 2) (pa_cons (pv 3) (pa_cons (pe_prop0 Pr hr (by omega) (pv 0) rfl) pa_nil))))))
    (pss_cons (ps_if (pt_cmpR op_notN (pe_cal C_law_wrong hr (by omega) (by rfl) (pa_cons (pv 4) pa_nil)) pe_non (nomark _)) (pss_one (ps_ret pe_bl)) pss_nil)
    (pss_cons (ps_for PassesOwn.never rfl (pi_range1 (by rfl) T.b_range (pa_cons pe_int pa_nil)) (pg_name (i := 5) sc_law_is_shortest.nd rfl (Or.inl rfl)) (pss_one (ps_if (pt_cmpR op_ne (pe_cal C_law_has hr (by omega) (by rfl) (pa_cons (pv 4) (pa_cons (pv 5) pa_nil))) (pe_cal C_law_has hr (by omega) (by rfl) (pa_cons (pv 1) (pa_cons (pv 5) pa_nil))) (nomark _)) (pss_one (ps_ret pe_bl)) pss_nil)))
    (pss_cons (ps_for PassesOwn.never rfl (pi_range2 (by rfl) T.b_range (pa_cons pe_int (pa_cons (pv 3) pa_nil))) (pg_name (i := 6) sc_law_is_shortest.nd rfl (Or.inr rfl)) (pss_one (ps_if (pt_cmpR (op_eqDK K hr.units) (pe_lc (own := [("n", 7)]) (by rfl) sc_law_is_shortest.nd (pi_range2 (by rfl) T.b_range (pa_cons pe_int (pa_cons (pe_op op_add pe_int pe_int) pa_nil))) (blkOk_by (own := [("n", 7)]) (N := N_sc_law_is_shortest) (sc := defScope s_law_is_shortest) (by decide +kernel)) (fun _ _ _ _ _ => (pg_name (i := 7) sc_law_is_shortest.nd rfl (Or.inl rfl))) (fun _ _ _ _ _ => (pts_one (pt_cmpR op_ne (pe_cal C_law_has hr (by omega) (by rfl) (pa_cons (pv 1) (pa_cons (pv 7) pa_nil))) (pe_cal C_law_has hr (by omega) (by rfl) (pa_cons (pv 1) (pa_cons (pe_op op_add (pv 7) (pv 6)) pa_nil))) (nomark _)))) (fun _ _ _ _ _ => (pv 7))) (pe_lst pa_nil) (nomark _)) (pss_one (ps_ret pe_bl)) pss_nil)))
    (pss_one (ps_ret (pe_or (pe_cmpR op_eq (pv 2) pe_int (nomark _)) (pe_one (pe_cmpR op_ne (pe_cal C_law_has hr (by omega) (by rfl) (pa_cons (pv 1) (pa_cons (pe_op op_sub (pv 2) pe_int) pa_nil))) (pe_cal C_law_has hr (by omega) (by rfl) (pa_cons (pv 1) (pa_cons (pe_op op_add (pe_op op_sub (pv 2) pe_int) (pv 3)) pa_nil))) (nomark _)))))))))))), ?_⟩
  have st : Sta K B O [.val v, .dat F.enc, .un, .un, .un, .un, .un, .un] (L2.start N_sc_law_is_shortest [v, u]) H := ⟨hw, ⟨rfl, ⟨_, rfl, hd⟩, trivial, trivial, trivial, trivial, trivial, trivial, trivial⟩⟩
  have hp := sh.f0
  refine q_par st (ea_cons (f_start S (ev_ls (i := 0) rfl hL)) (ea_cons (f_period S (ev_ls (i := 0) rfl hL)) ea_nil)) fun va vb B1 H1 x1 st => ?_
  have st : Sta K B1 O [.val v, .dat F.enc, .dat (.int (L.start : Int)), .dat (.int (L.period : Int)), .un, .un, .un, .un] _ H1 := st
  have hL1 := hL.ex x1
  refine q_whenF st (et_is (et_or (a := false) (b := false) (et_not (et_test (ev_call (R := R_whole) (d := .bool true) (ea_cons (ev_var rfl) (ea_cons ev_int ea_nil)) ⟨_, 0, rfl, congrArg PyData.bool (from_ge (by omega)).symm⟩))) fun _ => et_or (a := false) (b := false) (et_not (et_test (ev_call (R := R_whole) (d := .bool true) (ea_cons (ev_var rfl) (ea_cons ev_int ea_nil)) ⟨_, 1, rfl, congrArg PyData.bool (from_ge (by have := ok.p; omega)).symm⟩))) fun _ =>
    et_or (a := false) (b := false) (et_test (ev_is (ev_op (ev_var rfl) (ev_op (ev_var rfl) ev_int (rd_ixT at1)) rd_B0) (by have := sh.s; simp; omega))) fun _ => et_test (ev_is (ev_op (ev_var rfl) (ev_op (ev_var rfl) ev_int (rd_ixT at2)) rd_B0) (by have := sh.p; simp; omega))) rfl) fun B2 H2 x2 st => ?_
  have hL2 := hL1.ex x2
  refine q_asg st (ev_tup (ds := [.list (whole_list (idx L.marks)), .int (L.start : Int), .int (L.period : Int), .list (whole_list (idx L.cycle))]) (ea_cons (el_prop (f := "early") (ev_ls rfl hL2) ok).d (ea_cons (ev_var rfl) (ea_cons (ev_var rfl) (ea_cons (el_prop (f := "rests") (ev_ls rfl hL2) ok).d ea_nil)))) (by simp)) fun v3 B3 H3 x3 d3 st => ?_
  have st : Sta K B3 O [.val v, .dat F.enc, .dat (.int (L.start : Int)), .dat (.int (L.period : Int)), .dat (LS.told L).enc, .un, .un, .un] _ H3 := st
  refine q_whenF st (et_test (ev_is (ev_notNone (ev_call (ea_cons (ev_var rfl) ea_nil) ⟨_, _, _, _, _, .inl rfl, rfl, rfl⟩) ev_non) (congrArg (fun d => PyData.bool (notNoneD d)) (wrong_told sh ok)))) fun B4 H4 x4 st => ?_
  have hpt : 0 < (LS.told L).rhythm := by
    have := ok.p
    show (0 : Int) < (L.period : Int)
    omega
  refine q_for st (ei_range1 (j := 40) (ea_cons ev_int ea_nil) (by decide)) (fun i B' O' G' => O' = O ∧ ∃ g5 : SD, G' = [.val v, .dat F.enc, .dat (.int (L.start : Int)), .dat (.int (L.period : Int)), .dat (LS.told L).enc, g5, .un, .un]) (fun i B1 B2 O1 G1 _ h => h) ⟨rfl, _, rfl⟩ ?_ ?_
  · rintro i e B5 O5 G5 σ5 H5 v5 hie x5 ⟨rfl, g5, rfl⟩ st dv N hN
    obtain ⟨hi, rfl⟩ := range_inv hie
    have ez : (0 : Int) + (i : Int) = i := by omega
    rw [ez] at dv
    refine eg_name B5 _ σ5 H5 v5 st dv _ fun σ6 st _ => ?_
    refine s_if st (b := false) (et_test (ev_is (ev_op (ev_has (ev_var rfl) (ev_var rfl) hpt) (ev_has (ev_var rfl) (ev_var rfl) hp) rd_neB) (by rw [sh.h i (by omega)]; simp))) (fun z => nomatch z) fun _ B6 H6 x6 st => ?_
    exact hN B6 _ _ _ _ x6 ⟨rfl, _, rfl⟩ st
  · rintro B5 O5 G5 σ5 H5 x5 ⟨rfl, g5, rfl⟩ st
    have hper := ok.p
    refine q_for st (ei_range2 (i := 1) (j := (L.period : Int)) (ea_cons ev_int (ea_cons (ev_var rfl) ea_nil)) (by decide) (by omega)) (fun i B' O' G' => O' = O5 ∧ ∃ g6 : SD, G' = [.val v, .dat F.enc, .dat (.int (L.start : Int)), .dat (.int (L.period : Int)), .dat (LS.told L).enc, g5, g6, .un]) (fun i B1 B2 O1 G1 _ h => h) ⟨rfl, _, rfl⟩ ?_ ?_
    · rintro i e B6 O6 G6 σ6 H6 v6 hie x6 ⟨rfl, g6, rfl⟩ st dv N hN
      obtain ⟨hi, rfl⟩ := range_inv hie
      refine eg_name B6 _ σ6 H6 v6 st dv _ fun σ7 st _ => ?_
      have hne := sh.n i (by omega)
      refine s_if st (b := false) (et_test (ev_op (ev_lcT (List.range 12) (fun j => .int (8 + (j : Int))) (fun j => F.has (8 + (j : Int)) != F.has (8 + (j : Int) + (1 + (i : Int)))) (fun j => .int (8 + (j : Int))) (fun j => _) ?_ (by simp) (fun j _ => eg_nameW (by decide)) (fun j _ => et_test (ev_op (ev_has (ev_var rfl) (ev_var rfl) hp) (ev_has (ev_var rfl) (ev_op (ev_var rfl) (ev_var rfl) rd_I0) hp) rd_neB)) (fun j _ _ => ev_var rfl)) (ev_lst ea_nil (by simp)) (rd_eq ?_ (by decide +kernel) ?_))) (fun z => nomatch z) fun _ B7 H7 x7 st => ?_
      · exact ei_range2 (i := 8) (j := 20) (ea_cons ev_int (ea_cons (ev_op ev_int ev_int rd_I0) ea_nil)) (by decide) (by decide)
      · refine (PT.lay_lst (n := 0) fun d hd => ?_).sh (by decide)
        obtain ⟨j, _, rfl⟩ := List.mem_map.mp hd
        exact PT.lay_int
      · obtain ⟨j, hj, hjn⟩ := hne
        have hm : j ∈ (List.range 12).filter (fun (j : Nat) => F.has (8 + (j : Int)) != F.has (8 + (j : Int) + (1 + (i : Int)))) := List.mem_filter.mpr ⟨List.mem_range.mpr hj, by simpa using hjn⟩
        cases hl : (List.range 12).filter (fun (j : Nat) => F.has (8 + (j : Int)) != F.has (8 + (j : Int) + (1 + (i : Int)))) with
        | nil => rw [hl] at hm; cases hm
        | cons y ys => simp [PyData.eqv, PyData.eqvAll]
      · exact hN B7 _ _ _ _ x7 ⟨rfl, _, rfl⟩ st
    · rintro B6 O6 G6 σ6 H6 x6 ⟨rfl, g6, rfl⟩ st
      refine s_ret st (d := .bool true) (ev_is (ev_orV (a := ((L.start : Int) == 0)) (b := F.has ((L.start : Int) - 1) != F.has ((L.start : Int) - 1 + (L.period : Int))) (ev_op (ev_var rfl) ev_int rd_eqInt) fun _ => ev_op (ev_has (ev_var rfl) (ev_op (ev_var rfl) ev_int rd_I0) hp) (ev_has (ev_var rfl) (ev_op (ev_op (ev_var rfl) ev_int rd_I0) (ev_var rfl) rd_I0) hp) rd_neB) ?_) fun v7 B7 H7 x7 w7 d7 => ?_
      · rcases sh.l with h | h
        · simp [h]
        · simp [h]
      · rw [dp_bool d7]
        exact q B7 H7 ((((((x1.trans x2).trans x3).trans x4).trans x5).trans x6).trans x7) w7

end
end Toy
set_option Elab.async false
set_option linter.all false
set_option maxRecDepth 100000
set_option maxHeartbeats 4000000
namespace Toy
open PySem PySem.Spec PyProof.Rows L2 StX DL


/-- in, == and != of the class -/
structure OpsS (P : Program) (w : World) (K : PySem.W.Frag) (mg : Str → Option Value) (base : Heap) (C : Addr) : Prop where
  i : ∃ f fd, PySem.W.findIn K (.ref C) "__contains__" = some (some (.ref f)) ∧ PySem.W.isFn K (.ref f) = true ∧ FnOk P w K mg base CX0 6 f fd ["self", "x"] (SpHas K C) ∧ Binds K fd ["self", "x"] []
  e : ∃ f fd, PySem.W.findIn K (.ref C) "__eq__" = some (some (.ref f)) ∧ PySem.W.isFn K (.ref f) = true ∧ FnOk P w K mg base CX0 2 f fd ["self", "other"] (SpEqL K C) ∧ Binds K fd ["self", "other"] []
  n : PySem.W.findIn K (.ref C) "__ne__" = some (some (.builtin "object.__ne__"))
  m : PySem.W.mroIn K C (.type "object") = some true
section
variable {K : PySem.W.Frag} {B O : Hp} {G : List SD} {ta tb te : TE} {C : Addr} {L M : LS} {d : PyData} {E : XK} {t : TA}
theorem ev_in (h : EvD K B O G ta d) (hs : EvP K B O G tb (IsLS K C L)) (ok : LOk L) : EvD K B O G (tOp (rInOwn C (SpHas K C) E) ta tb) (.bool (hasL L d)) := fun B1 O1 σ H e o s Q q =>
  h B1 O1 σ H e o s _ fun u B2 H2 e2 w2 d2 => hs B2 O1 σ H2 (e.trans e2) o (s.ex e2 w2) _ fun v B3 H3 e3 w3 p => by
    obtain ⟨x, dx, fs, cv, mv, ev, hx, _⟩ := id p
    subst ev
    exact ⟨x, dx, fs, rfl, w3.b _ _ hx, B3, O1, .ref x, u, L, d, rfl, w3, p, ok, dp_ex e3 _ _ d2, fun B' H' e' w' => ⟨hasL L d, rfl, q _ B' H' ((e2.trans e3).trans e') w' (.bl _)⟩⟩
theorem ev_eqS (h1 : EvP K B O G ta (IsLS K C L)) (h2 : EvP K B O G tb (IsLS K C M)) : EvD K B O G (tOp (rCmpOwn K C (SpEqL K C) E) ta tb) (.bool (decide (L.marks = M.marks) && decide (L.cycle = M.cycle))) := fun B1 O1 σ H e o s Q q =>
  h1 B1 O1 σ H e o s _ fun u B2 H2 e2 w2 p1 => h2 B2 O1 σ H2 (e.trans e2) o (s.ex e2 w2) _ fun v B3 H3 e3 w3 p2 => by
    have p1 := p1.ex e3
    obtain ⟨x, dx, fs, _, _, ev, hx, _⟩ := id p1
    obtain ⟨y, dy, gs, _, _, ev2, hy, _⟩ := id p2
    subst ev ev2
    exact ⟨x, dx, fs, y, dy, gs, rfl, rfl, w3.b _ _ hx, w3.b _ _ hy, B3, O1, .ref x, .ref y, L, M, rfl, w3, p1, p2, fun B' H' e' w' => q _ B' H' ((e2.trans e3).trans e') w' (.bl _)⟩
theorem ev_neS (h1 : EvP K B O G ta (IsLS K C L)) (h2 : EvP K B O G tb (IsLS K C M)) : EvD K B O G (tOp (rNeOwn C (SpEqL K C) E) ta tb) (.bool (!(decide (L.marks = M.marks) && decide (L.cycle = M.cycle)))) := fun B1 O1 σ H e o s Q q =>
  h1 B1 O1 σ H e o s _ fun u B2 H2 e2 w2 p1 => h2 B2 O1 σ H2 (e.trans e2) o (s.ex e2 w2) _ fun v B3 H3 e3 w3 p2 => by
    have p1 := p1.ex e3
    obtain ⟨x, dx, fs, _, _, ev, hx, _⟩ := id p1
    obtain ⟨y, dy, gs, _, _, ev2, hy, _⟩ := id p2
    subst ev ev2
    exact ⟨x, dx, fs, y, dy, gs, rfl, rfl, w3.b _ _ hx, w3.b _ _ hy, B3, O1, .ref x, .ref y, L, M, rfl, w3, p1, p2, fun B' H' e' w' => ⟨_, rfl, q _ B' H' ((e2.trans e3).trans e') w' (.bl _)⟩⟩
/-- a new list is appended to and let go -/
theorem s_appNew {σ : L2.St} {H : Hp} {D : Ends} {ds : List PyData} (s : Sta K B O G σ H) (h : EvL K B O G te ds) (hl : ds.length < 100000) (hd : EvD K B O G ta d) (k : ∀ B' H', Ex B B' → Sta K B' O G σ H' → D.nx σ H') : tDrop (tBM K "list" rAppend te (tCons ta tNil)) D σ H :=
  h B O σ H (Ex.refl _) (Ex.refl _) s _ fun p vs B2 H2 e2 n2 w2 d2 => by
    refine ⟨.inl ⟨rfl, _, SqL.of (w2.o _ _ upd_same)⟩, ?_⟩
    refine hd B2 _ σ H2 e2 (Ex.new n2) ⟨w2, s.s.ex e2⟩ _ fun v B3 H3 e3 w3 d3 => ?_
    refine ⟨p, vs, v, rfl, rfl, w3.o _ _ upd_same, Nat.lt_of_lt_of_le (by rw [dps_len d2]; exact hl) (by decide), ?_⟩
    have w4 := w3.mut (v := .lst (vs ++ [v])) upd_same
    rw [upd_upd] at w4
    exact k B3 _ (e2.trans e3) ⟨W.sub w4 (Ex.new n2), s.s.ex (e2.trans e3)⟩
theorem q_appNew {σ : L2.St} {H : Hp} {D : Ends} {tz : TS} {ds : List PyData} (s : Sta K B O G σ H) (h : EvL K B O G te ds) (hl : ds.length < 100000) (hd : EvD K B O G ta d) (k : ∀ B' H', Ex B B' → Sta K B' O G σ H' → tz D σ H') : tSeq (tDrop (tBM K "list" rAppend te (tCons ta tNil))) tz D σ H := s_appNew (D := { D with nx := tz D }) s h hl hd k
theorem ev_sh {u : V} {F : Fld} (h1 : EvP K B O G ta (IsLS K C L)) (ok : LOk L) (h2 : EvD K B O G tb F.enc) (sh : Short L F) : EvD K B O G (tCall (SpSh K C) [] E (tCons ta (tCons tb tNil))) (.bool true) := fun B1 O1 σ H e o s Q q =>
  h1 B1 O1 σ H e o s _ fun v B2 H2 e2 w2 p => h2 B2 O1 σ H2 (e.trans e2) o (s.ex e2 w2) _ fun u B3 H3 e3 w3 d3 => ⟨B3, O1, v, u, L, F, rfl, w3, p.ex e3, ok, d3, sh, fun B' H' e' w' => q _ B' H' ((e2.trans e3).trans e') w' (.bl true)⟩
theorem ev_made {F : Fld} {b : Bool} (h1 : EvD K B O G ta F.enc) (ok : F.Ok) (h2 : EvD K B O G tb (.bool b)) : EvP K B O G (tCall (SpMade K C) [] E (tCons ta (tCons tb tNil))) (IsLS K C F.ls) := fun B1 O1 σ H e o s Q q =>
  h1 B1 O1 σ H e o s _ fun v B2 H2 e2 w2 d2 => h2 B2 O1 σ H2 (e.trans e2) o (s.ex e2 w2) _ fun u B3 H3 e3 w3 d3 => by
    have eu := dp_bool d3
    subst eu
    exact ⟨B3, O1, v, F, b, rfl, w3, dp_ex e3 _ _ d2, ok, fun u B' H' e' w' p => q u B' H' ((e2.trans e3).trans e') w' p⟩
end
theorem idx_small {bs : List Bool} {n : Nat} (h : bs.length = n) (hn : n ≤ 5000) : (whole_list (idx bs)).length < 100000 := by
  unfold whole_list idx
  rw [List.length_map, List.length_map]
  have := List.length_filter_le (fun i => bs.getD i false) (List.range bs.length)
  rw [List.length_range] at this
  omega
/-- all that is to be reckoned of fields -/
structure Fine (F : Fld) : Prop where
  ok : F.Ok
  l : LOk F.ls
  h : ∀ i : Nat, i < 40 → hasL F.ls (.int (i : Int)) = F.has i
  sh : Short F.ls F
def SpRight (K : PySem.W.Frag) : Sp := fun vs H Q _ => ∃ (B O : Hp) (v : V) (F : Fld) (b : Bool), vs = [v, .bl b] ∧ W B O H ∧ Dt K B v F.enc ∧ Fine F ∧ ∀ B' H', Ex B B' → W B' O H' → Q (.bl true) H'

section
variable {P : Program} {w : World} {K : PySem.W.Frag} {mg : Str → Option Value} {base : Heap}


theorem ok_law_right {f CS : Addr} {fd : FuncData} (T : Txt K mg) (S : SetC K mg CS) (Os : OpsS P w K mg base CS) (Pe : PropP P w K mg base CS "early" (SpIdx K CS (·.marks))) (Pr : PropP P w K mg base CS "rests" (SpIdx K CS (·.cycle)))
    (C_law_made : Cal P w K mg base 10 "_law_made" ["fields", "is_tuple"] (SpMade K CS)) (C_law_has : Cal P w K mg base 2 "_law_has" ["fields", "number"] (SpR K R_has)) (C_law_is_shortest : Cal P w K mg base 8 "_law_is_shortest" ["lengths", "fields"] (SpSh K CS))
    (a : At K mg "_law_right" s_law_right ["fields", "is_tuple"] f fd) : FnOk P w K mg base CX0 12 f fd ["fields", "is_tuple"] (SpRight K) := by
  obtain ⟨⟨fi, fdi, hin, hinf, Fin, Bin⟩, ⟨fe, fde, heq, heqf, Feq, Beq_⟩, hne, hmro⟩ := Os
  refine a.fn.ok sc_law_right (fun vs H Q E h => ?_) (fun cdv A outer s H vs Q E hr h => ?_)
  · obtain ⟨B, O, v, F, b, rfl, _⟩ := h
    rfl
  obtain ⟨B, O, v, F, b, rfl, hw, hd, fine, q⟩ := h
  refine ⟨_, (pss_cons (ps_set (i := 2) sc_law_right.nd rfl (Or.inl rfl) (pe_cal C_law_made hr (by omega) (by rfl) (pa_cons (pv 0) (pa_cons (pv 1) pa_nil))))
    (pss_cons (ps_for PassesOwn.never rfl (pi_range1 (by rfl) T.b_range (pa_cons pe_int pa_nil)) (pg_name (i := 3) sc_law_right.nd rfl (Or.inl rfl)) (pss_one (ps_if (pt_cmpR op_ne (pe_cmpR (op_inOwn Fin Bin pass0 (Room.mono hr (by omega)) hin hinf) (pv 3) (pv 2) (by rfl)) (pe_cal C_law_has hr (by omega) (by rfl) (pa_cons (pv 0) (pa_cons (pv 3) pa_nil))) (nomark _)) (pss_one (ps_ret pe_bl)) pss_nil)))
    (pss_cons (ps_if (PW.pt (pw_or (pt_cmpR (op_inOwn Fin Bin pass0 (Room.mono hr (by omega)) hin hinf) (pe_un un_neg pe_int) (pv 2) (by rfl)) (pw_or (pt_cmpR (op_inOwn Fin Bin pass0 (Room.mono hr (by omega)) hin hinf) pe_bl (pv 2) (by rfl)) (pw_or (pt_cmpR (op_inOwn Fin Bin pass0 (Room.mono hr (by omega)) hin hinf) pe_non (pv 2) (by rfl)) (pw_or (pt_cmpR (op_inOwn Fin Bin pass0 (Room.mono hr (by omega)) hin hinf) pe_str (pv 2) (by rfl)) (pw_or1 (pt_cmpR (op_inOwn Fin Bin pass0 (Room.mono hr (by omega)) hin hinf) (pe_lst pa_nil) (pv 2) (by rfl)))))))) (pss_one (ps_ret pe_bl)) pss_nil)
    (pss_cons (ps_if (pt_not (pt_val (pe_cal C_law_is_shortest hr (by omega) (by rfl) (pa_cons (pv 2) (pa_cons (pv 0) pa_nil))))) (pss_one (ps_ret pe_bl)) pss_nil)
    (pss_cons (ps_expr (pe_bm PySem.F.plainAttrs_list PySem.F.slot_list_append PySem.F.type_list_append mt_append (pe_prop0 Pe hr (by omega) (pv 2) rfl) (pa_cons pe_int pa_nil)))
    (pss_cons (ps_expr (pe_bm PySem.F.plainAttrs_list PySem.F.slot_list_append PySem.F.type_list_append mt_append (pe_prop0 Pr hr (by omega) (pv 2) rfl) (pa_cons pe_int pa_nil)))
    (pss_one (ps_ret (pe_and (pe_cal C_law_is_shortest hr (by omega) (by rfl) (pa_cons (pv 2) (pa_cons (pv 0) pa_nil))) (pe_one (pe_cmpR (op_cmpOwn (op := .Eq) (fun _ _ => rfl) heq heqf Feq Beq_ (Room.mono hr (by omega)) pass0) (pv 2) (pe_cal C_law_made hr (by omega) (by rfl) (pa_cons (pv 0) (pa_cons (pe_not (pv 1)) pa_nil))) (by rfl)))))))))))), ?_⟩
  have st : Sta K B O [.dat F.enc, .dat (.bool b), .un, .un] (L2.start N_sc_law_right [v, .bl b]) H := ⟨hw, ⟨⟨_, rfl, hd⟩, ⟨_, rfl, .bl b⟩, trivial, trivial, trivial⟩⟩
  have hp : 0 < F.rhythm := by have := fine.ok.r0.1; omega
  refine q_asgP st (ev_made (C := CS) (ev_var rfl) fine.ok (ev_var rfl)) fun v1 B1 H1 x1 p1 st => ?_
  refine q_for st (ei_range1 (j := 40) (ea_cons ev_int ea_nil) (by decide)) (fun i B' O' G' => O' = O ∧ IsLS K CS F.ls B' v1 ∧ ∃ g3 : SD, G' = [.dat F.enc, .dat (.bool b), .val v1, g3]) (fun i B1 B2 O1 G1 e ⟨h1, h2, h3⟩ => ⟨h1, h2.ex e, h3⟩) ⟨rfl, p1, _, rfl⟩ ?_ ?_
  · rintro i e B5 O5 G5 σ5 H5 v5 hie x5 ⟨rfl, p5, g3, rfl⟩ st dv N hN
    obtain ⟨hi, rfl⟩ := range_inv hie
    have ez : (0 : Int) + (i : Int) = i := by omega
    rw [ez] at dv
    refine eg_name B5 _ σ5 H5 v5 st dv _ fun σ6 st _ => ?_
    refine s_if st (b := false) (et_test (ev_is (ev_op (ev_in (ev_var rfl) (ev_ls rfl p5) fine.l) (ev_has (ev_var rfl) (ev_var rfl) hp) rd_neB) (by rw [fine.h i (by omega)]; simp))) (fun z => nomatch z) fun _ B6 H6 x6 st => ?_
    exact hN B6 _ _ _ _ x6 ⟨rfl, p5.ex x6, _, rfl⟩ st
  · rintro B5 O5 G5 σ5 H5 x5 ⟨rfl, p5, g3, rfl⟩ st
    have hn : ∀ {d : PyData}, inFrom d 0 none = false → hasL F.ls d = false := hasL_not
    refine q_whenF st (et_is (et_or (a := false) (b := false) (et_test (ev_is (ev_in (ev_un ev_int) (ev_ls rfl p5) fine.l) (congrArg PyData.bool (hn rfl)))) fun _ => et_or (a := false) (b := false) (et_test (ev_is (ev_in ev_bl (ev_ls rfl p5) fine.l) (congrArg PyData.bool (hn rfl)))) fun _ =>
      et_or (a := false) (b := false) (et_test (ev_is (ev_in ev_non (ev_ls rfl p5) fine.l) (congrArg PyData.bool (hn rfl)))) fun _ => et_or (a := false) (b := false) (et_test (ev_is (ev_in ev_str (ev_ls rfl p5) fine.l) (congrArg PyData.bool (hn rfl)))) fun _ =>
      et_test (ev_is (ev_in (ev_lst ea_nil (by simp)) (ev_ls rfl p5) fine.l) (congrArg PyData.bool (hn rfl)))) rfl) fun B6 H6 x6 st => ?_
    have p6 := p5.ex x6
    refine q_whenF st (et_is (et_not (et_test (ev_sh (u := v) (ev_ls rfl p6) fine.l (ev_var rfl) fine.sh))) rfl) fun B7 H7 x7 st => ?_
    have p7 := p6.ex x7
    have lm : (whole_list (idx F.ls.marks)).length < 100000 := idx_small fine.l.m fine.l.s
    have lc : (whole_list (idx F.ls.cycle)).length < 100000 := idx_small fine.l.c fine.l.p.2
    refine q_appNew st (el_prop (f := "early") (ev_ls rfl p7) fine.l) lm ev_int fun B8 H8 x8 st => ?_
    have p8 := p7.ex x8
    refine q_appNew st (el_prop (f := "rests") (ev_ls rfl p8) fine.l) lc ev_int fun B9 H9 x9 st => ?_
    have p9 := p8.ex x9
    refine s_ret st (ev_andV (a := true) (b := true) (ev_sh (u := v) (ev_ls rfl p9) fine.l (ev_var rfl) fine.sh) fun _ => ev_is (ev_eqS (ev_ls rfl p9) (ev_made (ev_var rfl) fine.ok (ev_notV (ev_var rfl)))) (by simp)) fun u B10 H10 x10 w10 d10 => ?_
    rw [dp_bool d10]
    exact q B10 H10 (((((((x1.trans x5).trans x6).trans x7).trans x8).trans x9)).trans x10) w10

end
end Toy
set_option Elab.async false
set_option linter.all false
set_option maxRecDepth 100000
set_option maxHeartbeats 4000000
namespace Toy
open PySem PySem.Spec PyProof.Rows L2 StX DL


section
variable {K : PySem.W.Frag} {B O : Hp} {G : List SD} {te ta : TE} {i : Nat} {p : Addr} {n : Int} {E : XK}
theorem at_some {ds : List PyData} {r : Int} (h0 : 0 ≤ r) (h1 : r < ds.length) : ∃ z, z ∈ ds ∧ atI ds r = some z := by
  have hk : ds[r.toNat]? = some ds[r.toNat] := List.getElem?_eq_getElem (by omega)
  exact ⟨_, List.mem_of_getElem? hk, at_nn h0 hk⟩
/-- an item of a list, by a draw -/
theorem ex_item {ds : List PyData} (h : EvD K B O G ta (.list ds)) (hl : (ds.length : Int) = n) (hg : G[i]? = some (.val (.ref p))) (hp : PoolAt O p) (h0 : 0 < n) (h1 : n < 1000000) :
    EvX K B O G (tOp (rIxL K) ta (tCall (SpX K PreDraw) [] E (tCons (tVar i) (tCons (tC (.int n)) tNil)))) (fun z O' => z ∈ ds ∧ Mv p O O') :=
  ex_op (ex_pure h) (R2' := fun _ O' d2 O'' => ∃ r, d2 = .int r ∧ 0 ≤ r ∧ r < n ∧ Mv p O' O'') (fun d1 B' O' _ e => by
    obtain ⟨_, rfl⟩ := e
    exact ex_draw hg hp h0 h1) fun d1 O' d2 O'' e1 e2 => by
    obtain ⟨rfl, rfl⟩ := e1
    obtain ⟨r, rfl, r0, r1, m⟩ := e2
    obtain ⟨z, hz, ha⟩ := at_some (ds := ds) r0 (by omega)
    exact ⟨z, rd_ixL ha, hz, m⟩
/-- x[z] = e, e reckoned with changes that leave the list -/
theorem s_setX {σ : L2.St} {H : Hp} {D : Ends} {l : Addr} {vs : List V} {z : Int} {j : Nat} {R : PyData → Hp → Prop} (s : Sta K B O G σ H) (hg : G[i]? = some (.val (.ref l))) (h : EvX K B O G te R) (hr : ∀ d O', R d O' → O' l = some (.lst vs)) (hj : ixN vs.length z = some j)
    (k : ∀ v d B' O' H', Ex B B' → R d O' → Dt K B' v d → Sta K B' (upd O' l (.lst (vs.set j v))) G σ H' → D.nx σ H') : tAsg te (gSub (tVar i) (tC (.int z)) rSetL) D σ H := by
  obtain ⟨sv, h1, h2⟩ := s.s.get hg
  have h3 : sv = some (.ref l) := h2
  subst h3
  refine h B σ H (Ex.refl _) s _ fun v d B' O' H' e r w dv => ?_
  exact ⟨_, h1, l, vs, z, j, rfl, rfl, w.o _ _ (hr d O' r), hj, k v d B' O' _ e r dv ⟨w.mut (hr d O' r), s.s.ex e⟩⟩
/-- four data at l, none a tuple -/
structure Bent (K : PySem.W.Frag) (O0 : Hp) (p l : Addr) (B O : Hp) : Prop where
  ds : ∃ vs ds, O l = some (.lst vs) ∧ DtAll K B vs ds ∧ ds.length = 4 ∧ ∀ d, d ∈ ds → isTupD d = false
  pool : PoolAt O p
  fr : ∀ a, a ≠ p → a ≠ l → O a = O0 a
theorem Bent.ex {O0 B' : Hp} {l : Addr} (b : Bent K O0 p l B O) (e : Ex B B') : Bent K O0 p l B' O := by
  obtain ⟨⟨vs, ds, h1, h2, h3⟩, h4, h5⟩ := b
  exact ⟨⟨vs, ds, h1, dps_ex e _ _ h2, h3⟩, h4, h5⟩
theorem s_bend {σ : L2.St} {H O0 : Hp} {D : Ends} {l : Addr} {x y z : Int} {j : Nat} {g2 : SD} {items : List PyData} (lp : l ≠ p) (b : Bent K O0 p l B O) (hG : G = [.val (.ref p), .val (.ref l), g2, .dat (.int x)]) (s : Sta K B O G σ H) (hj : ixN 4 z = some j) (hi : EvD K B O G ta (.list items)) (hn : (items.length : Int) = n) (h0 : 0 < n) (h1 : n < 1000000) (hit : ∀ d, d ∈ items → isTupD d = false)
    (k : ∀ B' O' H', Ex B B' → Bent K O0 p l B' O' → Sta K B' O' G σ H' → D.nx σ H') :
    tIfS (tTest (tOp rEq (tVar 3) (tC (.int y)))) (tAsg (tOp (rIxL K) ta (tCall (SpX K PreDraw) [] E (tCons (tVar 0) (tCons (tC (.int n)) tNil)))) (gSub (tVar 1) (tC (.int z)) rSetL)) tNext D σ H := by
  subst hG
  obtain ⟨⟨vs, ds, a1, a2, a3, a4⟩, hp, hfr⟩ := b
  refine s_if s (et_test (ev_op (ev_var rfl) ev_int rd_eqInt)) (fun _ B1 H1 x1 s => ?_) (fun _ B1 H1 x1 s => k B1 O H1 x1 ⟨⟨vs, ds, a1, dps_ex x1 _ _ a2, a3, a4⟩, hp, hfr⟩ s)
  refine s_setX s rfl (ex_item (hi.ex x1) hn rfl hp h0 h1) (fun d O' r => by rw [r.2.fr l lp]; exact a1) (by rw [dps_len a2, a3]; exact hj) fun v d B2 O2 H2 x2 r dv s => ?_
  refine k B2 _ H2 (x1.trans x2) ⟨⟨_, ds.set j d, upd_same, dps_set j (dps_ex (x1.trans x2) _ _ a2) dv, by rw [List.length_set]; exact a3, fun e he => ?_⟩, ?_, fun a ha hb => ?_⟩ s
  · rcases List.mem_or_eq_of_mem_set he with he | rfl
    · exact a4 e he
    · exact hit _ r.1
  · obtain ⟨xx, yy, e, hy⟩ := r.2.pool
    exact ⟨xx, yy, by rw [upd_ne lp.symm]; exact e, hy⟩
  · rw [upd_ne hb, r.2.fr a ha]
    exact hfr a ha hb
end
def PreBent (gs : List SD) (_ O : Hp) (R : PyData → Hp → Prop) : Prop := ∃ (p : Addr) (F : Fld), gs = [.val (.ref p), .dat F.enc] ∧ PoolAt O p ∧ R = fun d O' => ∃ ds : List PyData, d = .list ds ∧ ds.length = 4 ∧ (∀ d, d ∈ ds → isTupD d = false) ∧ Mv p O O'

section
variable {P : Program} {w : World} {K : PySem.W.Frag} {mg : Str → Option Value} {base : Heap}


theorem ok_law_bent {f fr : Addr} {fd fdr : FuncData} (T : Txt K mg) (a : At K mg "_law_bent" s_law_bent ["pool", "fields"] f fd) (ad : At K mg "_law_draw" s_law_draw ["pool", "count"] fr fdr) : FnOk P w K mg base CX0 4 f fd ["pool", "fields"] (SpX K PreBent) := by
  have C_law_draw := ad.cal (ok_law_draw (P := P) (w := w) (base := base) T ad)
  refine ok_fnX a.fn sc_law_bent (by rintro gs B O R ⟨p, F, rfl, _⟩; rfl) fun cdv A outer s H0 E hr => ?_
  refine ⟨_, (pss_cons (ps_set (i := 1) sc_law_bent.nd rfl (Or.inl rfl) (pe_callTy (call_listK K) (by rfl) T.b_list (by decide +kernel) (pa_cons (pv 1) pa_nil)))
    (pss_cons (ps_for PassesOwn.never rfl (pi_range1 (by rfl) T.b_range (pa_cons (pe_cal C_law_draw hr (by omega) (by rfl) (pa_cons (pv 0) (pa_cons pe_int pa_nil))) pa_nil)) (pg_name (i := 2) sc_law_bent.nd rfl (Or.inl rfl)) (pss_cons (ps_set (i := 3) sc_law_bent.nd rfl (Or.inl rfl) (pe_cal C_law_draw hr (by omega) (by rfl) (pa_cons (pv 0) (pa_cons pe_int pa_nil))))
    (Evl.pss_cut (ps_if (pt_cmpR op_eq (pv 3) pe_int (nomark _)) (pss_one (ps_asg (pe_ix (ix_listK K) (pe_lst (pa_cons pe_int (pa_cons (pe_un un_neg pe_int) (pa_cons pe_bl (pa_cons pe_non (pa_cons pe_int (pa_cons pe_str (pa_cons (pe_op op_pow pe_int pe_int) pa_nil)))))))) (pe_cal C_law_draw hr (by omega) (by rfl) (pa_cons (pv 0) (pa_cons pe_int pa_nil))) (fun _ _ => rfl)) (pg_sub (pv 1) pe_int set_list))) pss_nil)
    (Evl.pss_cut (ps_if (pt_cmpR op_eq (pv 3) pe_int (nomark _)) (pss_one (ps_asg (pe_ix (ix_listK K) (pe_lst (pa_cons (pe_un un_neg pe_int) (pa_cons pe_bl (pa_cons pe_non (pa_cons pe_int (pa_cons pe_str (pa_cons (pe_op op_pow pe_int pe_int) pa_nil))))))) (pe_cal C_law_draw hr (by omega) (by rfl) (pa_cons (pv 0) (pa_cons pe_int pa_nil))) (fun _ _ => rfl)) (pg_sub (pv 1) pe_int set_list))) pss_nil)
    (Evl.pss_cut (ps_if (pt_cmpR op_eq (pv 3) pe_int (nomark _)) (pss_one (ps_asg (pe_ix (ix_listK K) (pe_lst (pa_cons (pe_lst (pa_cons pe_int pa_nil)) (pa_cons (pe_lst (pa_cons pe_int (pa_cons pe_int pa_nil))) (pa_cons (pe_lst (pa_cons pe_int (pa_cons pe_int pa_nil))) (pa_cons (pe_lst (pa_cons (pe_un un_neg pe_int) pa_nil)) (pa_cons (pe_lst (pa_cons pe_bl pa_nil)) (pa_cons pe_non (pa_cons pe_str (pa_cons (pe_lst (pa_cons pe_non pa_nil)) pa_nil))))))))) (pe_cal C_law_draw hr (by omega) (by rfl) (pa_cons (pv 0) (pa_cons pe_int pa_nil))) (fun _ _ => rfl)) (pg_sub (pv 1) pe_int set_list))) pss_nil)
    (pss_one (ps_if (pt_cmpR op_eq (pv 3) pe_int (nomark _)) (pss_one (ps_asg (pe_ix (ix_listK K) (pe_lst (pa_cons (pe_lst (pa_cons pe_int pa_nil)) (pa_cons (pe_lst (pa_cons pe_int (pa_cons pe_int pa_nil))) (pa_cons (pe_lst (pa_cons pe_int (pa_cons pe_int pa_nil))) (pa_cons (pe_lst (pa_cons (pe_un un_neg pe_int) pa_nil)) (pa_cons (pe_lst (pa_cons pe_bl pa_nil)) (pa_cons pe_non (pa_cons pe_str (pa_cons (pe_lst (pa_cons pe_non pa_nil)) pa_nil))))))))) (pe_cal C_law_draw hr (by omega) (by rfl) (pa_cons (pv 0) (pa_cons pe_int pa_nil))) (fun _ _ => rfl)) (pg_sub (pv 1) pe_int set_list))) pss_nil)))))))
    (pss_one (ps_ret (pv 1))))), ?_⟩
  rintro gs B O R σ H Q ⟨p, F, rfl, hp, rfl⟩ st q
  refine q_asgL st (el_listT (ev_var rfl)) fun l vs0 B1 H1 x1 nl dv0 st => ?_
  have lp : l ≠ p := by
    obtain ⟨_, _, e, _⟩ := hp
    intro z
    subst z
    rw [nl] at e
    cases e
  have b1 : Bent K O p l B1 (upd O l (.lst vs0)) := by
    refine ⟨⟨vs0, _, upd_same, dv0, rfl, fun d hd => ?_⟩, ?_, fun a h1 h2 => upd_ne h2⟩
    · have e : d = .list (whole_list F.early) ∨ d = .int F.first ∨ d = .int F.rhythm ∨ d = .list (whole_list F.tails) := by simpa using hd
      rcases e with rfl | rfl | rfl | rfl <;> rfl
    · obtain ⟨x, y, e, hy⟩ := hp
      exact ⟨x, y, by rw [upd_ne lp.symm]; exact e, hy⟩
  refine qx_for st (T := fun es O' => (∃ n : Nat, es = rangeD 0 n) ∧ Mv p (upd O l (.lst vs0)) O') (eix_range (exs_cons (S := fun _ O' ds O'' => ds = [] ∧ O'' = O') (ex_draw rfl b1.pool (by decide) (by decide)) (fun d B' O' _ _ => exs_nil) ?_))
    (fun es i B' O' G' => (∃ n : Nat, es = rangeD 0 n) ∧ Bent K O p l B' O' ∧ ∃ g2 g3 : SD, G' = [.val (.ref p), .val (.ref l), g2, g3]) ?_ ?_ ?_ ?_
  · rintro d O' ds O'' ⟨r, rfl, r0, r1, m⟩ ⟨rfl, rfl⟩
    exact ⟨r, rfl, by omega, ⟨r.toNat, rfl⟩, m⟩
  · exact fun es i B2 B3 O2 G2 e ⟨h1, h2, h3⟩ => ⟨h1, h2.ex e, h3⟩
  · rintro es O' B2 e ⟨hn, m⟩
    obtain ⟨⟨vs, ds, a1, a2, a3⟩, _, hfr⟩ := b1
    exact ⟨hn, ⟨⟨vs, ds, by rw [m.fr l lp]; exact a1, dps_ex e _ _ a2, a3⟩, m.pool, fun a h1 h2 => by rw [m.fr a h1]; exact hfr a h1 h2⟩, _, _, rfl⟩
  · rintro es i e B2 O2 G2 σ2 H2 v hie x2 ⟨hn, b2, g2, g3, rfl⟩ st dv N hN
    refine eg_name B2 _ σ2 H2 v st dv _ fun σ3 st _ => ?_
    refine qx_asg st (ex_draw rfl b2.pool (n := 4) (by decide) (by decide)) fun v3 d3 B3 O3 H3 x3 ⟨x, ed, _, _, m⟩ dv3 st => ?_
    subst ed
    have b3 : Bent K O p l B3 O3 := by
      obtain ⟨⟨vs, ds, a1, a2, a3⟩, _, hfr⟩ := b2
      exact ⟨⟨vs, ds, by rw [m.fr l lp]; exact a1, dps_ex x3 _ _ a2, a3⟩, m.pool, fun a h1 h2 => by rw [m.fr a h1]; exact hfr a h1 h2⟩
    refine ⟨fun σ' H' => ∃ B' O', Ex B2 B' ∧ Bent K O p l B' O' ∧ Sta K B' O' [.val (.ref p), .val (.ref l), .dat e, .dat (.int x)] σ' H', ?_, ?_⟩
    · exact s_bend lp b3 rfl st (j := 2) rfl (ev_lst (ea_cons ev_int (ea_cons (ev_un ev_int) (ea_cons ev_bl (ea_cons ev_non (ea_cons ev_int (ea_cons ev_str (ea_cons (ev_op ev_int ev_int (rd_I ⟨by decide, by decide, by decide⟩)) ea_nil))))))) (by simp)) rfl (by decide) (by decide) (by simp [isTupD]) fun B4 O4 H4 x4 b4 st => ⟨B4, O4, x3.trans x4, b4, st⟩
    rintro σ4 H4 ⟨B4, O4, x4, b4, st⟩
    refine ⟨fun σ' H' => ∃ B' O', Ex B2 B' ∧ Bent K O p l B' O' ∧ Sta K B' O' [.val (.ref p), .val (.ref l), .dat e, .dat (.int x)] σ' H', ?_, ?_⟩
    · exact s_bend lp b4 rfl st (j := 1) rfl (ev_lst (ea_cons (ev_un ev_int) (ea_cons ev_bl (ea_cons ev_non (ea_cons ev_int (ea_cons ev_str (ea_cons (ev_op ev_int ev_int (rd_I ⟨by decide, by decide, by decide⟩)) ea_nil)))))) (by simp)) rfl (by decide) (by decide) (by simp [isTupD]) fun B5 O5 H5 x5 b5 st => ⟨B5, O5, x4.trans x5, b5, st⟩
    rintro σ5 H5 ⟨B5, O5, x5, b5, st⟩
    refine ⟨fun σ' H' => ∃ B' O', Ex B2 B' ∧ Bent K O p l B' O' ∧ Sta K B' O' [.val (.ref p), .val (.ref l), .dat e, .dat (.int x)] σ' H', ?_, ?_⟩
    · exact s_bend lp b5 rfl st (j := 0) rfl (ev_lst (ea_cons (ev_lst (ea_cons ev_int ea_nil) (by simp)) (ea_cons (ev_lst (ea_cons ev_int (ea_cons ev_int ea_nil)) (by simp)) (ea_cons (ev_lst (ea_cons ev_int (ea_cons ev_int ea_nil)) (by simp)) (ea_cons (ev_lst (ea_cons (ev_un ev_int) ea_nil) (by simp)) (ea_cons (ev_lst (ea_cons ev_bl ea_nil) (by simp)) (ea_cons ev_non (ea_cons ev_str (ea_cons (ev_lst (ea_cons ev_non ea_nil) (by simp)) ea_nil)))))))) (by simp)) rfl (by decide) (by decide) (by simp [isTupD]) fun B6 O6 H6 x6 b6 st => ⟨B6, O6, x5.trans x6, b6, st⟩
    rintro σ6 H6 ⟨B6, O6, x6, b6, st⟩
    exact s_bend lp b6 rfl st (j := 3) rfl (ev_lst (ea_cons (ev_lst (ea_cons ev_int ea_nil) (by simp)) (ea_cons (ev_lst (ea_cons ev_int (ea_cons ev_int ea_nil)) (by simp)) (ea_cons (ev_lst (ea_cons ev_int (ea_cons ev_int ea_nil)) (by simp)) (ea_cons (ev_lst (ea_cons (ev_un ev_int) ea_nil) (by simp)) (ea_cons (ev_lst (ea_cons ev_bl ea_nil) (by simp)) (ea_cons ev_non (ea_cons ev_str (ea_cons (ev_lst (ea_cons ev_non ea_nil) (by simp)) ea_nil)))))))) (by simp)) rfl (by decide) (by decide) (by simp [isTupD]) fun B7 O7 H7 x7 b7 st => hN B7 O7 _ _ _ (x6.trans x7) ⟨hn, b7, _, _, rfl⟩ st
  · rintro es B2 O2 G2 σ2 H2 x2 ⟨hn, ⟨⟨vs, ds, a1, a2, a3, a4⟩, hp2, hfr⟩, g2, g3, rfl⟩ st
    refine s_retO st rfl (upd_del a1) del_same a2 fun B3 H3 x3 w3 d3 => ?_
    refine q _ _ B3 _ H3 ((x1.trans x2).trans x3) ⟨ds, rfl, a3, a4, ?_, fun a h1 => ?_⟩ w3 d3
    · obtain ⟨x, y, e, hy⟩ := hp2
      exact ⟨x, y, by rw [del_ne lp.symm]; exact e, hy⟩
    · by_cases h3 : a = l
      · subst h3
        rw [del_same, nl]
      · rw [del_ne h3]
        exact hfr a h1 h3

end
end Toy
set_option Elab.async false
set_option linter.all false
set_option maxRecDepth 100000
set_option maxHeartbeats 4000000
namespace Toy
open PySem PySem.Spec PyProof.Rows L2 StX DL


section
variable {CN CT : Addr} {e s p r : PyData}
theorem rises_list {hi : Int} : ∀ {ds : List PyData} {lo : Int}, risesD lo hi ds = true → ∃ es : List Int, ds = whole_list es ∧ (es.length : Int) ≤ max 0 (hi - lo + 1)
  | [], lo, _ => ⟨[], rfl, by simp; omega⟩
  | d :: ds, lo, h => by
    rw [risesD, Bool.and_eq_true] at h
    obtain ⟨z, rfl, a, b⟩ := from_int h.1
    have b' : z ≤ hi := by simpa [under] using b
    obtain ⟨es, rfl, hl⟩ := rises_list h.2
    have hl' : (es.length : Int) ≤ max 0 (hi - (z + 1) + 1) := hl
    refine ⟨z :: es, rfl, ?_⟩
    rw [List.length_cons]
    omega
theorem row_list {hi : Int} {x : PyData} (h : rowD hi x = true) (hh : hi ≤ 4999) : ∃ es, seqInts x es ∧ es.length ≤ 100000 := by
  cases x with
  | list ds =>
    obtain ⟨es, rfl, hl⟩ := rises_list (show risesD 0 hi ds = true from h)
    exact ⟨es, .inl rfl, by omega⟩
  | tuple ds =>
    obtain ⟨es, rfl, hl⟩ := rises_list (show risesD 0 hi ds = true from h)
    exact ⟨es, .inr rfl, by omega⟩
  | none => cases h
  | bool => cases h
  | int => cases h
  | str => cases h
  | dict => cases h
theorem nums_ret {x d : PyData} {n : Int} {pl : Str} (h : numsOut CN x n pl = .ret d) : rowD (n - 1) x = true := by
  unfold numsOut at h
  split at h
  · assumption
  · cases h
/-- either it is right, or there is a first thing that is wrong -/
theorem right_or (CN CT : Addr) (e s p r : PyData) : (∃ es n k rs, Right e s p r es n k rs) ∨ ∃ x, mkErr CN CT e s p r = some x := by
  cases h : mkErr CN CT e s p r with
  | some x => exact .inr ⟨x, rfl⟩
  | none =>
    refine .inl ?_
    unfold mkErr at h
    cases h1 : sizeOut CN CT s 0 "start" with
    | exc C f x => rw [h1] at h; cases h
    | ret d =>
      rw [h1] at h
      simp only at h
      cases h2 : sizeOut CN CT p 1 "period" with
      | exc C f x => rw [h2] at h; cases h
      | ret d =>
        rw [h2] at h
        simp only at h
        obtain ⟨n, rfl, n0, n1⟩ := size_ret h1
        obtain ⟨k, rfl, k0, k1⟩ := size_ret h2
        simp only [intOf] at h
        cases h3 : numsOut CN e n "early" with
        | exc C f x => rw [h3] at h; cases h
        | ret d =>
          rw [h3] at h
          simp only at h
          cases h4 : numsOut CN r k "rests" with
          | exc C f x => rw [h4] at h; cases h
          | ret d =>
            obtain ⟨es, a1, a2⟩ := row_list (nums_ret h3) (by omega)
            obtain ⟨rs, b1, b2⟩ := row_list (nums_ret h4) (by omega)
            exact ⟨es, n, k, rs, ⟨rfl, n0, n1⟩, ⟨rfl, k0, k1⟩, ⟨a1, nums_ret h3, a2⟩, ⟨b1, nums_ret h4, b2⟩⟩
theorem row_same {x : PyData} {n : Int} (h : isTupD x = false) : rowD (n - 1) x = rowL n x := by
  cases x with
  | tuple => cases h
  | list => rfl
  | none => rfl
  | bool => rfl
  | int => rfl
  | str => rfl
  | dict => rfl
theorem size_bad {x : PyData} {lo : Int} {pl : Str} (h : inFrom x lo none = false) : sizeOut CN CT x lo pl = .exc CN "place" pl := by
  unfold sizeOut
  rw [if_neg (by rw [h]; exact Bool.false_ne_true)]
theorem size_big {n lo : Int} {pl : Str} (h : lo ≤ n) (h2 : 5000 < n) : sizeOut CN CT (.int n) lo pl = .exc CT "limit" pl := by
  unfold sizeOut
  rw [if_pos (by simp [inFrom, under, h]), if_neg]
  show ¬ (decide (lo ≤ n) && decide (n ≤ 5000)) = true
  rw [decide_eq_false (show ¬ n ≤ 5000 by omega), Bool.and_false]
  exact Bool.false_ne_true
theorem nums_bad {x : PyData} {n : Int} {pl : Str} (h : rowD (n - 1) x = false) : numsOut CN x n pl = .exc CN "place" pl := by
  unfold numsOut
  rw [if_neg (by rw [h]; exact Bool.false_ne_true)]
section
variable {n k : Int}
theorem neg_of {b : Bool} (h : b = true) : ¬ (!b) = true := by
  rw [h]
  exact Bool.false_ne_true
theorem pos_of {b : Bool} (h : b = false) : (!b) = true := by
  rw [h]
  rfl
theorem dec_not {n : Int} (h : ¬ 5000 < n) : ¬ decide (5000 < intOf (.int n)) = true := by
  rw [decide_eq_true_eq]
  exact h
theorem dec_yes {n : Int} (h : 5000 < n) : decide (5000 < intOf (.int n)) = true := decide_eq_true h
theorem wr1 (h : inFrom s 0 none = false) : wrongD e s p r = .tuple [.str "set", .str "start"] := by
  unfold wrongD
  rw [if_pos (pos_of h)]
theorem wr2 (h : inFrom (.int n) 0 none = true) (h2 : 5000 < n) : wrongD e (.int n) p r = .tuple [.str "large", .str "start"] := by
  unfold wrongD
  rw [if_neg (neg_of h), if_pos (dec_yes h2)]
theorem wr3 (h : inFrom (.int n) 0 none = true) (h2 : ¬ 5000 < n) (h3 : inFrom p 1 none = false) : wrongD e (.int n) p r = .tuple [.str "set", .str "period"] := by
  unfold wrongD
  rw [if_neg (neg_of h), if_neg (dec_not h2), if_pos (pos_of h3)]
theorem wr4 (h : inFrom (.int n) 0 none = true) (h2 : ¬ 5000 < n) (h3 : inFrom (.int k) 1 none = true) (h4 : 5000 < k) : wrongD e (.int n) (.int k) r = .tuple [.str "large", .str "period"] := by
  unfold wrongD
  rw [if_neg (neg_of h), if_neg (dec_not h2), if_neg (neg_of h3), if_pos (dec_yes h4)]
theorem wr5 (h : inFrom (.int n) 0 none = true) (h2 : ¬ 5000 < n) (h3 : inFrom (.int k) 1 none = true) (h4 : ¬ 5000 < k) (h5 : rowL n e = false) : wrongD e (.int n) (.int k) r = .tuple [.str "set", .str "early"] := by
  unfold wrongD
  rw [if_neg (neg_of h), if_neg (dec_not h2), if_neg (neg_of h3), if_neg (dec_not h4), if_pos (pos_of (b := rowL (intOf (.int n)) e) h5)]
theorem wr6 (h : inFrom (.int n) 0 none = true) (h2 : ¬ 5000 < n) (h3 : inFrom (.int k) 1 none = true) (h4 : ¬ 5000 < k) (h5 : rowL n e = true) (h6 : rowL k r = false) : wrongD e (.int n) (.int k) r = .tuple [.str "set", .str "rests"] := by
  unfold wrongD
  rw [if_neg (neg_of h), if_neg (dec_not h2), if_neg (neg_of h3), if_neg (dec_not h4), if_neg (neg_of (b := rowL (intOf (.int n)) e) h5), if_pos (pos_of (b := rowL (intOf (.int k)) r) h6)]
theorem wr7 (h : inFrom (.int n) 0 none = true) (h2 : ¬ 5000 < n) (h3 : inFrom (.int k) 1 none = true) (h4 : ¬ 5000 < k) (h5 : rowL n e = true) (h6 : rowL k r = true) : wrongD e (.int n) (.int k) r = .none := by
  unfold wrongD
  rw [if_neg (neg_of h), if_neg (dec_not h2), if_neg (neg_of h3), if_neg (dec_not h4), if_neg (neg_of (b := rowL (intOf (.int n)) e) h5), if_neg (neg_of (b := rowL (intOf (.int k)) r) h6)]
end
theorem ansD_of {C : Addr} {f x : Str} (h : mkErr CN CT e s p r = some (C, f, x)) : ansD CN CT e s p r = if C = CN then .tuple [.str "set", .str x] else .tuple [.str "large", .str x] := by
  unfold ansD
  rw [h]
/-- the law's answer is what the law says is wrong -/
theorem ans_wrong (ne : CN ≠ CT) (he : isTupD e = false) (hr : isTupD r = false) : ansD CN CT e s p r = wrongD e s p r := by
  cases a1 : inFrom s 0 none with
  | false =>
    rw [wr1 a1, ansD_of (C := CN) (f := "place") (x := "start") (by unfold mkErr; rw [size_bad a1]), if_pos rfl]
  | true =>
    obtain ⟨n, rfl, n0, _⟩ := from_int a1
    by_cases a2 : 5000 < n
    · rw [wr2 a1 a2, ansD_of (C := CT) (f := "limit") (x := "start") (by unfold mkErr; rw [size_big n0 a2]), if_neg ne.symm]
    have s1 : sizeOut CN CT (.int n) 0 "start" = .ret .none := size_ok n0 (by omega)
    cases a3 : inFrom p 1 none with
    | false =>
      rw [wr3 a1 a2 a3, ansD_of (C := CN) (f := "place") (x := "period") (by unfold mkErr; rw [s1, size_bad a3]), if_pos rfl]
    | true =>
      obtain ⟨k, rfl, k0, _⟩ := from_int a3
      by_cases a4 : 5000 < k
      · rw [wr4 a1 a2 a3 a4, ansD_of (C := CT) (f := "limit") (x := "period") (by unfold mkErr; rw [s1, size_big k0 a4]), if_neg ne.symm]
      have s2 : sizeOut CN CT (.int k) 1 "period" = .ret .none := size_ok k0 (by omega)
      cases a5 : rowL n e with
      | false =>
        have s3 : numsOut CN e (intOf (.int n)) "early" = .exc CN "place" "early" := nums_bad (by rw [show intOf (.int n) = n from rfl, row_same he]; exact a5)
        rw [wr5 a1 a2 a3 a4 a5, ansD_of (C := CN) (f := "place") (x := "early") (by unfold mkErr; rw [s1, s2, s3]), if_pos rfl]
      | true =>
        have s3 : numsOut CN e (intOf (.int n)) "early" = .ret .none := nums_ok (by rw [show intOf (.int n) = n from rfl, row_same he]; exact a5)
        cases a6 : rowL k r with
        | false =>
          have s4 : numsOut CN r (intOf (.int k)) "rests" = .exc CN "place" "rests" := nums_bad (by rw [show intOf (.int k) = k from rfl, row_same hr]; exact a6)
          rw [wr6 a1 a2 a3 a4 a5 a6, ansD_of (C := CN) (f := "place") (x := "rests") (by unfold mkErr; rw [s1, s2, s3, s4]), if_pos rfl]
        | true =>
          have s4 : numsOut CN r (intOf (.int k)) "rests" = .ret .none := nums_ok (by rw [show intOf (.int k) = k from rfl, row_same hr]; exact a6)
          rw [wr7 a1 a2 a3 a4 a5 a6]
          unfold ansD mkErr
          rw [s1, s2, s3, s4]
theorem lay_two {a b : Str} (h1 : PyData.strOk a = true) (h2 : PyData.strOk b = true) : PT.Lay 1 (.tuple [.str a, .str b]) := by
  refine PT.lay_tup (n := 0) fun d hd => ?_
  have e : d = .str a ∨ d = .str b := by simpa using hd
  rcases e with rfl | rfl
  · exact PT.lay_good (PT.good_str h1)
  · exact PT.lay_good (PT.good_str h2)
theorem lay_wrong : PT.Lay 1 (wrongD e s p r) := by
  unfold wrongD
  split
  · exact lay_two (by decide +kernel) (by decide +kernel)
  split
  · exact lay_two (by decide +kernel) (by decide +kernel)
  split
  · exact lay_two (by decide +kernel) (by decide +kernel)
  split
  · exact lay_two (by decide +kernel) (by decide +kernel)
  split
  · exact lay_two (by decide +kernel) (by decide +kernel)
  split
  · exact lay_two (by decide +kernel) (by decide +kernel)
  · exact PT.lay_good PT.good_none
theorem eqv_two {a b : Str} : PyData.eqv (.tuple [.str a, .str b]) (.tuple [.str a, .str b]) = true := by
  simp [PyData.eqv, PyData.eqvAll]
theorem eqv_wrong : PyData.eqv (wrongD e s p r) (wrongD e s p r) = true := by
  unfold wrongD
  split
  · exact eqv_two
  split
  · exact eqv_two
  split
  · exact eqv_two
  split
  · exact eqv_two
  split
  · exact eqv_two
  split
  · exact eqv_two
  · simp [PyData.eqv]
end
section
variable {K : PySem.W.Frag} {B O : Hp} {G : List SD} {σ : L2.St} {H : Hp} {D : Ends} {te ta tb : TE} {tu tz : TS} {R : PyData → Hp → Prop} {E : XK} {i : Nat} {p : Addr}
theorem q_unlessX (s : Sta K B O G σ H) (h : EvX K B O G te R) (hb : ∀ d O', R d O' → d = .bool true) (k : ∀ B' O' H', Ex B B' → R (.bool true) O' → Sta K B' O' G σ H' → tz D σ H') : tSeq (tIfS (tNot (tB te)) tu tNext) tz D σ H :=
  h B σ H (Ex.refl _) s _ fun v d B' O' H' e r w dv => by
    have ed := hb d O' r
    subst ed
    exact ⟨true, dp_bool dv, k B' O' H' e r ⟨w, s.s.ex e⟩⟩
theorem ex_right {F : Fld} (h1 : EvD K B O G ta F.enc) (h2 : EvX K B O G tb (fun d O' => (∃ b, d = .bool b) ∧ Mv p O O')) (fine : Fine F) : EvX K B O G (tCall (SpRight K) [] E (tCons ta (tCons tb tNil))) (fun d O' => d = .bool true ∧ Mv p O O') := fun B1 σ H e s Q q =>
  h1 B1 O σ H e (Ex.refl _) s _ fun v B2 H2 e2 w2 d2 => h2 B2 σ H2 (e.trans e2) (s.ex e2 w2) _ fun u d B3 O3 H3 e3 r w3 d3 => by
    obtain ⟨⟨b, rfl⟩, m⟩ := r
    have eu := dp_bool d3
    subst eu
    exact ⟨B3, O3, v, F, b, rfl, w3, dp_ex e3 _ _ d2, fine, fun B' H' e' w' => q _ (.bool true) B' O3 H' ((e2.trans e3).trans e') ⟨rfl, m⟩ w' (.bl true)⟩
theorem pool_at {a : Addr} {ns : List Int} {k : Int} {Q : VK} (s : Sta K B O G σ H) (hg : G[i]? = some (.val (.ref a))) (hs : SqL K B a (ns.map V.int)) (hl : ns.length ≤ 63) (h0 : 0 ≤ k) (h1 : k ≤ 63)
    (q : ∀ p O' B' H', Ex B B' → O p = none → PoolAt O' p → (∀ b, b ≠ p → O' b = O b) → W B' O' H' → Q (.ref p) H') : tCall (SpPool K) [] E (tCons (tVar i) (tCons (tC (.int k)) tNil)) σ H Q := by
  obtain ⟨sv, e1, e2⟩ := s.s.get hg
  have e3 : sv = some (.ref a) := e2
  subst e3
  exact ⟨_, e1, B, O, a, ns, k, s.w, rfl, hs, hl, h0, h1, fun p x y B' H' e np y0 y1 w => q p _ B' H' e np ⟨x, y, upd_same, y0, y1⟩ (fun b hb => upd_ne hb) w⟩
theorem Mv.new {O0 : Hp} {b : Addr} (m : Mv p O O0) (h : O b = none) (hp : PoolAt O p) : O0 b = none := by
  have hb : b ≠ p := by
    obtain ⟨_, _, e, _⟩ := hp
    intro z
    subst z
    rw [h] at e
    cases e
  rw [m.fr b hb]
  exact h
end
def spLaw (K : PySem.W.Frag) : Sp := fun vs H Q _ => ∃ (a : Addr) (ns : List Int), vs = [.ref a] ∧ SqL K H a (ns.map V.int) ∧ ns.length ≤ 63 ∧ ∀ H', Q (.bl true) H'
theorem r00 : Right (.list []) (.int 0) (.int 1) (.list []) [] 0 1 [] := ⟨⟨rfl, by decide, by decide⟩, ⟨rfl, by decide, by decide⟩, ⟨.inl rfl, rfl, by decide⟩, ⟨.inl rfl, rfl, by decide⟩⟩
theorem r0t : Right (.tuple []) (.int 0) (.int 1) (.tuple []) [] 0 1 [] := ⟨⟨rfl, by decide, by decide⟩, ⟨rfl, by decide, by decide⟩, ⟨.inr rfl, rfl, by decide⟩, ⟨.inr rfl, rfl, by decide⟩⟩
theorem r02 : Right (.list []) (.int 2) (.int 1) (.tuple []) [] 2 1 [] := ⟨⟨rfl, by decide, by decide⟩, ⟨rfl, by decide, by decide⟩, ⟨.inl rfl, rfl, by decide⟩, ⟨.inr rfl, rfl, by decide⟩⟩
theorem r01 : Right (.tuple [.int 0]) (.int 1) (.int 1) (.tuple []) [0] 1 1 [] := ⟨⟨rfl, by decide, by decide⟩, ⟨rfl, by decide, by decide⟩, ⟨.inr rfl, by decide, by decide⟩, ⟨.inr rfl, rfl, by decide⟩⟩

section
variable {P : Program} {w : World} {K : PySem.W.Frag} {mg : Str → Option Value} {base : Heap}


theorem ok_law {f CN CT CS CL t0 t1 : Addr} {fd : FuncData} (fines : ∀ F : Fld, F.Ok → Fine F) (T : Txt K mg) (S : SetC K mg CS) (Er : Errs P w K mg base CN CT CL) (M : MkS P w K mg base CN CT CS t0 t1) (Os : OpsS P w K mg base CS)
    (C_law_pool : Cal P w K mg base 2 "_law_pool" ["script", "k"] (SpPool K)) (C_law_draw : Cal P w K mg base 2 "_law_draw" ["pool", "count"] (SpX K PreDraw)) (C_law_fields : Cal P w K mg base 6 "_law_fields" ["pool"] (SpX K PreFields)) (C_law_right : Cal P w K mg base 12 "_law_right" ["fields", "is_tuple"] (SpRight K))
    (C_law_bent : Cal P w K mg base 4 "_law_bent" ["pool", "fields"] (SpX K PreBent)) (C_law_answer : Cal P w K mg base 10 "_law_answer" ["fields"] (SpR K (R_ans CN CT))) (C_law_wrong : Cal P w K mg base 6 "_law_wrong" ["fields"] (SpR K R_wrong))
    (Fl : Fun K "law" "law" s_law f fd) : FnOk P w K mg base CX0 15 f fd ["script"] (spLaw K) := by
  obtain ⟨⟨fI, fdI, Mk_, Fi, B4, ⟨d0, V0, B0⟩, ⟨d2, V2, B2⟩, gk, Bk⟩, E0_, E1_⟩ := M
  obtain ⟨_, ⟨fe, fde, heq, heqf, Feq, Beq_⟩, hne, hmro⟩ := Os
  refine Fl.ok sc_law (fun vs H Q E h => ?_) (fun cdv A outer s H vs Q E hr h => ?_)
  · obtain ⟨a, ns, rfl, _⟩ := h
    rfl
  obtain ⟨a, ns, rfl, hs, hlen, q⟩ := h
  refine ⟨_, (pss_cons (ps_set (i := 1) sc_law.nd rfl (Or.inl rfl) (pe_cal C_law_pool hr (by omega) (by rfl) (pa_cons (pv 0) (pa_cons pe_int pa_nil))))
    (pss_cons (ps_set (i := 2) sc_law.nd rfl (Or.inl rfl) (pe_cal C_law_fields hr (by omega) (by rfl) (pa_cons (pv 1) pa_nil)))
    (pss_cons (ps_if (pt_not (pt_val (pe_cal C_law_right hr (by omega) (by rfl) (pa_cons (pv 2) (pa_cons (pe_cmpR op_eq (pe_cal C_law_draw hr (by omega) (by rfl) (pa_cons (pv 1) (pa_cons pe_int pa_nil))) pe_int (nomark _)) pa_nil))))) (pss_one (ps_ret pe_bl)) pss_nil)
    (pss_cons (ps_if (PW.pt (pw_or (pt_cmpR (op_neOwn hmro hne heq heqf Feq Beq_ (Room.mono hr (by omega)) pass0) (pe_make0 Mk_ Fi (hr.mono (by omega)) (by rfl) S.g B0 V0 passL) (pe_make Mk_ Fi (hr.mono (by omega)) (by rfl) S.g B4 .nil passL (pa_cons (pe_lst pa_nil) (pa_cons pe_int (pa_cons pe_int (pa_cons (pe_lst pa_nil) pa_nil))))) (by rfl)) (pw_or (pt_cmpR (op_neOwn hmro hne heq heqf Feq Beq_ (Room.mono hr (by omega)) pass0) (pe_make Mk_ Fi (hr.mono (by omega)) (by rfl) S.g B2 V2 passL (pa_cons (pe_lst pa_nil) (pa_cons pe_int pa_nil))) (pe_make0 Mk_ Fi (hr.mono (by omega)) (by rfl) S.g B0 V0 passL) (by rfl)) (pw_or1 (pt_cmpR (op_cmpOwn (op := .Eq) (fun _ _ => rfl) heq heqf Feq Beq_ (Room.mono hr (by omega)) pass0) (pe_make Mk_ Fi (hr.mono (by omega)) (by rfl) S.g B2 V2 passL (pa_cons (pe_tup (pa_cons pe_int pa_nil)) (pa_cons pe_int pa_nil))) (pe_make0 Mk_ Fi (hr.mono (by omega)) (by rfl) S.g B0 V0 passL) (by rfl)))))) (pss_one (ps_ret pe_bl)) pss_nil)
    (pss_cons (ps_set (i := 3) sc_law.nd rfl (Or.inl rfl) (pe_cal C_law_bent hr (by omega) (by rfl) (pa_cons (pe_cal C_law_pool hr (by omega) (by rfl) (pa_cons (pv 0) (pa_cons pe_int pa_nil))) (pa_cons (pv 2) pa_nil))))
    (pss_one (ps_ret (pe_cmpR (op_eqDK K hr.units) (pe_cal C_law_answer hr (by omega) (by rfl) (pa_cons (pv 3) pa_nil)) (pe_cal C_law_wrong hr (by omega) (by rfl) (pa_cons (pv 3) pa_nil)) (nomark _))))))))), ?_⟩
  have st : Sta K H (fun _ => none) [.val (.ref a), .un, .un, .un] (L2.start N_sc_law [.ref a]) H := ⟨⟨Ex.refl _, (fun _ _ e => nomatch e), fun _ => .inr rfl⟩, ⟨rfl, trivial, trivial, trivial, trivial⟩⟩
  refine pool_at st rfl hs hlen (by decide) (by decide) fun p O1 B1 H1 x1 np hp hfr w1 => ?_
  have st : Sta K B1 O1 [.val (.ref a), .val (.ref p), .un, .un] _ H1 := ⟨w1, (st.s.ex x1).set 1 (s := some (.ref p)) (g := .val (.ref p)) rfl⟩
  refine qx_asg st (ex_call (as_val (evV_var rfl) as_nil) fun B' _ => ⟨p, rfl, hp, rfl⟩) fun v2 d2 B2 O2 H2 x2 ⟨F, ok, ed, m2⟩ dv2 st => ?_
  subst ed
  have fine := fines F ok
  refine q_unlessX st (ex_right (p := p) (ev_var rfl) (ex_op (ex_draw rfl m2.pool (n := 2) (by decide) (by decide)) (R2' := fun _ O' d2 O'' => d2 = .int 1 ∧ O'' = O') (fun d1 B' O' _ _ => ex_pure ev_int) ?_) fine) (fun d O' h => h.1) fun B3 O3 H3 x3 hR st => ?_
  · rintro d1 O' d2 O'' ⟨r, rfl, _, _, m⟩ ⟨rfl, rfl⟩
    exact ⟨_, rd_eqInt, ⟨_, rfl⟩, m⟩
  have none0 : ∀ B', DtAll K B' [V.ref t0, V.int 0, V.int 1, V.ref t1] [.tuple [], .int 0, .int 1, .tuple []] := fun B' => .cons (E0_ B') (.cons (.int 0) (.cons (.int 1) (.cons (E1_ B') .nil)))
  have none2 : ∀ B', DtAll K B' [V.int 1, V.ref t1] [.int 1, .tuple []] := fun B' => .cons (.int 1) (.cons (E1_ B') .nil)
  refine q_whenF st (et_is (et_or (a := false) (b := false) (et_test (ev_is (ev_neS (ev_make ea_nil none0 rfl r0t) (ev_make (ea_cons (ev_lst ea_nil (by simp)) (ea_cons ev_int (ea_cons ev_int (ea_cons (ev_lst ea_nil (by simp)) ea_nil)))) (fun _ => .nil) rfl r00)) (congrArg PyData.bool (by decide +kernel)))) fun _ =>
    et_or (a := false) (b := false) (et_test (ev_is (ev_neS (ev_make (ea_cons (ev_lst ea_nil (by simp)) (ea_cons ev_int ea_nil)) none2 rfl r02) (ev_make ea_nil none0 rfl r0t)) (congrArg PyData.bool (by decide +kernel)))) fun _ =>
    et_test (ev_is (ev_eqS (ev_make (ea_cons (ev_tup (ea_cons ev_int ea_nil) (by simp)) (ea_cons ev_int ea_nil)) none2 rfl r01) (ev_make ea_nil none0 rfl r0t)) (congrArg PyData.bool (by decide +kernel)))) rfl) fun B4' H4 x4 st => ?_
  have hs4 := sl_ex (((x1.trans x2).trans x3).trans x4) hs
  refine pool_at st rfl hs4 hlen (by decide) (by decide) fun p5 O5 B5 H5 x5 np5 hp5 hfr5 w5 => ?_
  have st5 := st.s.ex x5
  obtain ⟨sv, e1, uF, e2, dF⟩ := st5.get (i := 2) rfl
  subst e2
  refine ⟨_, e1, B5, O5, [.val (.ref p5), .dat F.enc], _, w5, ⟨rfl, ⟨_, rfl, dF⟩, trivial⟩, ⟨p5, F, rfl, hp5, rfl⟩, ?_⟩
  rintro v6 d6 B6 O6 H6 x6 ⟨ds, rfl, hl4, hnt, m6⟩ w6 dv6
  obtain ⟨e, sz, pe, r, rfl⟩ : ∃ e sz pe r, ds = [e, sz, pe, r] := by
    match ds, hl4 with
    | [e, sz, pe, r], _ => exact ⟨e, sz, pe, r, rfl⟩
  have st6 : Sta K B6 O6 [.val (.ref a), .val (.ref p), .dat F.enc, .dat (.list [e, sz, pe, r])] _ H6 := ⟨w6, (st5.ex x6).set 3 (s := some v6) (g := .dat _) ⟨v6, rfl, dv6⟩⟩
  refine s_ret st6 (ev_op (ev_call (ea_cons (ev_var rfl) ea_nil) ⟨e, sz, pe, r, right_or CN CT e sz pe r, rfl, rfl⟩) (ev_call (ea_cons (ev_var rfl) ea_nil) ⟨_, e, sz, pe, r, .inr rfl, rfl, rfl⟩) (rd_eq (b := true) ?_ (lay_wrong.sh (by decide)) ?_)) fun v7 B7 H7 x7 w7 d7 => ?_
  · rw [ans_wrong Er.ne (hnt e (by simp)) (hnt r (by simp))]
    exact lay_wrong.sh (by decide)
  · rw [ans_wrong Er.ne (hnt e (by simp)) (hnt r (by simp))]
    exact eqv_wrong
  · rw [dp_bool d7]
    exact q H7

end
end Toy
set_option Elab.async false
set_option linter.all false
set_option maxRecDepth 100000
set_option maxHeartbeats 4000000
namespace Toy
open PySem PySem.Spec PyProof.Rows L2 StX DL
/-- membership by marks and cycle -/
def hasN (ms cs : List Bool) (n : Nat) : Bool := if n < ms.length then ms.getD n false else cs.getD (n % cs.length) false
theorem rep_get {xs : List Bool} : ∀ {k i : Nat}, i < k * xs.length → (List.replicate k xs).flatten.getD i false = xs.getD (i % xs.length) false
  | 0, i, h => by rw [Nat.zero_mul] at h; exact absurd h (Nat.not_lt_zero _)
  | k + 1, i, h => by
    rw [List.replicate_succ, List.flatten_cons]
    by_cases hi : i < xs.length
    · rw [List.getD_eq_getElem?_getD, List.getElem?_append_left hi, ← List.getD_eq_getElem?_getD, Nat.mod_eq_of_lt hi]
    · have hi' : xs.length ≤ i := by omega
      rw [List.getD_eq_getElem?_getD, List.getElem?_append_right hi', ← List.getD_eq_getElem?_getD, rep_get (k := k) (i := i - xs.length) (by rw [Nat.succ_mul] at h; omega)]
      rw [← Nat.mod_eq_sub_mod hi']
theorem leastP_per {cs : List Bool} (h : 1 ≤ cs.length) : leastP cs ∣ cs.length ∧ ∀ i, i < cs.length → cs.getD i false = (cs.take (leastP cs)).getD (i % leastP cs) false := by
  have hb := leastP_le h
  unfold leastP at hb ⊢
  cases hf : ((List.range (cs.length - 1)).map (· + 1)).find? (isPer cs) with
  | none =>
    refine ⟨Nat.dvd_refl _, fun i hi => ?_⟩
    simp only [Option.getD_none]
    rw [List.take_length, Nat.mod_eq_of_lt hi]
  | some p =>
    have hp := List.find?_some hf
    have hm := List.mem_of_find?_eq_some hf
    obtain ⟨j, hj, ej⟩ := List.mem_map.mp hm
    have hj' := List.mem_range.mp hj
    unfold isPer at hp
    rw [Bool.and_eq_true, beq_iff_eq, decide_eq_true_eq] at hp
    simp only [Option.getD_some]
    have hd : p ∣ cs.length := Nat.dvd_of_mod_eq_zero hp.1
    refine ⟨hd, fun i hi => ?_⟩
    have hl : (cs.take p).length = p := by rw [List.length_take]; omega
    have e := congrArg (fun l => l.getD i false) hp.2
    have hk : i < cs.length / p * (cs.take p).length := by rw [hl, Nat.div_mul_cancel hd]; exact hi
    have e2 := rep_get (xs := cs.take p) (k := cs.length / p) hk
    rw [hl] at e2
    exact e.trans e2
theorem cycle_same {cs : List Bool} (h : 1 ≤ cs.length) (n : Nat) : (cs.take (leastP cs)).getD (n % (cs.take (leastP cs)).length) false = cs.getD (n % cs.length) false := by
  obtain ⟨hd, hg⟩ := leastP_per h
  have hb := leastP_le h
  have hl : (cs.take (leastP cs)).length = leastP cs := by rw [List.length_take]; omega
  rw [hl, hg _ (Nat.mod_lt _ (by omega)), Nat.mod_mod_of_dvd _ hd]
theorem start_same {ms cs : List Bool} : ∀ {s : Nat} (m : Nat), leastS ms cs s ≤ m → m < s → ms.getD m false = cs.getD (m % cs.length) false
  | 0, m, _, h => absurd h (Nat.not_lt_zero _)
  | s + 1, m, h1, h2 => by
    rw [leastS] at h1
    split at h1
    · rename_i he
      by_cases e : m = s
      · subst e
        exact eq_of_beq he
      · exact start_same m h1 (by omega)
    · omega
theorem start_last {ms cs : List Bool} : ∀ {s : Nat}, leastS ms cs s = 0 ∨ ms.getD (leastS ms cs s - 1) false ≠ cs.getD ((leastS ms cs s - 1) % cs.length) false
  | 0 => .inl rfl
  | s + 1 => by
    rw [leastS]
    split
    · exact start_last
    · rename_i he
      refine .inr ?_
      rw [Nat.add_sub_cancel]
      exact fun z => he (by rw [z]; simp)
theorem take_get {bs : List Bool} {k n : Nat} (h : n < k) : (bs.take k).getD n false = bs.getD n false := by
  rw [List.getD_eq_getElem?_getD, List.getD_eq_getElem?_getD, List.getElem?_take, if_pos h]
theorem kept_same {ms cs : List Bool} (n : Nat) : hasN (ms.take (leastS ms cs ms.length)) cs n = hasN ms cs n := by
  have hs := leastS_le (ms := ms) (cs := cs) ms.length
  have hl : (ms.take (leastS ms cs ms.length)).length = leastS ms cs ms.length := by rw [List.length_take]; omega
  unfold hasN
  rw [hl]
  by_cases h1 : n < leastS ms cs ms.length
  · rw [if_pos h1, if_pos (by omega), take_get h1]
  · rw [if_neg h1]
    by_cases h2 : n < ms.length
    · rw [if_pos h2, start_same (ms := ms) (cs := cs) (s := ms.length) n (by omega) h2]
    · rw [if_neg h2]
theorem marks_get {es : List Int} {m : Int} {i : Nat} (h : i < m.toNat) : (marksOf es m).getD i false = es.contains (i : Int) := by
  unfold marksOf
  rw [List.getD_eq_getElem?_getD, List.getElem?_map, List.getElem?_range h]
  rfl
theorem fld_has {F : Fld} (h : F.Ok) (n : Nat) : F.has n = hasN (marksOf F.early F.first) (marksOf F.tails F.rhythm) n := by
  have h1 := h.f0
  have h2 := h.r0
  have l1 : (marksOf F.early F.first).length = F.first.toNat := marks_len
  have l2 : (marksOf F.tails F.rhythm).length = F.rhythm.toNat := marks_len
  unfold Fld.has hasN
  rw [l1, l2]
  by_cases hn : (n : Int) < F.first
  · rw [if_pos hn, if_pos (by omega), marks_get (by omega)]
  · have hm : n % F.rhythm.toNat < F.rhythm.toNat := Nat.mod_lt _ (by omega)
    rw [if_neg hn, if_neg (by omega), marks_get hm]
    have e : ((n % F.rhythm.toNat : Nat) : Int) = (n : Int) % F.rhythm := by
      rw [Int.natCast_emod, Int.toNat_of_nonneg (by omega)]
    rw [e]
theorem ls_ok {F : Fld} (h : F.Ok) : LOk F.ls := by
  have h1 := h.f0
  have h2 := h.r0
  have l1 : (marksOf F.early F.first).length = F.first.toNat := marks_len
  have l2 : (marksOf F.tails F.rhythm).length = F.rhythm.toNat := marks_len
  have hb := leastP_le (bs := marksOf F.tails F.rhythm) (by omega)
  have hs := leastS_le (ms := marksOf F.early F.first) (cs := (marksOf F.tails F.rhythm).take (leastP (marksOf F.tails F.rhythm))) (marksOf F.early F.first).length
  refine ⟨?_, ⟨hb.1, ?_⟩, ?_, ?_⟩
  · show ((marksOf F.tails F.rhythm).take (leastP (marksOf F.tails F.rhythm))).length = leastP (marksOf F.tails F.rhythm)
    rw [List.length_take]
    omega
  · show leastP (marksOf F.tails F.rhythm) ≤ 5000
    omega
  · show ((marksOf F.early F.first).take _).length = _
    rw [List.length_take]
    exact Nat.min_eq_left hs
  · show leastS _ _ (marksOf F.early F.first).length ≤ 5000
    omega
/-- what is kept has the same members -/
theorem ls_has {F : Fld} (h : F.Ok) (n : Nat) : hasN F.ls.marks F.ls.cycle n = F.has n := by
  have h2 := h.r0
  have l2 : (marksOf F.tails F.rhythm).length = F.rhythm.toNat := marks_len
  rw [fld_has h]
  show hasN ((marksOf F.early F.first).take (leastS (marksOf F.early F.first) ((marksOf F.tails F.rhythm).take (leastP (marksOf F.tails F.rhythm))) (marksOf F.early F.first).length)) ((marksOf F.tails F.rhythm).take (leastP (marksOf F.tails F.rhythm))) n = _
  rw [kept_same]
  unfold hasN
  rw [cycle_same (by omega)]
theorem hasL_nat {L : LS} (ok : LOk L) (n : Nat) : hasL L (.int (n : Int)) = hasN L.marks L.cycle n := by
  show (if (n : Int) < 0 then false else if (n : Int) < L.start then L.marks.getD ((n : Int)).toNat false else L.cycle.getD (((n : Int)).toNat % L.period) false) = _
  rw [if_neg (by omega)]
  unfold hasN
  rw [ok.m, ok.c, Int.toNat_natCast]
  by_cases h : n < L.start
  · rw [if_pos h, if_pos (by omega)]
  · rw [if_neg h, if_neg (by omega)]
theorem idx_mem {bs : List Bool} {i : Nat} (h : i < bs.length) : (idx bs).contains (i : Int) = bs.getD i false := by
  rw [Bool.eq_iff_iff, List.contains_iff_mem]
  unfold idx
  rw [List.mem_map]
  constructor
  · rintro ⟨j, hj, e⟩
    have ej : j = i := by omega
    subst ej
    simpa using (List.mem_filter.mp hj).2
  · intro hb
    exact ⟨i, List.mem_filter.mpr ⟨List.mem_range.mpr h, hb⟩, rfl⟩
theorem rise_idx {bs : List Bool} : Rise (idx bs) bs.length := by
  refine ⟨?_, fun x hx => ?_⟩
  · unfold idx
    rw [List.pairwise_map]
    refine (List.pairwise_lt_range.filter _).imp fun {a b} h => ?_
    omega
  · unfold idx at hx
    obtain ⟨j, hj, rfl⟩ := List.mem_map.mp hx
    have := List.mem_range.mp (List.mem_filter.mp hj).1
    omega
theorem told_has {L : LS} (ok : LOk L) (n : Nat) : (LS.told L).has n = hasN L.marks L.cycle n := by
  have hp := ok.p
  unfold Fld.has hasN LS.told
  simp only
  rw [ok.m, ok.c]
  by_cases h : n < L.start
  · rw [if_pos h, if_pos (by omega), idx_mem (by rw [ok.m]; exact h)]
  · have hm : n % L.period < L.period := Nat.mod_lt _ (by omega)
    have e : (n : Int) % (L.period : Int) = ((n % L.period : Nat) : Int) := by rw [Int.natCast_emod]
    rw [if_neg h, if_neg (by omega), e, idx_mem (by rw [ok.c]; exact hm)]
/-- cycles of at most four: a shorter shift is seen within twelve -/
def shiftOk (cs : List Bool) : Bool := (List.range (leastP cs - 1)).all fun p => (List.range 12).any fun i => cs.getD ((8 + i) % cs.length) false != cs.getD ((8 + i + (1 + p)) % cs.length) false
def blists : Nat → List (List Bool)
  | 0 => [[]]
  | n + 1 => (blists n).flatMap fun b => [false :: b, true :: b]
theorem mem_blists : ∀ (bs : List Bool), bs ∈ blists bs.length
  | [] => by simp [blists]
  | b :: bs => by
    rw [List.length_cons, blists, List.mem_flatMap]
    refine ⟨bs, mem_blists bs, ?_⟩
    cases b <;> simp
theorem shifts : ((List.range 4).all fun k => (blists (k + 1)).all shiftOk) = true := by decide +kernel
theorem shift_of {cs : List Bool} (h1 : 1 ≤ cs.length) (h2 : cs.length ≤ 4) : shiftOk cs = true := by
  have h := List.all_eq_true.mp (List.all_eq_true.mp shifts (cs.length - 1) (List.mem_range.mpr (by omega))) cs
  rw [show cs.length - 1 + 1 = cs.length by omega] at h
  exact h (mem_blists cs)
theorem fines (F : Fld) (h : F.Ok) : Fine F := by
  have ok := ls_ok h
  have h1 := h.f0
  have h2 := h.r0
  have l1 : (marksOf F.early F.first).length = F.first.toNat := marks_len
  have l2 : (marksOf F.tails F.rhythm).length = F.rhythm.toNat := marks_len
  have hb := leastP_le (bs := marksOf F.tails F.rhythm) (by omega)
  have hs := leastS_le (ms := marksOf F.early F.first) (cs := (marksOf F.tails F.rhythm).take (leastP (marksOf F.tails F.rhythm))) (marksOf F.early F.first).length
  have es : F.ls.start = leastS (marksOf F.early F.first) ((marksOf F.tails F.rhythm).take (leastP (marksOf F.tails F.rhythm))) (marksOf F.early F.first).length := rfl
  have ep : F.ls.period = leastP (marksOf F.tails F.rhythm) := rfl
  refine ⟨h, ok, fun i _ => (hasL_nat ok i).trans (ls_has h i), ⟨by rw [es]; omega, by rw [ep]; omega, by omega, ?_, ?_, fun i _ => (told_has ok i).trans (ls_has h i), fun p hp => ?_, ?_⟩⟩
  · have := rise_row (rise_idx (bs := F.ls.marks))
    rw [ok.m] at this
    exact this
  · have := rise_row (rise_idx (bs := F.ls.cycle))
    rw [ok.c] at this
    exact this
  · have hsh := shift_of (cs := marksOf F.tails F.rhythm) (by omega) (by omega)
    unfold shiftOk at hsh
    have h3 := List.all_eq_true.mp hsh p (List.mem_range.mpr hp)
    obtain ⟨i, hi, hne⟩ := List.any_eq_true.mp h3
    refine ⟨i, List.mem_range.mp hi, ?_⟩
    have e1 : (8 + (i : Int)) = ((8 + i : Nat) : Int) := by omega
    have e2 : (8 + (i : Int) + (1 + (p : Int))) = ((8 + i + (1 + p) : Nat) : Int) := by omega
    rw [e2, e1, fld_has h, fld_has h]
    unfold hasN
    rw [if_neg (by omega), if_neg (by omega)]
    simpa using hne
  · rcases start_last (ms := marksOf F.early F.first) (cs := (marksOf F.tails F.rhythm).take (leastP (marksOf F.tails F.rhythm))) (s := (marksOf F.early F.first).length) with e | e
    · exact .inl e
    · by_cases h0 : F.ls.start = 0
      · exact .inl h0
      refine .inr ?_
      rw [← es] at e hs
      have hpp := ok.p
      have e1 : ((F.ls.start : Int) - 1) = ((F.ls.start - 1 : Nat) : Int) := by omega
      have e2 : ((F.ls.start : Int) - 1 + (F.ls.period : Int)) = ((F.ls.start - 1 + F.ls.period : Nat) : Int) := by omega
      rw [e2, e1, ← ls_has h (F.ls.start - 1 + F.ls.period), fld_has h]
      unfold hasN
      rw [if_pos (by omega), if_neg (by rw [ok.m]; omega)]
      have ec : (F.ls.start - 1 + F.ls.period) % F.ls.cycle.length = (F.ls.start - 1) % F.ls.cycle.length := by
        rw [ok.c, Nat.add_mod_right]
      rw [ec]
      exact e
end Toy

set_option Elab.async false
set_option linter.all false
set_option maxRecDepth 100000
set_option maxHeartbeats 4000000
namespace Toy
open PySem PySem.Spec PyProof.Rows L2 StX DL

theorem kit_own {K : PySem.W.Frag} {t : Value} {C : Addr} (hc : PySem.W.isClsIn K C = true) (ht : PySem.W.typeIn K (.ref C) = some (.type "type")) (h : PySem.W.subIn K t (.ref C) = some true) : PySem.W.kitOne K t (.ref C) = some true := by
  unfold PySem.W.kitOne
  split
  · rfl
  · show (if ((PySem.W.clsIn K C).isSome && PySem.W.typeIn K (.ref C) == some (.type "type")) = true then PySem.W.subIn K t (.ref C) else none) = some true
    rw [show (PySem.W.clsIn K C).isSome = true from hc, ht, h]
    rfl
theorem kit_err {K : PySem.W.Frag} {C : Addr} (h : PySem.W.subIn K (.ref C) (.type "ValueError") = some true) : PySem.W.kitOne K (.ref C) (.type "ValueError") = some true := by
  unfold PySem.W.kitOne
  split
  · rfl
  · show (if PySem.W.kitMeta "ValueError" = true then PySem.W.subIn K (.ref C) (.type "ValueError") else none) = some true
    rw [if_pos (by decide +kernel)]
    exact h
theorem all_mk {l : PySem.W.OpenLaw} {w : World} {K : PySem.W.Frag} {h : Heap} {mg : Str → Option Value} {fa : Addr} (X : K.In h) (G : h.Ns mainGlobals mg) (hfa : mg "law" = some (.ref fa))
    {f1 : Addr} {od1 an1 : Option Addr} {sl1 : Array (Option Value)} {oc1 kV1 dc1 pm1 cd1 ct1 : Value} {f2 : Addr} {od2 an2 : Option Addr} {sl2 : Array (Option Value)} {oc2 kV2 dc2 pm2 cd2 ct2 : Value} {f3 : Addr} {od3 an3 : Option Addr} {sl3 : Array (Option Value)} {oc3 kV3 dc3 pm3 cd3 ct3 : Value} {f4 : Addr} {od4 an4 : Option Addr} {sl4 : Array (Option Value)} {oc4 kV4 dc4 pm4 cd4 ct4 : Value} {f5 : Addr} {od5 an5 : Option Addr} {sl5 : Array (Option Value)} {oc5 kV5 dc5 pm5 cd5 ct5 : Value} {f6 : Addr} {od6 an6 : Option Addr} {sl6 : Array (Option Value)} {oc6 kV6 dc6 pm6 cd6 ct6 : Value} {f7 : Addr} {od7 an7 : Option Addr} {sl7 : Array (Option Value)} {oc7 kV7 dc7 pm7 cd7 ct7 : Value} {f8 : Addr} {od8 an8 : Option Addr} {sl8 : Array (Option Value)} {oc8 kV8 dc8 pm8 cd8 ct8 : Value} {f9 : Addr} {od9 an9 : Option Addr} {sl9 : Array (Option Value)} {oc9 kV9 dc9 pm9 cd9 ct9 : Value} {f10 : Addr} {od10 an10 : Option Addr} {sl10 : Array (Option Value)} {oc10 kV10 dc10 pm10 cd10 ct10 : Value} {f11 : Addr} {od11 an11 : Option Addr} {sl11 : Array (Option Value)} {oc11 kV11 dc11 pm11 cd11 ct11 : Value} {f12 : Addr} {od12 an12 : Option Addr} {sl12 : Array (Option Value)} {oc12 kV12 dc12 pm12 cd12 ct12 : Value} {f13 : Addr} {od13 an13 : Option Addr} {sl13 : Array (Option Value)} {oc13 kV13 dc13 pm13 cd13 ct13 : Value} {f14 : Addr} {od14 an14 : Option Addr} {sl14 : Array (Option Value)} {oc14 kV14 dc14 pm14 cd14 ct14 : Value} {f15 : Addr} {od15 an15 : Option Addr} {sl15 : Array (Option Value)} {oc15 kV15 dc15 pm15 cd15 ct15 : Value} {f16 : Addr} {od16 an16 : Option Addr} {sl16 : Array (Option Value)} {oc16 kV16 dc16 pm16 cd16 ct16 : Value} {f17 : Addr} {od17 an17 : Option Addr} {sl17 : Array (Option Value)} {oc17 kV17 dc17 pm17 cd17 ct17 : Value} {f18 : Addr} {od18 an18 : Option Addr} {sl18 : Array (Option Value)} {oc18 kV18 dc18 pm18 cd18 ct18 : Value} {f19 : Addr} {od19 an19 : Option Addr} {sl19 : Array (Option Value)} {oc19 kV19 dc19 pm19 cd19 ct19 : Value} {f20 : Addr} {od20 an20 : Option Addr} {sl20 : Array (Option Value)} {oc20 kV20 dc20 pm20 cd20 ct20 : Value} {tM : Tok} {tF : Addr} {ddF : Option Addr} {nF : Nat} {slTF : Array (Option Value)} {fF : Addr} {odF anF : Option Addr} {slF : Array (Option Value)} {ocF kVF dcF pmF cdF ctF : Value} {CS : Addr} {tI t0 t1 : Addr} {ddI dd0 dd1 : Option Addr} {nI n0 n1 : Nat} {slTI slT0 slT1 : Array (Option Value)} {tk0 tk1 : Tok} {fI : Addr} {odI anI : Option Addr} {slI : Array (Option Value)} {ocI kVI dcI pmI cdI ctI : Value} {pE : Addr} {restE : List Value} {fE : Addr} {odE anE : Option Addr} {slE : Array (Option Value)} {ocE kVE dcE pmE cdE ctE : Value} {pR : Addr} {restR : List Value} {fR : Addr} {odR anR : Option Addr} {slR : Array (Option Value)} {ocR kVR dcR pmR cdR ctR : Value} {fO : Addr} {odO anO : Option Addr} {slO : Array (Option Value)} {ocO kVO dcO pmO cdO ctO : Value} {fQ : Addr} {odQ anQ : Option Addr} {slQ : Array (Option Value)} {ocQ kVQ dcQ pmQ cdQ ctQ : Value} {CL : Addr} {CN : Addr} {fxN : Addr} {odxN anxN : Option Addr} {slxN : Array (Option Value)} {ocxN kVxN dcxN pmxN cdxN ctxN : Value} {nmN qqN : Str} {NNN : Addr} {bsN bmN subN : List Value} {snN : List Str} {abN : Bool} {colN : Option Bool} {ddN : Option Addr} {k0N k1N k2N k3N k5N : Option Value} {CT : Addr} {fxT : Addr} {odxT anxT : Option Addr} {slxT : Array (Option Value)} {ocxT kVxT dcxT pmxT cdxT ctxT : Value} {nmT qqT : Str} {NNT : Addr} {bsT bmT subT : List Value} {snT : List Str} {abT : Bool} {colT : Option Bool} {ddT : Option Addr} {k0T k1T k2T k3T k5T : Option Value}
    (a1 : PySem.W.nsIn K mainGlobals "is_integer" = some (some (.ref f1)))
    (l1 : K.lookup f1 = some ⟨oc1, od1, .func (PySem.W.fnOf "is_integer" "is_integer" (defArgs s_is_integer) (defBody s_is_integer) (defScope s_is_integer) .none kV1 dc1 pm1 an1 cd1 ct1), sl1⟩)
    (c1 : PySem.W.codeIn K cd1 "is_integer" = true)
    (k1 : PySem.W.keepIn K (.ref f1) = true)
    (a2 : PySem.W.nsIn K mainGlobals "check_size" = some (some (.ref f2)))
    (l2 : K.lookup f2 = some ⟨oc2, od2, .func (PySem.W.fnOf "check_size" "check_size" (defArgs s_check_size) (defBody s_check_size) (defScope s_check_size) .none kV2 dc2 pm2 an2 cd2 ct2), sl2⟩)
    (c2 : PySem.W.codeIn K cd2 "check_size" = true)
    (k2 : PySem.W.keepIn K (.ref f2) = true)
    (a3 : PySem.W.nsIn K mainGlobals "check_numbers" = some (some (.ref f3)))
    (l3 : K.lookup f3 = some ⟨oc3, od3, .func (PySem.W.fnOf "check_numbers" "check_numbers" (defArgs s_check_numbers) (defBody s_check_numbers) (defScope s_check_numbers) .none kV3 dc3 pm3 an3 cd3 ct3), sl3⟩)
    (c3 : PySem.W.codeIn K cd3 "check_numbers" = true)
    (k3 : PySem.W.keepIn K (.ref f3) = true)
    (a4 : PySem.W.nsIn K mainGlobals "marks_for" = some (some (.ref f4)))
    (l4 : K.lookup f4 = some ⟨oc4, od4, .func (PySem.W.fnOf "marks_for" "marks_for" (defArgs s_marks_for) (defBody s_marks_for) (defScope s_marks_for) .none kV4 dc4 pm4 an4 cd4 ct4), sl4⟩)
    (c4 : PySem.W.codeIn K cd4 "marks_for" = true)
    (k4 : PySem.W.keepIn K (.ref f4) = true)
    (a5 : PySem.W.nsIn K mainGlobals "least_period" = some (some (.ref f5)))
    (l5 : K.lookup f5 = some ⟨oc5, od5, .func (PySem.W.fnOf "least_period" "least_period" (defArgs s_least_period) (defBody s_least_period) (defScope s_least_period) .none kV5 dc5 pm5 an5 cd5 ct5), sl5⟩)
    (c5 : PySem.W.codeIn K cd5 "least_period" = true)
    (k5 : PySem.W.keepIn K (.ref f5) = true)
    (a6 : PySem.W.nsIn K mainGlobals "least_start" = some (some (.ref f6)))
    (l6 : K.lookup f6 = some ⟨oc6, od6, .func (PySem.W.fnOf "least_start" "least_start" (defArgs s_least_start) (defBody s_least_start) (defScope s_least_start) .none kV6 dc6 pm6 an6 cd6 ct6), sl6⟩)
    (c6 : PySem.W.codeIn K cd6 "least_start" = true)
    (k6 : PySem.W.keepIn K (.ref f6) = true)
    (a7 : PySem.W.nsIn K mainGlobals "_law_pool" = some (some (.ref f7)))
    (l7 : K.lookup f7 = some ⟨oc7, od7, .func (PySem.W.fnOf "_law_pool" "_law_pool" (defArgs s_law_pool) (defBody s_law_pool) (defScope s_law_pool) .none kV7 dc7 pm7 an7 cd7 ct7), sl7⟩)
    (c7 : PySem.W.codeIn K cd7 "_law_pool" = true)
    (k7 : PySem.W.keepIn K (.ref f7) = true)
    (a8 : PySem.W.nsIn K mainGlobals "_law_draw" = some (some (.ref f8)))
    (l8 : K.lookup f8 = some ⟨oc8, od8, .func (PySem.W.fnOf "_law_draw" "_law_draw" (defArgs s_law_draw) (defBody s_law_draw) (defScope s_law_draw) .none kV8 dc8 pm8 an8 cd8 ct8), sl8⟩)
    (c8 : PySem.W.codeIn K cd8 "_law_draw" = true)
    (k8 : PySem.W.keepIn K (.ref f8) = true)
    (a9 : PySem.W.nsIn K mainGlobals "_law_some" = some (some (.ref f9)))
    (l9 : K.lookup f9 = some ⟨oc9, od9, .func (PySem.W.fnOf "_law_some" "_law_some" (defArgs s_law_some) (defBody s_law_some) (defScope s_law_some) .none kV9 dc9 pm9 an9 cd9 ct9), sl9⟩)
    (c9 : PySem.W.codeIn K cd9 "_law_some" = true)
    (k9 : PySem.W.keepIn K (.ref f9) = true)
    (a10 : PySem.W.nsIn K mainGlobals "_law_fields" = some (some (.ref f10)))
    (l10 : K.lookup f10 = some ⟨oc10, od10, .func (PySem.W.fnOf "_law_fields" "_law_fields" (defArgs s_law_fields) (defBody s_law_fields) (defScope s_law_fields) .none kV10 dc10 pm10 an10 cd10 ct10), sl10⟩)
    (c10 : PySem.W.codeIn K cd10 "_law_fields" = true)
    (k10 : PySem.W.keepIn K (.ref f10) = true)
    (a11 : PySem.W.nsIn K mainGlobals "_law_has" = some (some (.ref f11)))
    (l11 : K.lookup f11 = some ⟨oc11, od11, .func (PySem.W.fnOf "_law_has" "_law_has" (defArgs s_law_has) (defBody s_law_has) (defScope s_law_has) .none kV11 dc11 pm11 an11 cd11 ct11), sl11⟩)
    (c11 : PySem.W.codeIn K cd11 "_law_has" = true)
    (k11 : PySem.W.keepIn K (.ref f11) = true)
    (a12 : PySem.W.nsIn K mainGlobals "_law_bent" = some (some (.ref f12)))
    (l12 : K.lookup f12 = some ⟨oc12, od12, .func (PySem.W.fnOf "_law_bent" "_law_bent" (defArgs s_law_bent) (defBody s_law_bent) (defScope s_law_bent) .none kV12 dc12 pm12 an12 cd12 ct12), sl12⟩)
    (c12 : PySem.W.codeIn K cd12 "_law_bent" = true)
    (k12 : PySem.W.keepIn K (.ref f12) = true)
    (a13 : PySem.W.nsIn K mainGlobals "_law_whole" = some (some (.ref f13)))
    (l13 : K.lookup f13 = some ⟨oc13, od13, .func (PySem.W.fnOf "_law_whole" "_law_whole" (defArgs s_law_whole) (defBody s_law_whole) (defScope s_law_whole) .none kV13 dc13 pm13 an13 cd13 ct13), sl13⟩)
    (c13 : PySem.W.codeIn K cd13 "_law_whole" = true)
    (k13 : PySem.W.keepIn K (.ref f13) = true)
    (a14 : PySem.W.nsIn K mainGlobals "_law_rises" = some (some (.ref f14)))
    (l14 : K.lookup f14 = some ⟨oc14, od14, .func (PySem.W.fnOf "_law_rises" "_law_rises" (defArgs s_law_rises) (defBody s_law_rises) (defScope s_law_rises) .none kV14 dc14 pm14 an14 cd14 ct14), sl14⟩)
    (c14 : PySem.W.codeIn K cd14 "_law_rises" = true)
    (k14 : PySem.W.keepIn K (.ref f14) = true)
    (a15 : PySem.W.nsIn K mainGlobals "_law_wrong" = some (some (.ref f15)))
    (l15 : K.lookup f15 = some ⟨oc15, od15, .func (PySem.W.fnOf "_law_wrong" "_law_wrong" (defArgs s_law_wrong) (defBody s_law_wrong) (defScope s_law_wrong) .none kV15 dc15 pm15 an15 cd15 ct15), sl15⟩)
    (c15 : PySem.W.codeIn K cd15 "_law_wrong" = true)
    (k15 : PySem.W.keepIn K (.ref f15) = true)
    (a16 : PySem.W.nsIn K mainGlobals "_law_is_shortest" = some (some (.ref f16)))
    (l16 : K.lookup f16 = some ⟨oc16, od16, .func (PySem.W.fnOf "_law_is_shortest" "_law_is_shortest" (defArgs s_law_is_shortest) (defBody s_law_is_shortest) (defScope s_law_is_shortest) .none kV16 dc16 pm16 an16 cd16 ct16), sl16⟩)
    (c16 : PySem.W.codeIn K cd16 "_law_is_shortest" = true)
    (k16 : PySem.W.keepIn K (.ref f16) = true)
    (a17 : PySem.W.nsIn K mainGlobals "_law_made" = some (some (.ref f17)))
    (l17 : K.lookup f17 = some ⟨oc17, od17, .func (PySem.W.fnOf "_law_made" "_law_made" (defArgs s_law_made) (defBody s_law_made) (defScope s_law_made) .none kV17 dc17 pm17 an17 cd17 ct17), sl17⟩)
    (c17 : PySem.W.codeIn K cd17 "_law_made" = true)
    (k17 : PySem.W.keepIn K (.ref f17) = true)
    (a18 : PySem.W.nsIn K mainGlobals "_law_right" = some (some (.ref f18)))
    (l18 : K.lookup f18 = some ⟨oc18, od18, .func (PySem.W.fnOf "_law_right" "_law_right" (defArgs s_law_right) (defBody s_law_right) (defScope s_law_right) .none kV18 dc18 pm18 an18 cd18 ct18), sl18⟩)
    (c18 : PySem.W.codeIn K cd18 "_law_right" = true)
    (k18 : PySem.W.keepIn K (.ref f18) = true)
    (a19 : PySem.W.nsIn K mainGlobals "_law_answer" = some (some (.ref f19)))
    (l19 : K.lookup f19 = some ⟨oc19, od19, .func (PySem.W.fnOf "_law_answer" "_law_answer" (defArgs s_law_answer) (defBody s_law_answer) (defScope s_law_answer) .none kV19 dc19 pm19 an19 cd19 ct19), sl19⟩)
    (c19 : PySem.W.codeIn K cd19 "_law_answer" = true)
    (k19 : PySem.W.keepIn K (.ref f19) = true)
    (a20 : PySem.W.nsIn K mainGlobals "law" = some (some (.ref f20)))
    (l20 : K.lookup f20 = some ⟨oc20, od20, .func (PySem.W.fnOf "law" "law" (defArgs s_law) (defBody s_law) (defScope s_law) .none kV20 dc20 pm20 an20 cd20 ct20), sl20⟩)
    (c20 : PySem.W.codeIn K cd20 "law" = true)
    (k20 : PySem.W.keepIn K (.ref f20) = true)
    (z_len : PySem.W.nsIn K mainGlobals "len" = some none)
    (z_list : PySem.W.nsIn K mainGlobals "list" = some none)
    (z_tuple : PySem.W.nsIn K mainGlobals "tuple" = some none)
    (z_int : PySem.W.nsIn K mainGlobals "int" = some none)
    (z_abs : PySem.W.nsIn K mainGlobals "abs" = some none)
    (z_bool : PySem.W.nsIn K mainGlobals "bool" = some none)
    (z_range : PySem.W.nsIn K mainGlobals "range" = some none)
    (z_isinstance : PySem.W.nsIn K mainGlobals "isinstance" = some none)
    (z_ValueError : PySem.W.nsIn K mainGlobals "ValueError" = some none)
    (gM : PySem.W.nsIn K mainGlobals "MOST" = some (some (.int 5000 tM)))
    (aF : PySem.W.nsIn K mainGlobals "is_from" = some (some (.ref fF)))
    (lF : K.lookup fF = some ⟨ocF, odF, .func (PySem.W.fnOf "is_from" "is_from" (defArgs s_is_from) (defBody s_is_from) (defScope s_is_from) (.ref tF) kVF dcF pmF anF cdF ctF), slF⟩)
    (cF : PySem.W.codeIn K cdF "is_from" = true)
    (kF : PySem.W.keepIn K (.ref fF) = true)
    (vF : K.lookup tF = some ⟨.type "tuple", ddF, .seq #[.none] nF, slTF⟩)
    (gC : PySem.W.nsIn K mainGlobals "LengthSet" = some (some (.ref CS)))
    (pg : PySem.W.plainGet K CS Str.empty = true)
    (hd : PySem.W.hasDictIn K CS = true)
    (po : PySem.W.plainOver K CS = true)
    (sa : PySem.W.findIn K (.ref CS) "__setattr__" = some (some (.builtin "object.__setattr__")))
    (n_period : PySem.W.findIn K (.ref CS) "period" = some none)
    (n_cycle : PySem.W.findIn K (.ref CS) "cycle" = some none)
    (n_start : PySem.W.findIn K (.ref CS) "start" = some none)
    (n_marks : PySem.W.findIn K (.ref CS) "marks" = some none)
    (mk : PySem.W.makesIn K CS = true)
    (aI : PySem.W.findIn K (.ref CS) "__init__" = some (some (.ref fI)))
    (iI : PySem.W.isFn K (.ref fI) = true)
    (kC : PySem.W.keepIn K (.ref CS) = true)
    (lI : K.lookup fI = some ⟨ocI, odI, .func (PySem.W.fnOf "__init__" "LengthSet.__init__" (defArgs s_LengthSet_init) (defBody s_LengthSet_init) (defScope s_LengthSet_init) (.ref tI) kVI dcI pmI anI cdI ctI), slI⟩)
    (cI : PySem.W.codeIn K cdI "LengthSet.__init__" = true)
    (kI : PySem.W.keepIn K (.ref fI) = true)
    (vI : K.lookup tI = some ⟨.type "tuple", ddI, .seq #[.ref t0, .int 0 tk0, .int 1 tk1, .ref t1] nI, slTI⟩)
    (v0 : K.lookup t0 = some ⟨.type "tuple", dd0, .seq #[] n0, slT0⟩)
    (v1 : K.lookup t1 = some ⟨.type "tuple", dd1, .seq #[] n1, slT1⟩)
    (qE1 : PySem.W.findIn K (.ref CS) "early" = some (some (.ref pE)))
    (qE2 : PySem.W.specialIn K (.ref pE) "__get__" = some (some (.builtin "property.__get__")))
    (qE3 : PySem.W.takesIn K (.ref pE) = some true)
    (qE4 : PySem.W.recIn K pE "property" = some (.ref fE :: restE))
    (lE : K.lookup fE = some ⟨ocE, odE, .func (PySem.W.fnOf "early" "LengthSet.early" (defArgs s_LengthSet_early) (defBody s_LengthSet_early) (defScope s_LengthSet_early) .none kVE dcE pmE anE cdE ctE), slE⟩)
    (cE : PySem.W.codeIn K cdE "LengthSet.early" = true)
    (kE : PySem.W.keepIn K (.ref fE) = true)
    (qR1 : PySem.W.findIn K (.ref CS) "rests" = some (some (.ref pR)))
    (qR2 : PySem.W.specialIn K (.ref pR) "__get__" = some (some (.builtin "property.__get__")))
    (qR3 : PySem.W.takesIn K (.ref pR) = some true)
    (qR4 : PySem.W.recIn K pR "property" = some (.ref fR :: restR))
    (lR : K.lookup fR = some ⟨ocR, odR, .func (PySem.W.fnOf "rests" "LengthSet.rests" (defArgs s_LengthSet_rests) (defBody s_LengthSet_rests) (defScope s_LengthSet_rests) .none kVR dcR pmR anR cdR ctR), slR⟩)
    (cR : PySem.W.codeIn K cdR "LengthSet.rests" = true)
    (kR : PySem.W.keepIn K (.ref fR) = true)
    (qO1 : PySem.W.findIn K (.ref CS) "__contains__" = some (some (.ref fO)))
    (qO2 : PySem.W.isFn K (.ref fO) = true)
    (lO : K.lookup fO = some ⟨ocO, odO, .func (PySem.W.fnOf "__contains__" "LengthSet.__contains__" (defArgs s_LengthSet_contains) (defBody s_LengthSet_contains) (defScope s_LengthSet_contains) .none kVO dcO pmO anO cdO ctO), slO⟩)
    (cO : PySem.W.codeIn K cdO "LengthSet.__contains__" = true)
    (kO : PySem.W.keepIn K (.ref fO) = true)
    (qQ1 : PySem.W.findIn K (.ref CS) "__eq__" = some (some (.ref fQ)))
    (qQ2 : PySem.W.isFn K (.ref fQ) = true)
    (lQ : K.lookup fQ = some ⟨ocQ, odQ, .func (PySem.W.fnOf "__eq__" "LengthSet.__eq__" (defArgs s_LengthSet_eq) (defBody s_LengthSet_eq) (defScope s_LengthSet_eq) .none kVQ dcQ pmQ anQ cdQ ctQ), slQ⟩)
    (cQ : PySem.W.codeIn K cdQ "LengthSet.__eq__" = true)
    (kQ : PySem.W.keepIn K (.ref fQ) = true)
    (nen : PySem.W.findIn K (.ref CS) "__ne__" = some (some (.builtin "object.__ne__")))
    (mob : PySem.W.mroIn K CS (.type "object") = some true)
    (ca : PySem.W.findIn K (.ref CS) "__class__" = some (some (.builtin "object.__class__")))
    (cn : PySem.W.specialIn K (.builtin "object.__class__") "__get__" = some (some (.builtin "getset_descriptor.__get__")))
    (ct : PySem.W.takesIn K (.builtin "object.__class__") = some true)
    (gL : PySem.W.nsIn K mainGlobals "LimitError" = some (some (.ref CL)))
    (gN : PySem.W.nsIn K mainGlobals "NoSet" = some (some (.ref CN)))
    (eN : K.lookup CN = some (excClassObj nmN qqN CN NNN bsN bmN true snN subN abN colN ddN k0N k1N k2N k3N k5N "ValueError.__new__"))
    (rN : PySem.HandSPX.refsVE bmN = true)
    (sN : PySem.W.findIn K (.ref CN) "__setattr__" = some (some (.builtin "object.__setattr__")))
    (bbN : PySem.W.subIn K (.ref CN) (.type "BaseException") = some true)
    (tN : PySem.W.typeIn K (.ref CN) = some (.type "type"))
    (pN : PySem.W.keepIn K (.ref CN) = true)
    (noN : PySem.W.findIn K (.ref CN) "place" = some none)
    (gaN : PySem.W.findIn K (.ref CN) "__getattribute__" = some (some (.builtin "BaseException.__getattribute__")))
    (ggN : PySem.W.findIn K (.ref CN) "__getattr__" = some none)
    (hdN : PySem.W.hasDictIn K CN = true)
    (inN : PySem.W.findIn K (.ref CN) "__init__" = some (some (.ref fxN)))
    (tyN : PySem.W.typeIn K (.ref fxN) = some (.type "function"))
    (lxN : K.lookup fxN = some ⟨ocxN, odxN, .func (PySem.W.fnOf "__init__" "NoSet.__init__" (defArgs s_NoSet_init) (defBody s_NoSet_init) (defScope s_NoSet_init) .none kVxN dcxN pmxN anxN cdxN ctxN), slxN⟩)
    (cxN : PySem.W.codeIn K cdxN "NoSet.__init__" = true)
    (kxN : PySem.W.keepIn K (.ref fxN) = true)
    (caN : PySem.W.findIn K (.ref CN) "__class__" = some (some (.builtin "object.__class__")))
    (moN : PySem.W.mroIn K CN (.type "object") = some true)
    (gT : PySem.W.nsIn K mainGlobals "TooLarge" = some (some (.ref CT)))
    (eT : K.lookup CT = some (excClassObj nmT qqT CT NNT bsT bmT true snT subT abT colT ddT k0T k1T k2T k3T k5T "ValueError.__new__"))
    (rT : PySem.HandSPX.refsVE bmT = true)
    (sT : PySem.W.findIn K (.ref CT) "__setattr__" = some (some (.builtin "object.__setattr__")))
    (bbT : PySem.W.subIn K (.ref CT) (.type "BaseException") = some true)
    (tT : PySem.W.typeIn K (.ref CT) = some (.type "type"))
    (pT : PySem.W.keepIn K (.ref CT) = true)
    (noT : PySem.W.findIn K (.ref CT) "limit" = some none)
    (gaT : PySem.W.findIn K (.ref CT) "__getattribute__" = some (some (.builtin "BaseException.__getattribute__")))
    (ggT : PySem.W.findIn K (.ref CT) "__getattr__" = some none)
    (hdT : PySem.W.hasDictIn K CT = true)
    (inT : PySem.W.findIn K (.ref CT) "__init__" = some (some (.ref fxT)))
    (tyT : PySem.W.typeIn K (.ref fxT) = some (.type "function"))
    (lxT : K.lookup fxT = some ⟨ocxT, odxT, .func (PySem.W.fnOf "__init__" "TooLarge.__init__" (defArgs s_TooLarge_init) (defBody s_TooLarge_init) (defScope s_TooLarge_init) .none kVxT dcxT pmxT anxT cdxT ctxT), slxT⟩)
    (cxT : PySem.W.codeIn K cdxT "TooLarge.__init__" = true)
    (kxT : PySem.W.keepIn K (.ref fxT) = true)
    (caT : PySem.W.findIn K (.ref CT) "__class__" = some (some (.builtin "object.__class__")))
    (moT : PySem.W.mroIn K CT (.type "object") = some true)
    (neNT : CN ≠ CT)
    (sNN : PySem.W.subIn K (.ref CN) (.ref CN) = some true)
    (sTN : PySem.W.subIn K (.ref CT) (.ref CN) = some false)
    (sTT : PySem.W.subIn K (.ref CT) (.ref CT) = some true)
    (sNL : PySem.W.subIn K (.ref CN) (.ref CL) = some true)
    (sNV : PySem.W.subIn K (.ref CN) (.type "ValueError") = some true)
    (sTL : PySem.W.subIn K (.ref CT) (.ref CL) = some true)
    (icL : PySem.W.isClsIn K CL = true)
    (tyL : PySem.W.typeIn K (.ref CL) = some (.type "type"))
    :
    ∃ fd : FuncData, (∀ (s : Shared) (v : Value), BindsTo s fd ⟨[v], []⟩ [("script", v)]) ∧ ∀ base : Heap, K.In base → base.Ns mainGlobals mg → FnOk l.prog w K mg base CX0 15 fa fd ["script"] (spLaw K) := by
  have e := hfa.symm.trans (PySem.W.mg_of X G a20)
  cases e
  have F1 := fun_mk (st := s_is_integer) l1 c1 k1
  have b1 := F1.binds (ps := ["value"]) fun _ _ _ _ _ _ us hl => match us, hl with | [_], _ => rfl
  have A1 : At K mg "is_integer" s_is_integer ["value"] f1 _ := ⟨F1, PySem.W.mg_of X G a1, b1⟩
  have F2 := fun_mk (st := s_check_size) l2 c2 k2
  have b2 := F2.binds (ps := ["number", "low", "place"]) fun _ _ _ _ _ _ us hl => match us, hl with | [_, _, _], _ => rfl
  have A2 : At K mg "check_size" s_check_size ["number", "low", "place"] f2 _ := ⟨F2, PySem.W.mg_of X G a2, b2⟩
  have F3 := fun_mk (st := s_check_numbers) l3 c3 k3
  have b3 := F3.binds (ps := ["numbers", "bound", "place"]) fun _ _ _ _ _ _ us hl => match us, hl with | [_, _, _], _ => rfl
  have A3 : At K mg "check_numbers" s_check_numbers ["numbers", "bound", "place"] f3 _ := ⟨F3, PySem.W.mg_of X G a3, b3⟩
  have F4 := fun_mk (st := s_marks_for) l4 c4 k4
  have b4 := F4.binds (ps := ["numbers", "many"]) fun _ _ _ _ _ _ us hl => match us, hl with | [_, _], _ => rfl
  have A4 : At K mg "marks_for" s_marks_for ["numbers", "many"] f4 _ := ⟨F4, PySem.W.mg_of X G a4, b4⟩
  have F5 := fun_mk (st := s_least_period) l5 c5 k5
  have b5 := F5.binds (ps := ["marks"]) fun _ _ _ _ _ _ us hl => match us, hl with | [_], _ => rfl
  have A5 : At K mg "least_period" s_least_period ["marks"] f5 _ := ⟨F5, PySem.W.mg_of X G a5, b5⟩
  have F6 := fun_mk (st := s_least_start) l6 c6 k6
  have b6 := F6.binds (ps := ["marks", "cycle"]) fun _ _ _ _ _ _ us hl => match us, hl with | [_, _], _ => rfl
  have A6 : At K mg "least_start" s_least_start ["marks", "cycle"] f6 _ := ⟨F6, PySem.W.mg_of X G a6, b6⟩
  have F7 := fun_mk (st := s_law_pool) l7 c7 k7
  have b7 := F7.binds (ps := ["script", "k"]) fun _ _ _ _ _ _ us hl => match us, hl with | [_, _], _ => rfl
  have A7 : At K mg "_law_pool" s_law_pool ["script", "k"] f7 _ := ⟨F7, PySem.W.mg_of X G a7, b7⟩
  have F8 := fun_mk (st := s_law_draw) l8 c8 k8
  have b8 := F8.binds (ps := ["pool", "count"]) fun _ _ _ _ _ _ us hl => match us, hl with | [_, _], _ => rfl
  have A8 : At K mg "_law_draw" s_law_draw ["pool", "count"] f8 _ := ⟨F8, PySem.W.mg_of X G a8, b8⟩
  have F9 := fun_mk (st := s_law_some) l9 c9 k9
  have b9 := F9.binds (ps := ["pool", "size"]) fun _ _ _ _ _ _ us hl => match us, hl with | [_, _], _ => rfl
  have A9 : At K mg "_law_some" s_law_some ["pool", "size"] f9 _ := ⟨F9, PySem.W.mg_of X G a9, b9⟩
  have F10 := fun_mk (st := s_law_fields) l10 c10 k10
  have b10 := F10.binds (ps := ["pool"]) fun _ _ _ _ _ _ us hl => match us, hl with | [_], _ => rfl
  have A10 : At K mg "_law_fields" s_law_fields ["pool"] f10 _ := ⟨F10, PySem.W.mg_of X G a10, b10⟩
  have F11 := fun_mk (st := s_law_has) l11 c11 k11
  have b11 := F11.binds (ps := ["fields", "number"]) fun _ _ _ _ _ _ us hl => match us, hl with | [_, _], _ => rfl
  have A11 : At K mg "_law_has" s_law_has ["fields", "number"] f11 _ := ⟨F11, PySem.W.mg_of X G a11, b11⟩
  have F12 := fun_mk (st := s_law_bent) l12 c12 k12
  have b12 := F12.binds (ps := ["pool", "fields"]) fun _ _ _ _ _ _ us hl => match us, hl with | [_, _], _ => rfl
  have A12 : At K mg "_law_bent" s_law_bent ["pool", "fields"] f12 _ := ⟨F12, PySem.W.mg_of X G a12, b12⟩
  have F13 := fun_mk (st := s_law_whole) l13 c13 k13
  have b13 := F13.binds (ps := ["thing", "least"]) fun _ _ _ _ _ _ us hl => match us, hl with | [_, _], _ => rfl
  have A13 : At K mg "_law_whole" s_law_whole ["thing", "least"] f13 _ := ⟨F13, PySem.W.mg_of X G a13, b13⟩
  have F14 := fun_mk (st := s_law_rises) l14 c14 k14
  have b14 := F14.binds (ps := ["row", "size"]) fun _ _ _ _ _ _ us hl => match us, hl with | [_, _], _ => rfl
  have A14 : At K mg "_law_rises" s_law_rises ["row", "size"] f14 _ := ⟨F14, PySem.W.mg_of X G a14, b14⟩
  have F15 := fun_mk (st := s_law_wrong) l15 c15 k15
  have b15 := F15.binds (ps := ["fields"]) fun _ _ _ _ _ _ us hl => match us, hl with | [_], _ => rfl
  have A15 : At K mg "_law_wrong" s_law_wrong ["fields"] f15 _ := ⟨F15, PySem.W.mg_of X G a15, b15⟩
  have F16 := fun_mk (st := s_law_is_shortest) l16 c16 k16
  have b16 := F16.binds (ps := ["lengths", "fields"]) fun _ _ _ _ _ _ us hl => match us, hl with | [_, _], _ => rfl
  have A16 : At K mg "_law_is_shortest" s_law_is_shortest ["lengths", "fields"] f16 _ := ⟨F16, PySem.W.mg_of X G a16, b16⟩
  have F17 := fun_mk (st := s_law_made) l17 c17 k17
  have b17 := F17.binds (ps := ["fields", "is_tuple"]) fun _ _ _ _ _ _ us hl => match us, hl with | [_, _], _ => rfl
  have A17 : At K mg "_law_made" s_law_made ["fields", "is_tuple"] f17 _ := ⟨F17, PySem.W.mg_of X G a17, b17⟩
  have F18 := fun_mk (st := s_law_right) l18 c18 k18
  have b18 := F18.binds (ps := ["fields", "is_tuple"]) fun _ _ _ _ _ _ us hl => match us, hl with | [_, _], _ => rfl
  have A18 : At K mg "_law_right" s_law_right ["fields", "is_tuple"] f18 _ := ⟨F18, PySem.W.mg_of X G a18, b18⟩
  have F19 := fun_mk (st := s_law_answer) l19 c19 k19
  have b19 := F19.binds (ps := ["fields"]) fun _ _ _ _ _ _ us hl => match us, hl with | [_], _ => rfl
  have A19 : At K mg "_law_answer" s_law_answer ["fields"] f19 _ := ⟨F19, PySem.W.mg_of X G a19, b19⟩
  have F20 := fun_mk (st := s_law) l20 c20 k20
  have T : Txt K mg := ⟨PySem.W.mg_none_of X G z_len, PySem.W.mg_none_of X G z_list, PySem.W.mg_none_of X G z_tuple, PySem.W.mg_none_of X G z_int, PySem.W.mg_none_of X G z_abs, PySem.W.mg_none_of X G z_bool, PySem.W.mg_none_of X G z_range, PySem.W.mg_none_of X G z_isinstance, PySem.W.mg_none_of X G z_ValueError, ⟨_, PySem.W.mg_of X G gM⟩⟩
  have DF : FunD K "is_from" "is_from" (defArgs s_is_from) (defBody s_is_from) (defScope s_is_from) [.non] [] fF _ := ⟨⟨_, _, _, _, _, _, _, _, _, _, rfl, lF, cF, .inr ⟨by simp, tF, _, [.none], _, rfl, vF, rfl, .cons rfl .nil⟩, .inl rfl⟩, kF⟩
  have AF : AtD K mg "is_from" s_is_from ["value", "low", "high"] [.non] fF _ := ⟨DF, PySem.W.mg_of X G aF, by
      obtain ⟨ds, hv, hb⟩ := DF.binds1 (ps := ["value", "low", "high"]) 3 1 (by simp) (by rfl) (fun T kV doc pm an cdv ct us its hu hi => match us, hu, its, hi with | [_, _, _], _, [_], _ => ⟨_, rfl, rfl⟩)
      cases hv
      exact hb, DF.binds1 (ps := ["value", "low", "high"]) 2 0 (by simp) (by rfl) (fun T kV doc pm an cdv ct us its hu hi => match us, hu, its, hi with | [_, _], _, [_], _ => ⟨_, rfl, rfl⟩)⟩
  have S : SetC K mg CS := ⟨PySem.W.mg_of X G gC, ⟨pg, hd, po, sa⟩, n_period, n_cycle, n_start, n_marks⟩
  have I : SetI K CS := ⟨ca, cn, ct, mob⟩
  have DI : FunD K "__init__" "LengthSet.__init__" (defArgs s_LengthSet_init) (defBody s_LengthSet_init) (defScope s_LengthSet_init) [.ref t0, .int 0, .int 1, .ref t1] [] fI _ := ⟨⟨_, _, _, _, _, _, _, _, _, _, rfl, lI, cI, .inr ⟨by simp, tI, _, [.ref t0, .int 0 tk0, .int 1 tk1, .ref t1], _, rfl, vI, rfl, .cons rfl (.cons ⟨_, rfl⟩ (.cons ⟨_, rfl⟩ (.cons rfl .nil)))⟩, .inl rfl⟩, kI⟩
  have FE := fun_mk (st := s_LengthSet_early) lE cE kE
  have FR := fun_mk (st := s_LengthSet_rests) lR cR kR
  have FO := fun_mk (st := s_LengthSet_contains) lO cO kO
  have FQ := fun_mk (st := s_LengthSet_eq) lQ cQ kQ
  have FN := fun_mk (st := s_NoSet_init) lxN cxN kxN
  have FT := fun_mk (st := s_TooLarge_init) lxT cxT kxT
  have bE := FE.binds (ps := ["self"]) fun _ _ _ _ _ _ us hl => match us, hl with | [_], _ => rfl
  have bR := FR.binds (ps := ["self"]) fun _ _ _ _ _ _ us hl => match us, hl with | [_], _ => rfl
  have bO := FO.binds (ps := ["self", "x"]) fun _ _ _ _ _ _ us hl => match us, hl with | [_, _], _ => rfl
  have bQ := FQ.binds (ps := ["self", "other"]) fun _ _ _ _ _ _ us hl => match us, hl with | [_, _], _ => rfl
  have bN := FN.binds (ps := ["self", "place"]) fun _ _ _ _ _ _ us hl => match us, hl with | [_, _], _ => rfl
  have bT := FT.binds (ps := ["self", "limit"]) fun _ _ _ _ _ _ us hl => match us, hl with | [_, _], _ => rfl
  have ON : OexC K CN := ⟨⟨_, _, _, _, _, _, _, _, _, _, _, _, _, _, _, eN, rN⟩, sN, bbN, tN, pN⟩
  have OT : OexC K CT := ⟨⟨_, _, _, _, _, _, _, _, _, _, _, _, _, _, _, eT, rT⟩, sT, bbT, tT, pT⟩
  refine ⟨PySem.W.fnOf "law" "law" (defArgs s_law) (defBody s_law) (defScope s_law) .none kV20 dc20 pm20 an20 cd20 ct20, fun s v => .of_eq rfl, fun base _ _ => ?_⟩
  have ErN : ErrC l.prog w K mg base "NoSet" CN "place" := ⟨PySem.W.mg_of X G gN, ON, noN, ⟨gaN, ggN, bbN, hdN⟩, fxN, _, _, inN, tyN, ok_initE FN sc_NoSet_init rfl ON noN (Or.inl rfl) (Or.inl rfl) (fun _ => rfl) (by decide) (by decide), bN⟩
  have ErT : ErrC l.prog w K mg base "TooLarge" CT "limit" := ⟨PySem.W.mg_of X G gT, OT, noT, ⟨gaT, ggT, bbT, hdT⟩, fxT, _, _, inT, tyT, ok_initE FT sc_TooLarge_init rfl OT noT (Or.inl rfl) (Or.inl rfl) (fun _ => rfl) (by decide) (by decide), bT⟩
  have Er : Errs l.prog w K mg base CN CT CL := ⟨ErN, ErT, neNT, PySem.W.mg_of X G gL, PySem.W.exm_ref bbN hdN tN sNN, PySem.W.exm_ref bbN hdN tN sTN, PySem.W.exm_ref bbT hdT tT sTT, kit_own icL tyL sNL, kit_err sNV, kit_own icL tyL sTL, ⟨gaN, ggN, bbN, hdN, caN, cn, ct, moN⟩, ⟨gaT, ggT, bbT, hdT, caT, cn, ct, moT⟩⟩
  have C_is_integer := A1.cal (ok_is_integer (P := l.prog) (w := w) (base := base) T A1)
  have C_is_from : CalFrom l.prog w K mg base := AF.cal (ok_is_from (P := l.prog) (w := w) (base := base) T C_is_integer AF)
  have C_check_size := A2.calE (ok_check_size (P := l.prog) (w := w) (base := base) T ErN ErT C_is_from A2)
  have C_check_numbers := A3.calE (ok_check_numbers (P := l.prog) (w := w) (base := base) T ErN C_is_from A3)
  have C_marks_for := A4.cal (ok_marks_for (P := l.prog) (w := w) (base := base) T A4)
  have C_least_period := A5.cal (ok_least_period (P := l.prog) (w := w) (base := base) T A5)
  have C_least_start := A6.cal (ok_least_start (P := l.prog) (w := w) (base := base) T A6)
  have Fi := ok_init (P := l.prog) (w := w) (base := base) T S C_check_size C_check_numbers C_marks_for C_least_period C_least_start DI
  have E0_ : ∀ B, Dt K B (.ref t0) (.tuple []) := fun B => .tup (.inr ⟨_, _, _, v0, rfl, rfl, (by show 0 ≤ sizeLine; decide), .nil⟩) .nil
  have E1_ : ∀ B, Dt K B (.ref t1) (.tuple []) := fun B => .tup (.inr ⟨_, _, _, v1, rfl, rfl, (by show 0 ≤ sizeLine; decide), .nil⟩) .nil
  have M : MkS l.prog w K mg base CN CT CS t0 t1 := by
    refine ⟨⟨fI, _, ⟨mk, aI, iI, kC⟩, Fi, ?_, ?_, ?_, ?_⟩, E0_, E1_⟩
    · obtain ⟨ds, hv, hb⟩ := DI.binds1 (ps := ["self", "early", "start", "period", "rests"]) 5 4 (by simp) (by rfl) (fun T kV doc pm an cdv ct us its hu hi => match us, hu, its, hi with | [_, _, _, _, _], _, [_, _, _, _], _ => ⟨_, rfl, rfl⟩)
      cases hv
      exact hb
    · exact DI.binds1 (ps := ["self", "early", "start", "period", "rests"]) 1 0 (by simp) (by rfl) (fun T kV doc pm an cdv ct us its hu hi => match us, hu, its, hi with | [_], _, [_, _, _, _], _ => ⟨_, rfl, rfl⟩)
    · exact DI.binds1 (ps := ["self", "early", "start", "period", "rests"]) 3 2 (by simp) (by rfl) (fun T kV doc pm an cdv ct us its hu hi => match us, hu, its, hi with | [_, _, _], _, [_, _, _, _], _ => ⟨_, rfl, rfl⟩)
    · obtain ⟨its, hk⟩ := DI.kbindsD (ps := ["self", "early", "start", "period", "rests"]) 2 ["start", "period", "rests"] (fun us _ ws => us ++ ws) (by simp) (fun r1 _ r3 => r1.append r3) (fun T kV doc pm an cdv ct us its ws hu hi hw => match us, hu, its, hi, ws, hw with | [_, _], _, [_, _, _, _], _, [_, _, _], _ => ⟨_, rfl, rfl⟩)
      exact ⟨_, hk⟩
  have Os : OpsS l.prog w K mg base CS := ⟨⟨fO, _, qO1, qO2, ok_has (P := l.prog) (w := w) (base := base) T S C_is_from FO, bO⟩, ⟨fQ, _, qQ1, qQ2, ok_eq (P := l.prog) (w := w) (base := base) T S I FQ, bQ⟩, nen, mob⟩
  have Pe : PropP l.prog w K mg base CS "early" (SpIdx K CS (·.marks)) := ⟨⟨pE, fE, _, ⟨qE1, qE2, qE3, ⟨_, qE4⟩⟩, ok_early (P := l.prog) (w := w) (base := base) T S FE, bE⟩, S.cls⟩
  have Pr : PropP l.prog w K mg base CS "rests" (SpIdx K CS (·.cycle)) := ⟨⟨pR, fR, _, ⟨qR1, qR2, qR3, ⟨_, qR4⟩⟩, ok_rests (P := l.prog) (w := w) (base := base) T S FR, bR⟩, S.cls⟩
  have C_law_pool := A7.cal (ok_law_pool (P := l.prog) (w := w) (base := base) T A7)
  have C_law_draw := A8.cal (ok_law_draw (P := l.prog) (w := w) (base := base) T A8)
  have C_law_fields := A10.cal (ok_law_fields (P := l.prog) (w := w) (base := base) T A10 A8 A9)
  have C_law_has := A11.cal (ok_law_has (P := l.prog) (w := w) (base := base) T A11)
  have C_law_bent := A12.cal (ok_law_bent (P := l.prog) (w := w) (base := base) T A12 A8)
  have C_law_whole := A13.cal (ok_law_whole (P := l.prog) (w := w) (base := base) T A13)
  have C_law_rises := A14.cal (ok_law_rises (P := l.prog) (w := w) (base := base) T C_law_whole A14)
  have C_law_wrong := A15.cal (ok_law_wrong (P := l.prog) (w := w) (base := base) T C_law_whole C_law_rises A15)
  have C_law_is_shortest := A16.cal (ok_law_is_shortest (P := l.prog) (w := w) (base := base) T S Pe Pr C_law_whole C_law_wrong C_law_has A16)
  have C_law_made := A17.cal (ok_law_made (P := l.prog) (w := w) (base := base) T S M A17)
  have C_law_right := A18.cal (ok_law_right (P := l.prog) (w := w) (base := base) T S Os Pe Pr C_law_made C_law_has C_law_is_shortest A18)
  have C_law_answer := A19.cal (ok_law_answer (P := l.prog) (w := w) (base := base) T S Er M A19)
  exact ok_law fines T S Er M Os C_law_pool C_law_draw C_law_fields C_law_right C_law_bent C_law_answer C_law_wrong F20
theorem walk {l : PySem.W.OpenLaw} {q : Program} {loose : List Str} {XP : (Str → Option Value) → Heap → Prop} {YP : World → Heap → Prop} {d : DefRec} {K : Params → PySem.W.Frag} (hn : l.most = some 63) (hdf : d.params.defaults = [])
    (hY : ∀ (w : World) (h : Heap), YP w h → (K w.params).In h)
    (F : ∀ (w : World) (mg : Str → Option Value) (fa : Addr) (h : Heap), (K w.params).In h → h.Ns mainGlobals mg → mg d.name = some (.ref fa) →
      ∃ fd : FuncData, (∀ (s : Shared) (u : Value), BindsTo s fd ⟨[u], []⟩ [("script", u)]) ∧ ∀ base : Heap, (K w.params).In base → base.Ns mainGlobals mg → FnOk l.prog w (K w.params) mg base CX0 15 fa fd ["script"] (spLaw (K w.params))) :
    PySem.W.WalkO q loose XP YP l.row.toRowW d [] (fun f vs => PySem.call f vs) :=
  L2.walk_of (n := 63) (k := 15) (x := "script") (CX := fun _ => CX0) (sp := fun w => spLaw (K w.params)) hn (by decide) hdf ⟨rfl, by decide, by decide⟩ hY F (fun _ _ a ns hl _ hS => ⟨a, ns, rfl, hS, hl, fun _ => rfl⟩) fun _ _ _ _ _ z => z
end Toy

set_option Elab.async false
set_option linter.all false
open PySem PySem.W PyProof.Rows
set_option maxRecDepth 100000 in
set_option maxHeartbeats 0 in
theorem PySem.Challenge.cw_withinlimits_k50_sets_in_their_shortest_holds : PySem.Challenge.rw_withinlimits_k50_sets_in_their_shortest.Holds := by
  w_on; o_law; k_head; (case hw => w_witness2)
  k_fill
  refine Toy.walk (l := PySem.Challenge.rw_withinlimits_k50_sets_in_their_shortest) rfl rfl (fun w h Y => PySem.W.kIn_of Y) ?F
  case F =>
    intro w mg fa h KX G hmg
    refine' Toy.all_mk KX G hmg ?a1 ?l1 ?c1 ?k1 ?a2 ?l2 ?c2 ?k2 ?a3 ?l3 ?c3 ?k3 ?a4 ?l4 ?c4 ?k4 ?a5 ?l5 ?c5 ?k5 ?a6 ?l6 ?c6 ?k6 ?a7 ?l7 ?c7 ?k7 ?a8 ?l8 ?c8 ?k8 ?a9 ?l9 ?c9 ?k9 ?a10 ?l10 ?c10 ?k10 ?a11 ?l11 ?c11 ?k11 ?a12 ?l12 ?c12 ?k12 ?a13 ?l13 ?c13 ?k13 ?a14 ?l14 ?c14 ?k14 ?a15 ?l15 ?c15 ?k15 ?a16 ?l16 ?c16 ?k16 ?a17 ?l17 ?c17 ?k17 ?a18 ?l18 ?c18 ?k18 ?a19 ?l19 ?c19 ?k19 ?a20 ?l20 ?c20 ?k20 ?z_len ?z_list ?z_tuple ?z_int ?z_abs ?z_bool ?z_range ?z_isinstance ?z_ValueError ?gM ?aF ?lF ?cF ?kF ?vF ?gC ?pg ?hd ?po ?sa ?n_period ?n_cycle ?n_start ?n_marks ?mk ?aI ?iI ?kC ?lI ?cI ?kI ?vI ?v0 ?v1 ?qE1 ?qE2 ?qE3 ?qE4 ?lE ?cE ?kE ?qR1 ?qR2 ?qR3 ?qR4 ?lR ?cR ?kR ?qO1 ?qO2 ?lO ?cO ?kO ?qQ1 ?qQ2 ?lQ ?cQ ?kQ ?nen ?mob ?ca ?cn ?ct ?gL ?gN ?eN ?rN ?sN ?bbN ?tN ?pN ?noN ?gaN ?ggN ?hdN ?inN ?tyN ?lxN ?cxN ?kxN ?caN ?moN ?gT ?eT ?rT ?sT ?bbT ?tT ?pT ?noT ?gaT ?ggT ?hdT ?inT ?tyT ?lxT ?cxT ?kxT ?caT ?moT ?neNT ?sNN ?sTN ?sTT ?sNL ?sNV ?sTL ?icL ?tyL
    (case a1 => k_is)
    (case l1 => k_is)
    (case c1 => k_is)
    (case k1 => k_is)
    (case a2 => k_is)
    (case l2 => k_is)
    (case c2 => k_is)
    (case k2 => k_is)
    (case a3 => k_is)
    (case l3 => k_is)
    (case c3 => k_is)
    (case k3 => k_is)
    (case a4 => k_is)
    (case l4 => k_is)
    (case c4 => k_is)
    (case k4 => k_is)
    (case a5 => k_is)
    (case l5 => k_is)
    (case c5 => k_is)
    (case k5 => k_is)
    (case a6 => k_is)
    (case l6 => k_is)
    (case c6 => k_is)
    (case k6 => k_is)
    (case a7 => k_is)
    (case l7 => k_is)
    (case c7 => k_is)
    (case k7 => k_is)
    (case a8 => k_is)
    (case l8 => k_is)
    (case c8 => k_is)
    (case k8 => k_is)
    (case a9 => k_is)
    (case l9 => k_is)
    (case c9 => k_is)
    (case k9 => k_is)
    (case a10 => k_is)
    (case l10 => k_is)
    (case c10 => k_is)
    (case k10 => k_is)
    (case a11 => k_is)
    (case l11 => k_is)
    (case c11 => k_is)
    (case k11 => k_is)
    (case a12 => k_is)
    (case l12 => k_is)
    (case c12 => k_is)
    (case k12 => k_is)
    (case a13 => k_is)
    (case l13 => k_is)
    (case c13 => k_is)
    (case k13 => k_is)
    (case a14 => k_is)
    (case l14 => k_is)
    (case c14 => k_is)
    (case k14 => k_is)
    (case a15 => k_is)
    (case l15 => k_is)
    (case c15 => k_is)
    (case k15 => k_is)
    (case a16 => k_is)
    (case l16 => k_is)
    (case c16 => k_is)
    (case k16 => k_is)
    (case a17 => k_is)
    (case l17 => k_is)
    (case c17 => k_is)
    (case k17 => k_is)
    (case a18 => k_is)
    (case l18 => k_is)
    (case c18 => k_is)
    (case k18 => k_is)
    (case a19 => k_is)
    (case l19 => k_is)
    (case c19 => k_is)
    (case k19 => k_is)
    (case a20 => k_is)
    (case l20 => k_is)
    (case c20 => k_is)
    (case k20 => k_is)
    (case z_len => k_is)
    (case z_list => k_is)
    (case z_tuple => k_is)
    (case z_int => k_is)
    (case z_abs => k_is)
    (case z_bool => k_is)
    (case z_range => k_is)
    (case z_isinstance => k_is)
    (case z_ValueError => k_is)
    (case gM => k_is)
    (case aF => k_is)
    (case lF => k_is)
    (case cF => k_is)
    (case kF => k_is)
    (case vF => k_is)
    (case gC => k_is)
    (case pg => k_is)
    (case hd => k_is)
    (case po => k_is)
    (case sa => k_is)
    (case n_period => k_is)
    (case n_cycle => k_is)
    (case n_start => k_is)
    (case n_marks => k_is)
    (case mk => k_is)
    (case aI => k_is)
    (case iI => k_is)
    (case kC => k_is)
    (case lI => k_is)
    (case cI => k_is)
    (case kI => k_is)
    (case vI => k_is)
    (case v0 => k_is)
    (case v1 => k_is)
    (case qE1 => k_is)
    (case qE2 => k_is)
    (case qE3 => k_is)
    (case qE4 => k_is)
    (case lE => k_is)
    (case cE => k_is)
    (case kE => k_is)
    (case qR1 => k_is)
    (case qR2 => k_is)
    (case qR3 => k_is)
    (case qR4 => k_is)
    (case lR => k_is)
    (case cR => k_is)
    (case kR => k_is)
    (case qO1 => k_is)
    (case qO2 => k_is)
    (case lO => k_is)
    (case cO => k_is)
    (case kO => k_is)
    (case qQ1 => k_is)
    (case qQ2 => k_is)
    (case lQ => k_is)
    (case cQ => k_is)
    (case kQ => k_is)
    (case nen => k_is)
    (case mob => k_is)
    (case ca => k_is)
    (case cn => k_is)
    (case ct => k_is)
    (case gL => k_is)
    (case gN => k_is)
    (case eN => k_is)
    (case rN => decide +kernel)
    (case sN => k_is)
    (case bbN => k_is)
    (case tN => k_is)
    (case pN => k_is)
    (case noN => k_is)
    (case gaN => k_is)
    (case ggN => k_is)
    (case hdN => k_is)
    (case inN => k_is)
    (case tyN => k_is)
    (case lxN => k_is)
    (case cxN => k_is)
    (case kxN => k_is)
    (case caN => k_is)
    (case moN => k_is)
    (case gT => k_is)
    (case eT => k_is)
    (case rT => decide +kernel)
    (case sT => k_is)
    (case bbT => k_is)
    (case tT => k_is)
    (case pT => k_is)
    (case noT => k_is)
    (case gaT => k_is)
    (case ggT => k_is)
    (case hdT => k_is)
    (case inT => k_is)
    (case tyT => k_is)
    (case lxT => k_is)
    (case cxT => k_is)
    (case kxT => k_is)
    (case caT => k_is)
    (case moT => k_is)
    (case neNT => decide)
    (case sNN => k_is)
    (case sTN => k_is)
    (case sTT => k_is)
    (case sNL => k_is)
    (case sNV => k_is)
    (case sTL => k_is)
    (case icL => k_is)
    (case tyL => k_is)

