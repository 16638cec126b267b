import PyProof.Rows.All
import Wide.All
import OpenK.AllK
import Wide.FinOn
import HandS.ForMost
import HandS.Walk
import HandS.Zip
import HandS.Star
import HandS.Wide
import HandS.IsInst
import HandS.TupAny
import HandS.Conv
import KE.GoesZip
import KE.GoesMore
import KE.GoesEnum
import HandS.Evl
import PySem.Challenge.RW_withinlimits_k03_sizes_and_places_of_par
set_option Elab.async false
set_option linter.all false
set_option maxRecDepth 100000
set_option maxHeartbeats 2000000
/-! Data that stands still, and what is owned and changed: readings of pure expressions. -/
namespace DL
open PySem L2 StX

/-! ### heaps: B stands still and may grow; O is what may change -/
def Ex (H H' : Hp) : Prop := ∀ a o, H a = some o → H' a = some o
theorem Ex.refl (H : Hp) : Ex H H := fun _ _ h => h
theorem Ex.trans {H H1 H2 : Hp} (a : Ex H H1) (b : Ex H1 H2) : Ex H H2 := fun x o h => b x o (a x o h)
theorem Ex.new {H : Hp} {p : Addr} {o : HO} (h : H p = none) : Ex H (upd H p o) := fun a u e => by
  rw [upd_ne (ne_of_none e h)]
  exact e
structure W (B O H : Hp) : Prop where
  b : Ex B H
  o : Ex O H
  d : ∀ a, B a = none ∨ O a = none
theorem none_of_ex {B H : Hp} {p : Addr} (e : Ex B H) (h : H p = none) : B p = none := by
  cases h1 : B p with
  | none => rfl
  | some o =>
    rw [e p o h1] at h
    cases h
theorem W.fb {B O H : Hp} {p : Addr} (w : W B O H) (h : H p = none) : B p = none := none_of_ex w.b h
theorem W.fo {B O H : Hp} {p : Addr} (w : W B O H) (h : H p = none) : O p = none := none_of_ex w.o h
/-- a new thing that stands still -/
theorem W.newB {B O H : Hp} {p : Addr} {u : HO} (w : W B O H) (h : H p = none) : W (upd B p u) O (upd H p u) := by
  refine ⟨fun a o e => ?_, fun a o e => ?_, fun a => ?_⟩
  · by_cases hp : a = p
    · subst hp
      rw [upd_same] at e ⊢
      exact e
    · rw [upd_ne hp] at e ⊢
      exact w.b a o e
  · rw [upd_ne (ne_of_none e (w.fo h))]
    exact w.o a o e
  · by_cases hp : a = p
    · subst hp
      exact .inr (w.fo h)
    · rw [upd_ne hp]
      exact w.d a
/-- a new thing that is owned -/
theorem W.newO {B O H : Hp} {p : Addr} {u : HO} (w : W B O H) (h : H p = none) : W B (upd O p u) (upd H p u) := by
  refine ⟨fun a o e => ?_, fun a o e => ?_, fun a => ?_⟩
  · rw [upd_ne (ne_of_none e (w.fb h))]
    exact w.b a o e
  · by_cases hp : a = p
    · subst hp
      rw [upd_same] at e ⊢
      exact e
    · rw [upd_ne hp] at e ⊢
      exact w.o a o e
  · by_cases hp : a = p
    · subst hp
      exact .inl (w.fb h)
    · rw [upd_ne hp]
      exact w.d a
/-- what is owned is changed -/
theorem W.mut {B O H : Hp} {p : Addr} {u v : HO} (w : W B O H) (h : O p = some u) : W B (upd O p v) (upd H p v) := by
  have hb : B p = none := by
    rcases w.d p with q | q
    · exact q
    · rw [q] at h; cases h
  refine ⟨fun a o e => ?_, fun a o e => ?_, fun a => ?_⟩
  · rw [upd_ne (ne_of_none e hb)]
    exact w.b a o e
  · by_cases hp : a = p
    · subst hp
      rw [upd_same] at e ⊢
      exact e
    · rw [upd_ne hp] at e ⊢
      exact w.o a o e
  · by_cases hp : a = p
    · subst hp
      exact .inl hb
    · rw [upd_ne hp]
      exact w.d a
/-- what was owned is given away, to stand still -/
theorem W.give {B O H : Hp} {p : Addr} {u : HO} (w : W B (upd O p u) H) (h : O p = none) : W (upd B p u) O H := by
  have hp' : H p = some u := w.o p u upd_same
  refine ⟨fun a o e => ?_, fun a o e => ?_, fun a => ?_⟩
  · by_cases hp : a = p
    · subst hp
      rw [upd_same] at e
      cases e
      exact hp'
    · rw [upd_ne hp] at e
      exact w.b a o e
  · have hp : a ≠ p := ne_of_none e h
    exact w.o a o (by rw [upd_ne hp]; exact e)
  · by_cases hp : a = p
    · subst hp
      exact .inr h
    · rw [upd_ne hp]
      have := w.d a
      rw [upd_ne hp] at this
      exact this
theorem W.bnone {B O H : Hp} {p : Addr} {u : HO} (w : W B O H) (h : O p = some u) : B p = none := by
  rcases w.d p with q | q
  · exact q
  · rw [q] at h; cases h

/-! ### data: as Dp, each list tracked -/
mutual
inductive Dt (K : PySem.W.Frag) (B : Hp) : V → PyData → Prop
  | non : Dt K B .non .none
  | bl (b : Bool) : Dt K B (.bl b) (.bool b)
  | int (i : Int) : Dt K B (.int i) (.int i)
  | str (x : Str) : Dt K B (.str x) (.str x)
  | lst {a : Addr} {xs : List V} {ds : List PyData} : B a = some (.lst xs) → DtAll K B xs ds → Dt K B (.ref a) (.list ds)
  | tup {a : Addr} {xs : List V} {ds : List PyData} : SqT K B a xs → DtAll K B xs ds → Dt K B (.ref a) (.tuple ds)
inductive DtAll (K : PySem.W.Frag) (B : Hp) : List V → List PyData → Prop
  | nil : DtAll K B [] []
  | cons {v : V} {vs : List V} {d : PyData} {ds : List PyData} : Dt K B v d → DtAll K B vs ds → DtAll K B (v :: vs) (d :: ds)
end
mutual
theorem dt_dp {K : PySem.W.Frag} {B : Hp} : ∀ (d : PyData) (v : V), Dt K B v d → Dp K B v d
  | .none, _, h => by cases h; exact .non
  | .bool b, _, h => by cases h; exact .bl b
  | .int i, _, h => by cases h; exact .int i
  | .str x, _, h => by cases h; exact .str x
  | .list ds, _, h => by
    cases h with
    | lst hs ha => exact .lst (.inl (.inl hs)) (dt_dps ds _ ha)
  | .tuple ds, _, h => by
    cases h with
    | tup hs ha => exact .tup hs (dt_dps ds _ ha)
  | .dict _, _, h => by cases h
theorem dt_dps {K : PySem.W.Frag} {B : Hp} : ∀ (ds : List PyData) (vs : List V), DtAll K B vs ds → DpAll K B vs ds
  | [], _, h => by cases h; exact .nil
  | d :: ds, _, h => by
    cases h with
    | cons h1 h2 => exact .cons (dt_dp d _ h1) (dt_dps ds _ h2)
end
theorem rd_ex {B B' : Hp} {a : Addr} {u : HO} (e : Ex B B') (h : Rd B a u) : Rd B' a u := by
  rcases h with h | ⟨o, h⟩
  · exact Or.inl (e a _ h)
  · exact Or.inr ⟨o, e a _ h⟩
theorem sl_ex {K : PySem.W.Frag} {B B' : Hp} {a : Addr} {xs : List V} (e : Ex B B') (h : SqL K B a xs) : SqL K B' a xs := by
  rcases h with h | h
  · exact Or.inl (rd_ex e h)
  · exact Or.inr h
theorem st_ex {K : PySem.W.Frag} {B B' : Hp} {a : Addr} {xs : List V} (e : Ex B B') (h : SqT K B a xs) : SqT K B' a xs := by
  rcases h with h | h
  · exact Or.inl (rd_ex e h)
  · exact Or.inr h
mutual
theorem dp_ex {K : PySem.W.Frag} {B B' : Hp} (e : Ex B B') : ∀ (d : PyData) (v : V), Dt K B v d → Dt K B' v d
  | .none, _, h => by cases h; exact .non
  | .bool b, _, h => by cases h; exact .bl b
  | .int i, _, h => by cases h; exact .int i
  | .str x, _, h => by cases h; exact .str x
  | .list ds, _, h => by
    cases h with
    | lst hs ha => exact .lst (e _ _ hs) (dps_ex e ds _ ha)
  | .tuple ds, _, h => by
    cases h with
    | tup hs ha => exact .tup (st_ex e hs) (dps_ex e ds _ ha)
  | .dict _, _, h => by cases h
theorem dps_ex {K : PySem.W.Frag} {B B' : Hp} (e : Ex B B') : ∀ (ds : List PyData) (vs : List V), DtAll K B vs ds → DtAll K B' vs ds
  | [], _, h => by cases h; exact .nil
  | d :: ds, _, h => by
    cases h with
    | cons h1 h2 => exact .cons (dp_ex e d _ h1) (dps_ex e ds _ h2)
end
section
variable {K : PySem.W.Frag} {B : Hp}
theorem dps_len : ∀ {ds : List PyData} {vs : List V}, DtAll K B vs ds → vs.length = ds.length
  | [], _, h => by cases h; rfl
  | _ :: ds, _, h => by
    cases h with
    | cons h1 h2 => simp [dps_len h2]
theorem dps_get : ∀ {ds : List PyData} {vs : List V} {i : Nat} {d : PyData}, DtAll K B vs ds → ds[i]? = some d → ∃ v, vs[i]? = some v ∧ Dt K B v d
  | [], _, _, _, _, h => by simp at h
  | x :: ds, _, 0, d, h, e => by
    cases h with
    | cons h1 h2 =>
      simp at e
      subst e
      exact ⟨_, rfl, h1⟩
  | x :: ds, _, i + 1, d, h, e => by
    cases h with
    | cons h1 h2 =>
      simp at e
      obtain ⟨v, hv, dv⟩ := dps_get h2 e
      exact ⟨v, by simpa using hv, dv⟩
theorem dps_getV : ∀ {ds : List PyData} {vs : List V} {i : Nat} {v : V}, DtAll K B vs ds → vs[i]? = some v → ∃ d, ds[i]? = some d ∧ Dt K B v d
  | [], _, _, _, h, e => by cases h; simp at e
  | x :: ds, _, 0, v, h, e => by
    cases h with
    | cons h1 h2 =>
      simp at e
      subst e
      exact ⟨_, rfl, h1⟩
  | x :: ds, _, i + 1, v, h, e => by
    cases h with
    | cons h1 h2 =>
      simp at e
      obtain ⟨d, hd, dv⟩ := dps_getV h2 e
      exact ⟨d, by simpa using hd, dv⟩
theorem dps_app : ∀ {ds es : List PyData} {vs ws : List V}, DtAll K B vs ds → DtAll K B ws es → DtAll K B (vs ++ ws) (ds ++ es)
  | [], _, _, _, h, g => by cases h; exact g
  | _ :: ds, _, _, _, h, g => by
    cases h with
    | cons h1 h2 => exact .cons h1 (dps_app h2 g)
theorem dps_one {v : V} {d : PyData} (h : Dt K B v d) : DtAll K B [v] [d] := .cons h .nil
theorem dps_take : ∀ {ds : List PyData} {vs : List V} (n : Nat), DtAll K B vs ds → DtAll K B (vs.take n) (ds.take n)
  | _, _, 0, _ => by simp; exact .nil
  | [], _, n + 1, h => by cases h; simp; exact .nil
  | _ :: ds, _, n + 1, h => by
    cases h with
    | cons h1 h2 => simp; exact .cons h1 (dps_take n h2)
theorem dps_drop : ∀ {ds : List PyData} {vs : List V} (n : Nat), DtAll K B vs ds → DtAll K B (vs.drop n) (ds.drop n)
  | _, _, 0, h => by simpa using h
  | [], _, n + 1, h => by cases h; simp; exact .nil
  | _ :: ds, _, n + 1, h => by
    cases h with
    | cons h1 h2 => simp; exact dps_drop n h2
theorem dps_set : ∀ {ds : List PyData} {vs : List V} {v : V} {d : PyData} (j : Nat), DtAll K B vs ds → Dt K B v d → DtAll K B (vs.set j v) (ds.set j d)
  | [], _, _, _, _, h, _ => by cases h; exact .nil
  | _ :: ds, _, _, _, 0, h, g => by
    cases h with
    | cons h1 h2 => exact .cons g h2
  | _ :: ds, _, _, _, j + 1, h, g => by
    cases h with
    | cons h1 h2 => exact .cons h1 (dps_set j h2 g)
theorem dp_int {v : V} {i : Int} (h : Dt K B v (.int i)) : v = .int i := by cases h; rfl
theorem dp_bool {v : V} {b : Bool} (h : Dt K B v (.bool b)) : v = .bl b := by cases h; rfl
theorem dp_str {v : V} {x : Str} (h : Dt K B v (.str x)) : v = .str x := by cases h; rfl
theorem dp_none {v : V} (h : Dt K B v .none) : v = .non := by cases h; rfl
theorem dp_tup {v : V} {ds : List PyData} (h : Dt K B v (.tuple ds)) : ∃ a xs, v = .ref a ∧ SqT K B a xs ∧ DtAll K B xs ds := by
  cases h with
  | tup h1 h2 => exact ⟨_, _, rfl, h1, h2⟩
theorem dp_lst {v : V} {ds : List PyData} (h : Dt K B v (.list ds)) : ∃ a xs, v = .ref a ∧ B a = some (.lst xs) ∧ DtAll K B xs ds := by
  cases h with
  | lst h1 h2 => exact ⟨_, _, rfl, h1, h2⟩
theorem dps_ints : ∀ {ns : List Int} {vs : List V}, DtAll K B vs (ns.map .int) → vs = ns.map V.int
  | [], _, h => by cases h; rfl
  | n :: ns, _, h => by
    cases h with
    | cons h1 h2 =>
      rw [dp_int h1, dps_ints h2]
      rfl
theorem dps_bools : ∀ {ns : List Bool} {vs : List V}, DtAll K B vs (ns.map .bool) → vs = ns.map V.bl
  | [], _, h => by cases h; rfl
  | n :: ns, _, h => by
    cases h with
    | cons h1 h2 =>
      rw [dp_bool h1, dps_bools h2]
      rfl
theorem ints_dps : ∀ (ns : List Int), DtAll K B (ns.map V.int) (ns.map .int)
  | [] => .nil
  | n :: ns => .cons (.int n) (ints_dps ns)
end
/-- the flat data -/
def fv : PyData → V
  | .none => .non
  | .bool b => .bl b
  | .int i => .int i
  | .str x => .str x
  | _ => .ref 0
def flatD : PyData → Bool
  | .none => true
  | .bool _ => true
  | .int _ => true
  | .str _ => true
  | _ => false
theorem fv_of {K : PySem.W.Frag} {B : Hp} {v : V} {d : PyData} (h : Dt K B v d) (f : flatD d = true) : v = fv d ∧ flatV v = true := by
  cases h with
  | non => exact ⟨rfl, rfl⟩
  | bl => exact ⟨rfl, rfl⟩
  | int => exact ⟨rfl, rfl⟩
  | str => exact ⟨rfl, rfl⟩
  | lst => cases f
  | tup => cases f
theorem fvs_of {K : PySem.W.Frag} {B : Hp} : ∀ {ds : List PyData} {vs : List V}, DtAll K B vs ds → ds.all flatD = true → vs = ds.map fv ∧ vs.all flatV = true
  | [], _, h, _ => by cases h; exact ⟨rfl, rfl⟩
  | d :: ds, _, h, f => by
    rw [List.all_cons, Bool.and_eq_true] at f
    cases h with
    | cons h1 h2 =>
      obtain ⟨e1, f1⟩ := fv_of h1 f.1
      obtain ⟨e2, f2⟩ := fvs_of h2 f.2
      refine ⟨by rw [e1, e2]; rfl, ?_⟩
      rw [List.all_cons, f1, f2]
      rfl

/-! ### slots -/
inductive SD where
  | un
  | dat (d : PyData)
  | val (v : V)
def SlotOk (K : PySem.W.Frag) (B : Hp) : Option V → SD → Prop
  | _, .un => True
  | ov, .dat d => ∃ v, ov = some v ∧ Dt K B v d
  | ov, .val v => ov = some v
def Slots (K : PySem.W.Frag) (B : Hp) : L2.St → List SD → Prop
  | [], [] => True
  | s :: σ, g :: G => SlotOk K B s g ∧ Slots K B σ G
  | _, _ => False
section
variable {K : PySem.W.Frag} {B B' : Hp}
theorem SlotOk.ex (e : Ex B B') {s : Option V} {g : SD} (h : SlotOk K B s g) : SlotOk K B' s g := by
  cases g with
  | un => exact trivial
  | dat d =>
    obtain ⟨v, hv, hd⟩ := h
    exact ⟨v, hv, dp_ex e d v hd⟩
  | val v => exact h
theorem Slots.ex (e : Ex B B') : ∀ {σ : L2.St} {G : List SD}, Slots K B σ G → Slots K B' σ G
  | [], [], _ => trivial
  | _ :: _, _ :: _, h => ⟨h.1.ex e, Slots.ex e h.2⟩
  | [], _ :: _, h => h.elim
  | _ :: _, [], h => h.elim
theorem Slots.get : ∀ {σ : L2.St} {G : List SD} {i : Nat} {g : SD}, Slots K B σ G → G[i]? = some g → ∃ s, σ[i]? = some s ∧ SlotOk K B s g
  | [], [], _, _, _, e => by simp at e
  | s :: _, g :: _, 0, _, h, e => by
    simp at e
    subst e
    exact ⟨s, rfl, h.1⟩
  | _ :: _, _ :: _, i + 1, _, h, e => by
    simp at e
    obtain ⟨s, hs, ho⟩ := Slots.get h.2 e
    exact ⟨s, by simpa using hs, ho⟩
  | [], _ :: _, _, _, h, _ => h.elim
  | _ :: _, [], _, _, h, _ => h.elim
theorem Slots.set : ∀ {σ : L2.St} {G : List SD} (i : Nat) {s : Option V} {g : SD}, Slots K B σ G → SlotOk K B s g → Slots K B (σ.set i s) (G.set i g)
  | [], [], _, _, _, _, _ => trivial
  | _ :: _, _ :: _, 0, _, _, h, q => ⟨q, h.2⟩
  | _ :: _, _ :: _, i + 1, _, _, h, q => ⟨h.1, Slots.set i h.2 q⟩
  | [], _ :: _, _, _, _, h, _ => h.elim
  | _ :: _, [], _, _, _, h, _ => h.elim
def wipeG (G : List SD) : List Nat → List SD
  | [] => G
  | v :: vs => (wipeG G vs).set v .un
theorem Slots.wipe {σ : L2.St} {G : List SD} (h : Slots K B σ G) : ∀ vs : List Nat, Slots K B (L2.wipe σ vs) (wipeG G vs)
  | [] => h
  | v :: vs => Slots.set v (Slots.wipe h vs) trivial
end

/-- where one stands -/
structure Sta (K : PySem.W.Frag) (B O : Hp) (G : List SD) (σ : L2.St) (H : Hp) : Prop where
  w : W B O H
  s : Slots K B σ G
theorem Sta.ex {K : PySem.W.Frag} {B B' O : Hp} {G : List SD} {σ : L2.St} {H H' : Hp} (s : Sta K B O G σ H) (e : Ex B B') (w : W B' O H') : Sta K B' O G σ H' := ⟨w, s.s.ex e⟩
theorem Sta.set {K : PySem.W.Frag} {B O : Hp} {G : List SD} {σ : L2.St} {H : Hp} (s : Sta K B O G σ H) (i : Nat) {v : V} {d : PyData} (h : Dt K B v d) : Sta K B O (G.set i (.dat d)) (σ.set i (some v)) H := ⟨s.w, s.s.set i ⟨v, rfl, h⟩⟩
theorem Sta.setV {K : PySem.W.Frag} {B O : Hp} {G : List SD} {σ : L2.St} {H : Hp} (s : Sta K B O G σ H) (i : Nat) {v : V} : Sta K B O (G.set i (.val v)) (σ.set i (some v)) H := ⟨s.w, s.s.set i rfl⟩

/-! ### what evaluates to what -/
section
variable (K : PySem.W.Frag) (B O : Hp) (G : List SD)
def EvD (te : TE) (d : PyData) : Prop := ∀ B1 O1 σ H, Ex B B1 → Ex O O1 → Sta K B1 O1 G σ H → ∀ Q : VK, (∀ v B' H', Ex B1 B' → W B' O1 H' → Dt K B' v d → Q v H') → te σ H Q
def EvV (te : TE) (v : V) : Prop := ∀ B1 O1 σ H, Ex B B1 → Ex O O1 → Sta K B1 O1 G σ H → ∀ Q : VK, (∀ B' H', Ex B1 B' → W B' O1 H' → Q v H') → te σ H Q
def EvT (tt : TT) (b : Bool) : Prop := ∀ B1 O1 σ H, Ex B B1 → Ex O O1 → Sta K B1 O1 G σ H → ∀ Q : Bool → Hp → Prop, (∀ B' H', Ex B1 B' → W B' O1 H' → Q b H') → tt σ H Q
def EvA (ta : TA) (ds : List PyData) : Prop := ∀ B1 O1 σ H, Ex B B1 → Ex O O1 → Sta K B1 O1 G σ H → ∀ Q : List V → Hp → Prop, (∀ vs B' H', Ex B1 B' → W B' O1 H' → DtAll K B' vs ds → Q vs H') → ta σ H Q
def EvO (to : TO) (o : Option Int) : Prop := ∀ B1 O1 σ H, Ex B B1 → Ex O O1 → Sta K B1 O1 G σ H → ∀ Q : Option Int → Hp → Prop, (∀ B' H', Ex B1 B' → W B' O1 H' → Q o H') → to σ H Q
/-- an operator on data -/
def RD (K : PySem.W.Frag) (r : R2) (x y z : PyData) : Prop := ∀ B1 O1 H v w, W B1 O1 H → Dt K B1 v x → Dt K B1 w y → ∀ Q : VK, (∀ u B' H', Ex B1 B' → W B' O1 H' → Dt K B' u z → Q u H') → r v w H Q
/-- a built-in on data -/
def RC (K : PySem.W.Frag) (r : List V → Hp → VK → Prop) (xs : List PyData) (z : PyData) : Prop := ∀ B1 O1 H vs, W B1 O1 H → DtAll K B1 vs xs → ∀ Q : VK, (∀ u B' H', Ex B1 B' → W B' O1 H' → Dt K B' u z → Q u H') → r vs H Q
end
section
variable {K : PySem.W.Frag} {B B' O : Hp} {G : List SD} {ta tb te tc : TE} {t u : TT} {r : R2} {d x y z : PyData}
theorem EvD.ex (h : EvD K B O G te d) (e : Ex B B') : EvD K B' O G te d := fun B1 O1 σ H e1 o s Q q => h B1 O1 σ H (e.trans e1) o s Q q
theorem EvT.ex {b : Bool} (h : EvT K B O G t b) (e : Ex B B') : EvT K B' O G t b := fun B1 O1 σ H e1 o s Q q => h B1 O1 σ H (e.trans e1) o s Q q
theorem ev_is (h : EvD K B O G te d) (e : d = x) : EvD K B O G te x := by
  rw [← e]
  exact h
theorem et_is {a b : Bool} (h : EvT K B O G t a) (e : a = b) : EvT K B O G t b := by
  rw [← e]
  exact h
theorem ev_var {i : Nat} (h : G[i]? = some (.dat d)) : EvD K B O G (tVar i) d := fun B1 O1 σ H _ o s Q q => by
  obtain ⟨sv, h1, v, rfl, h2⟩ := s.s.get h
  exact ⟨v, h1, q v B1 H (Ex.refl _) s.w h2⟩
theorem evV_var {i : Nat} {v : V} (h : G[i]? = some (.val v)) : EvV K B O G (tVar i) v := fun B1 O1 σ H _ o s Q q => by
  obtain ⟨sv, h1, h2⟩ := s.s.get h
  have h3 : sv = some v := h2
  subst h3
  exact ⟨v, h1, q B1 H (Ex.refl _) s.w⟩
theorem ev_c {v : V} (h : ∀ H : Hp, Dt K H v d) : EvD K B O G (tC v) d := fun B1 _ _ H _ _ s Q q => q v B1 H (Ex.refl _) s.w (h B1)
theorem ev_int {i : Int} : EvD K B O G (tC (.int i)) (.int i) := ev_c fun _ => .int i
theorem ev_bl {b : Bool} : EvD K B O G (tC (.bl b)) (.bool b) := ev_c fun _ => .bl b
theorem ev_str {x : Str} : EvD K B O G (tC (.str x)) (.str x) := ev_c fun _ => .str x
theorem ev_non : EvD K B O G (tC .non) .none := ev_c fun _ => .non
theorem ev_op (ha : EvD K B O G ta x) (hb : EvD K B O G tb y) (hr : RD K r x y z) : EvD K B O G (tOp r ta tb) z := fun B1 O1 σ H e o s Q q =>
  ha B1 O1 σ H e o s _ fun v B2 H2 e2 w2 d2 => hb B2 O1 σ H2 (e.trans e2) o (s.ex e2 w2) _ fun v' B3 H3 e3 w3 d3 =>
    hr B3 O1 H3 v v' w3 (dp_ex e3 _ _ d2) d3 Q fun u B4 H4 e4 w4 d4 => q u B4 H4 ((e2.trans e3).trans e4) w4 d4
theorem ea_nil : EvA K B O G tNil [] := fun B1 _ _ H _ _ s Q q => q [] B1 H (Ex.refl _) s.w .nil
theorem ea_cons {tr : TA} {ds : List PyData} (h : EvD K B O G ta d) (hr : EvA K B O G tr ds) : EvA K B O G (tCons ta tr) (d :: ds) := fun B1 O1 σ H e o s Q q =>
  h B1 O1 σ H e o s _ fun v B2 H2 e2 w2 d2 => hr B2 O1 σ H2 (e.trans e2) o (s.ex e2 w2) _ fun vs B3 H3 e3 w3 d3 => q (v :: vs) B3 H3 (e2.trans e3) w3 (.cons (dp_ex e3 _ _ d2) d3)
theorem sz_of {n : Nat} (h : n ≤ 100000) : n ≤ sizeLine := Nat.le_trans h (by decide)
theorem ev_tup {t : TA} {ds : List PyData} (h : EvA K B O G t ds) (hl : ds.length ≤ 100000) : EvD K B O G (tTup t) (.tuple ds) := fun B1 O1 σ H e o s Q q =>
  h B1 O1 σ H e o s _ fun vs B2 H2 e2 w2 d2 => ⟨by rw [dps_len d2]; exact sz_of hl, fun p hp => q _ (upd B2 p (.tup vs)) _ (e2.trans (Ex.new (w2.fb hp))) (w2.newB hp) (.tup (.inl (.inl upd_same)) (dps_ex (Ex.new (w2.fb hp)) _ _ d2))⟩
theorem ev_lst {t : TA} {ds : List PyData} (h : EvA K B O G t ds) (hl : ds.length ≤ 100000) : EvD K B O G (tLst t) (.list ds) := fun B1 O1 σ H e o s Q q =>
  h B1 O1 σ H e o s _ fun vs B2 H2 e2 w2 d2 => ⟨by rw [dps_len d2]; exact sz_of hl, fun p hp => q _ (upd B2 p (.lst vs)) _ (e2.trans (Ex.new (w2.fb hp))) (w2.newB hp) (.lst upd_same (dps_ex (Ex.new (w2.fb hp)) _ _ d2))⟩
/-- *e within a display: e a tuple -/
theorem ea_star {t : TA} {es ds : List PyData} (h : EvD K B O G te (.tuple es)) (hr : EvA K B O G t ds) : EvA K B O G (tStar K te t) (es ++ ds) := fun B1 O1 σ H e o s Q q =>
  h B1 O1 σ H e o s _ fun v B2 H2 e2 w2 d2 => by
    obtain ⟨a, xs, rfl, h1, h2⟩ := dp_tup d2
    refine ⟨a, xs, rfl, .inl (st_ex w2.b h1), ?_⟩
    exact hr B2 O1 σ H2 (e.trans e2) o (s.ex e2 w2) _ fun vs B3 H3 e3 w3 d3 => q _ B3 H3 (e2.trans e3) w3 (dps_app (dps_ex e3 _ _ h2) d3)
/-! tests -/
theorem et_test {b : Bool} (h : EvD K B O G te (.bool b)) : EvT K B O G (tTest te) b := fun B1 O1 σ H e o s Q q => h B1 O1 σ H e o s _ fun v B2 H2 e2 w2 d2 => ⟨b, dp_bool d2, q B2 H2 e2 w2⟩
theorem et_B {b : Bool} (h : EvD K B O G te (.bool b)) : EvT K B O G (tB te) b := fun B1 O1 σ H e o s Q q => h B1 O1 σ H e o s _ fun v B2 H2 e2 w2 d2 => ⟨b, dp_bool d2, q B2 H2 e2 w2⟩
theorem et_yes : EvT K B O G tYes true := fun B1 O1 σ H _ o s Q q => q B1 H (Ex.refl _) s.w
theorem et_and {a b : Bool} (h1 : EvT K B O G t a) (h2 : a = true → EvT K B O G u b) : EvT K B O G (tAnd t u) (a && b) := fun B1 O1 σ H e o s Q q => h1 B1 O1 σ H e o s _ fun B2 H2 e2 w2 => by
  cases a with
  | true =>
    show u σ H2 Q
    exact h2 rfl B2 O1 σ H2 (e.trans e2) o (s.ex e2 w2) Q fun B3 H3 e3 w3 => q B3 H3 (e2.trans e3) w3
  | false =>
    show Q false H2
    exact q B2 H2 e2 w2
theorem et_or {a b : Bool} (h1 : EvT K B O G t a) (h2 : a = false → EvT K B O G u b) : EvT K B O G (tOr t u) (a || b) := fun B1 O1 σ H e o s Q q => h1 B1 O1 σ H e o s _ fun B2 H2 e2 w2 => by
  cases a with
  | true =>
    show Q true H2
    exact q B2 H2 e2 w2
  | false =>
    show u σ H2 Q
    exact h2 rfl B2 O1 σ H2 (e.trans e2) o (s.ex e2 w2) Q fun B3 H3 e3 w3 => q B3 H3 (e2.trans e3) w3
theorem et_not {a : Bool} (h1 : EvT K B O G t a) : EvT K B O G (tNot t) (!a) := fun B1 O1 σ H e o s Q q => h1 B1 O1 σ H e o s _ fun B2 H2 e2 w2 => q B2 H2 e2 w2
theorem ev_andV {a b : Bool} (h1 : EvD K B O G ta (.bool a)) (h2 : a = true → EvD K B O G tb (.bool b)) : EvD K B O G (tAndV ta tb) (.bool (a && b)) := fun B1 O1 σ H e o s Q q => h1 B1 O1 σ H e o s _ fun v B2 H2 e2 w2 d2 => ⟨a, dp_bool d2, by
  cases a with
  | true =>
    show tb σ H2 Q
    exact h2 rfl B2 O1 σ H2 (e.trans e2) o (s.ex e2 w2) Q fun v B3 H3 e3 w3 d3 => q v B3 H3 (e2.trans e3) w3 d3
  | false =>
    show Q (.bl false) H2
    exact q _ B2 H2 e2 w2 (.bl false)⟩
theorem ev_orV {a b : Bool} (h1 : EvD K B O G ta (.bool a)) (h2 : a = false → EvD K B O G tb (.bool b)) : EvD K B O G (tOrV ta tb) (.bool (a || b)) := fun B1 O1 σ H e o s Q q => h1 B1 O1 σ H e o s _ fun v B2 H2 e2 w2 d2 => ⟨a, dp_bool d2, by
  cases a with
  | true =>
    show Q (.bl true) H2
    exact q _ B2 H2 e2 w2 (.bl true)
  | false =>
    show tb σ H2 Q
    exact h2 rfl B2 O1 σ H2 (e.trans e2) o (s.ex e2 w2) Q fun v B3 H3 e3 w3 d3 => q v B3 H3 (e2.trans e3) w3 d3⟩
theorem ev_notV {a : Bool} (h1 : EvD K B O G ta (.bool a)) : EvD K B O G (tNotV ta) (.bool (!a)) := fun B1 O1 σ H e o s Q q => h1 B1 O1 σ H e o s _ fun v B2 H2 e2 w2 d2 => ⟨a, dp_bool d2, q _ B2 H2 e2 w2 (.bl _)⟩
theorem ev_if {b : Bool} (h : EvT K B O G t b) (h1 : b = true → EvD K B O G ta d) (h2 : b = false → EvD K B O G tb d) : EvD K B O G (tIf t ta tb) d := fun B1 O1 σ H e o s Q q => h B1 O1 σ H e o s _ fun B2 H2 e2 w2 => by
  cases b with
  | true =>
    show ta σ H2 Q
    exact h1 rfl B2 O1 σ H2 (e.trans e2) o (s.ex e2 w2) Q fun v B3 H3 e3 w3 d3 => q v B3 H3 (e2.trans e3) w3 d3
  | false =>
    show tb σ H2 Q
    exact h2 rfl B2 O1 σ H2 (e.trans e2) o (s.ex e2 w2) Q fun v B3 H3 e3 w3 d3 => q v B3 H3 (e2.trans e3) w3 d3
theorem ev_isN {b : Bool} (h : EvD K B O G ta d) (e : (match d with | .none => true | _ => false) = b) : EvD K B O G (tOp (fun x y H Q => y = .non ∧ Q (.bl (decide (x = .non))) H) ta (tC .non)) (.bool b) := fun B1 O1 σ H e1 o s Q q =>
  h B1 O1 σ H e1 o s _ fun v B2 H2 e2 w2 d2 => ⟨rfl, by
    have : decide (v = V.non) = b := by
      rw [← e]
      cases d2 <;> simp
    rw [this]
    exact q _ B2 H2 e2 w2 (.bl b)⟩
end
end DL

set_option Elab.async false
set_option linter.all false
set_option maxRecDepth 100000
set_option maxHeartbeats 2000000
namespace DL
open PySem L2 StX
/-! ### operators -/
section
variable {K : PySem.W.Frag} {B O : Hp} {i j : Int} {d e : PyData} {ds es : List PyData}
theorem rd_I0 {f : Int → Int → Int} : RD K (rI0 fun i j => .int (f i j)) (.int i) (.int j) (.int (f i j)) := fun B1 O1 H v w hw hv hx Q q => by
  rw [dp_int hv, dp_int hx]
  exact ⟨i, j, rfl, rfl, q _ B1 H (Ex.refl _) hw (.int _)⟩
theorem rd_B0 {f : Int → Int → Bool} : RD K (rI0 fun i j => .bl (f i j)) (.int i) (.int j) (.bool (f i j)) := fun B1 O1 H v w hw hv hx Q q => by
  rw [dp_int hv, dp_int hx]
  exact ⟨i, j, rfl, rfl, q _ B1 H (Ex.refl _) hw (.bl _)⟩
theorem rd_I {C : Int → Int → Prop} {f : Int → Int → Int} (hc : C i j) : RD K (rI C fun i j => .int (f i j)) (.int i) (.int j) (.int (f i j)) := fun B1 O1 H v w hw hv hx Q q => by
  rw [dp_int hv, dp_int hx]
  exact ⟨i, j, rfl, rfl, hc, q _ B1 H (Ex.refl _) hw (.int _)⟩
theorem atI_get {ds : List PyData} {vs : List V} {i : Int} {d : PyData} {B : Hp} (h : DtAll K B vs ds) (e : atI ds i = some d) : ∃ v, atI vs i = some v ∧ Dt K B v d := by
  unfold atI at e ⊢
  rw [dps_len h]
  cases hj : ixN ds.length i with
  | none => rw [hj] at e; cases e
  | some j =>
    rw [hj] at e
    exact dps_get h e
theorem rd_ixT (h : atI ds i = some d) : RD K (rIxT K) (.tuple ds) (.int i) d := fun B1 O1 H v w hw hv hx Q q => by
  obtain ⟨a, xs, rfl, h1, h2⟩ := dp_tup hv
  obtain ⟨v', h3, h4⟩ := atI_get h2 h
  rw [dp_int hx]
  exact ⟨a, xs, i, v', rfl, rfl, st_ex hw.b h1, h3, q _ B1 H (Ex.refl _) hw h4⟩
theorem rd_ixL (h : atI ds i = some d) : RD K (rIxL K) (.list ds) (.int i) d := fun B1 O1 H v w hw hv hx Q q => by
  obtain ⟨a, xs, rfl, h1, h2⟩ := dp_lst hv
  obtain ⟨v', h3, h4⟩ := atI_get h2 h
  rw [dp_int hx]
  exact ⟨a, xs, i, v', rfl, rfl, .inl (.inl (hw.b _ _ h1)), h3, q _ B1 H (Ex.refl _) hw h4⟩
theorem rd_eq {b : Bool} (hd : SeqAt.shaped d = true) (he : SeqAt.shaped e = true) (h : PyData.eqv d e = b) : RD K (rEqD K) d e (.bool b) := fun B1 O1 H v w hw hv hx Q q =>
  ⟨d, e, dt_dp _ _ (dp_ex hw.b _ _ hv), dt_dp _ _ (dp_ex hw.b _ _ hx), hd, he, by rw [h]; exact q _ B1 H (Ex.refl _) hw (.bl _)⟩
theorem rd_ne {b : Bool} (hd : SeqAt.shaped d = true) (he : SeqAt.shaped e = true) (h : (!PyData.eqv d e) = b) : RD K (rNeD K) d e (.bool b) := fun B1 O1 H v w hw hv hx Q q =>
  ⟨d, e, dt_dp _ _ (dp_ex hw.b _ _ hv), dt_dp _ _ (dp_ex hw.b _ _ hx), hd, he, by rw [h]; exact q _ B1 H (Ex.refl _) hw (.bl _)⟩
theorem rd_inT {neg : Bool} (hd : flatD d = true) (hs : es.all flatD = true) {b : Bool} (h : (if neg then !inV (fv d) (es.map fv) else inV (fv d) (es.map fv)) = b) : RD K (rIn K neg) d (.tuple es) (.bool b) := fun B1 O1 H v w hw hv hx Q q => by
  obtain ⟨a, xs, rfl, h1, h2⟩ := dp_tup hx
  obtain ⟨e1, f1⟩ := fv_of hv hd
  obtain ⟨e2, f2⟩ := fvs_of h2 hs
  refine ⟨a, xs, rfl, .inr (st_ex hw.b h1), f1, f2, ?_⟩
  rw [e1, e2, h]
  exact q _ B1 H (Ex.refl _) hw (.bl _)
theorem rd_inL {neg : Bool} (hd : flatD d = true) (hs : es.all flatD = true) {b : Bool} (h : (if neg then !inV (fv d) (es.map fv) else inV (fv d) (es.map fv)) = b) : RD K (rIn K neg) d (.list es) (.bool b) := fun B1 O1 H v w hw hv hx Q q => by
  obtain ⟨a, xs, rfl, h1, h2⟩ := dp_lst hx
  obtain ⟨e1, f1⟩ := fv_of hv hd
  obtain ⟨e2, f2⟩ := fvs_of h2 hs
  refine ⟨a, xs, rfl, .inl (.inl (.inl (hw.b _ _ h1))), f1, f2, ?_⟩
  rw [e1, e2, h]
  exact q _ B1 H (Ex.refl _) hw (.bl _)
theorem dt_tup {B1 B' : Hp} {a : Addr} {xs : List V} (e : Ex B1 B') (h1 : SqT K B1 a xs) (h2 : DtAll K B1 xs ds) : Dt K B' (.ref a) (.tuple ds) := .tup (st_ex e h1) (dps_ex e _ _ h2)
theorem rd_catT (hl : ds.length + es.length ≤ 100000) : RD K (rCatA K) (.tuple ds) (.tuple es) (.tuple (ds ++ es)) := fun B1 O1 H v w hw hv hx Q q => by
  obtain ⟨a, xs, rfl, h1, h2⟩ := dp_tup hv
  obtain ⟨b, ys, rfl, h3, h4⟩ := dp_tup hx
  have l1 := dps_len h2
  have l2 := dps_len h4
  refine ⟨a, b, xs, ys, rfl, rfl, st_ex hw.b h1, st_ex hw.b h3, sz_of (by omega), fun e => ?_, fun _ e => ?_, fun _ _ p hp => ?_⟩
  · subst e
    have : ds = [] := List.length_eq_zero_iff.mp (by rw [← l1]; rfl)
    subst this
    exact q _ B1 H (Ex.refl _) hw (.tup h3 h4)
  · subst e
    have : es = [] := List.length_eq_zero_iff.mp (by rw [← l2]; rfl)
    subst this
    rw [List.append_nil] at q
    exact q _ B1 H (Ex.refl _) hw (.tup h1 h2)
  · exact q _ (upd B1 p _) _ (Ex.new (hw.fb hp)) (hw.newB hp) (.tup (.inl (.inl upd_same)) (dps_ex (Ex.new (hw.fb hp)) _ _ (dps_app h2 h4)))
theorem rd_cat (hl : ds.length + es.length ≤ 100000) : RD K rCat (.list ds) (.list es) (.list (ds ++ es)) := fun B1 O1 H v w hw hv hx Q q => by
  obtain ⟨a, xs, rfl, h1, h2⟩ := dp_lst hv
  obtain ⟨b, ys, rfl, h3, h4⟩ := dp_lst hx
  have l1 := dps_len h2
  have l2 := dps_len h4
  refine ⟨a, b, xs, ys, rfl, rfl, hw.b _ _ h1, hw.b _ _ h3, sz_of (by omega), fun p hp => ?_⟩
  exact q _ (upd B1 p _) _ (Ex.new (hw.fb hp)) (hw.newB hp) (.lst upd_same (dps_ex (Ex.new (hw.fb hp)) _ _ (dps_app h2 h4)))
theorem list_rep {α : Type} {xs : List α} : ∀ n, (List.replicate n xs).flatten.length = xs.length * n := fun n => by
  simp [Nat.mul_comm]
end
section
variable {K : PySem.W.Frag} {B O : Hp} {G : List SD} {ta tb te : TE} {d e : PyData} {ds es : List PyData} {i j : Int}
theorem ev_un {f : Int → Int} (ha : EvD K B O G ta (.int i)) : EvD K B O G (tUn (rU fun i => .int (f i)) ta) (.int (f i)) := fun B1 O1 σ H e1 o s Q q =>
  ha B1 O1 σ H e1 o s _ fun v B2 H2 e2 w2 d2 => ⟨i, dp_int d2, q _ B2 H2 e2 w2 (.int _)⟩
theorem ev_cb {r : List V → Hp → VK → Prop} {t : TA} {xs : List PyData} (h : EvA K B O G t xs) (hr : RC K r xs d) : EvD K B O G (tCB r t) d := fun B1 O1 σ H e1 o s Q q =>
  h B1 O1 σ H e1 o s _ fun vs B2 H2 e2 w2 d2 => hr B2 O1 H2 vs w2 d2 Q fun u B3 H3 e3 w3 d3 => q u B3 H3 (e2.trans e3) w3 d3
/-! slices -/
theorem eo_none : EvO K B O G tNoPart none := fun B1 O1 σ H _ _ s Q q => q B1 H (Ex.refl _) s.w
theorem eo_some (h : EvD K B O G te (.int i)) : EvO K B O G (tPart te) (some i) := fun B1 O1 σ H e1 o s Q q => h B1 O1 σ H e1 o s _ fun v B2 H2 e2 w2 d2 => ⟨i, dp_int d2, q B2 H2 e2 w2⟩
def cutX (xs : List PyData) (lo hi : Option Int) : List PyData := (xs.drop (HT.sIx xs.length 0 lo)).take (HT.sIx xs.length xs.length hi - HT.sIx xs.length 0 lo)
theorem cut_dps {lo hi : Option Int} {vs : List V} (h : DtAll K B vs ds) : DtAll K B (cutV vs lo hi) (cutX ds lo hi) := by
  unfold cutV cutX
  rw [dps_len h]
  exact dps_take _ (dps_drop _ h)
theorem cut_whole {lo hi : Option Int} {vs : List V} (h : HT.sIx vs.length 0 lo = 0 ∧ HT.sIx vs.length vs.length hi = vs.length) : cutV vs lo hi = vs := by
  unfold cutV
  rw [h.1, h.2]
  simp
theorem ev_slT {to tp : TO} {lo hi : Option Int} (h : EvD K B O G te (.tuple ds)) (h1 : EvO K B O G to lo) (h2 : EvO K B O G tp hi) : EvD K B O G (tSl (rSlA K) te to tp) (.tuple (cutX ds lo hi)) := fun B1 O1 σ H e1 o s Q q =>
  h B1 O1 σ H e1 o s _ fun v B2 H2 e2 w2 d2 => h1 B2 O1 σ H2 (e1.trans e2) o (s.ex e2 w2) _ fun B3 H3 e3 w3 => h2 B3 O1 σ H3 ((e1.trans e2).trans e3) o (s.ex (e2.trans e3) w3) _ fun B4 H4 e4 w4 => by
    obtain ⟨a, xs, rfl, k1, k2⟩ := dp_tup d2
    have k1' := st_ex (e3.trans e4) k1
    have k2' := dps_ex (e3.trans e4) _ _ k2
    refine ⟨a, xs, rfl, st_ex w4.b k1', fun hw => ?_, fun _ p hp => ?_⟩
    · have k3 := cut_dps (lo := lo) (hi := hi) k2'
      rw [cut_whole hw] at k3
      exact q _ B4 H4 ((e2.trans e3).trans e4) w4 (.tup k1' k3)
    · exact q _ (upd B4 p _) _ (((e2.trans e3).trans e4).trans (Ex.new (w4.fb hp))) (w4.newB hp) (.tup (.inl (.inl upd_same)) (dps_ex (Ex.new (w4.fb hp)) _ _ (cut_dps k2')))
theorem ev_slL {to tp : TO} {lo hi : Option Int} (h : EvD K B O G te (.list ds)) (h1 : EvO K B O G to lo) (h2 : EvO K B O G tp hi) : EvD K B O G (tSl (rSlL K) te to tp) (.list (cutX ds lo hi)) := fun B1 O1 σ H e1 o s Q q =>
  h B1 O1 σ H e1 o s _ fun v B2 H2 e2 w2 d2 => h1 B2 O1 σ H2 (e1.trans e2) o (s.ex e2 w2) _ fun B3 H3 e3 w3 => h2 B3 O1 σ H3 ((e1.trans e2).trans e3) o (s.ex (e2.trans e3) w3) _ fun B4 H4 e4 w4 => by
    obtain ⟨a, xs, rfl, k1, k2⟩ := dp_lst d2
    have k1' := (e3.trans e4) _ _ k1
    have k2' := dps_ex (e3.trans e4) _ _ k2
    exact ⟨a, xs, rfl, .inl (.inl (w4.b _ _ k1')), fun p hp => q _ (upd B4 p _) _ (((e2.trans e3).trans e4).trans (Ex.new (w4.fb hp))) (w4.newB hp) (.lst upd_same (dps_ex (Ex.new (w4.fb hp)) _ _ (cut_dps k2')))⟩
end
/-! ### built-ins -/
section
variable {K : PySem.W.Frag} {ds : List PyData}
theorem rc_lenL : RC K (fun xs H Q => ∃ p ys, xs = [.ref p] ∧ (SqL K H p ys ∨ SqT K H p ys) ∧ Q (.int ys.length) H) [.list ds] (.int ds.length) := fun B1 O1 H vs w h Q q => by
  cases h with
  | cons h1 h2 =>
    cases h2
    obtain ⟨a, xs, rfl, k1, k2⟩ := dp_lst h1
    refine ⟨a, xs, rfl, .inl (.inl (.inl (w.b _ _ k1))), ?_⟩
    rw [dps_len k2]
    exact q _ B1 H (Ex.refl _) w (.int _)
theorem rc_lenT : RC K (fun xs H Q => ∃ p ys, xs = [.ref p] ∧ (SqL K H p ys ∨ SqT K H p ys) ∧ Q (.int ys.length) H) [.tuple ds] (.int ds.length) := fun B1 O1 H vs w h Q q => by
  cases h with
  | cons h1 h2 =>
    cases h2
    obtain ⟨a, xs, rfl, k1, k2⟩ := dp_tup h1
    refine ⟨a, xs, rfl, .inr (st_ex w.b k1), ?_⟩
    rw [dps_len k2]
    exact q _ B1 H (Ex.refl _) w (.int _)
theorem rc_listT : RC K (fun xs H Q => ∃ p ys, xs = [.ref p] ∧ (SqL K H p ys ∨ SqT K H p ys) ∧ ∀ l, H l = none → Q (.ref l) (upd H l (.lst ys))) [.tuple ds] (.list ds) := fun B1 O1 H vs w h Q q => by
  cases h with
  | cons h1 h2 =>
    cases h2
    obtain ⟨a, xs, rfl, k1, k2⟩ := dp_tup h1
    exact ⟨a, xs, rfl, .inr (st_ex w.b k1), fun l hl => q _ (upd B1 l _) _ (Ex.new (w.fb hl)) (w.newB hl) (.lst upd_same (dps_ex (Ex.new (w.fb hl)) _ _ k2))⟩
theorem rc_listL : RC K (fun xs H Q => ∃ p ys, xs = [.ref p] ∧ (SqL K H p ys ∨ SqT K H p ys) ∧ ∀ l, H l = none → Q (.ref l) (upd H l (.lst ys))) [.list ds] (.list ds) := fun B1 O1 H vs w h Q q => by
  cases h with
  | cons h1 h2 =>
    cases h2
    obtain ⟨a, xs, rfl, k1, k2⟩ := dp_lst h1
    exact ⟨a, xs, rfl, .inl (.inl (.inl (w.b _ _ k1))), fun l hl => q _ (upd B1 l _) _ (Ex.new (w.fb hl)) (w.newB hl) (.lst upd_same (dps_ex (Ex.new (w.fb hl)) _ _ k2))⟩
theorem rc_tupL : RC K (fun xs H Q => ∃ p ys, xs = [.ref p] ∧ ((SqL K H p ys ∧ ∀ l, H l = none → Q (.ref l) (upd H l (.tup ys))) ∨ (SqT K H p ys ∧ Q (.ref p) H))) [.list ds] (.tuple ds) := fun B1 O1 H vs w h Q q => by
  cases h with
  | cons h1 h2 =>
    cases h2
    obtain ⟨a, xs, rfl, k1, k2⟩ := dp_lst h1
    exact ⟨a, xs, rfl, .inl ⟨.inl (.inl (w.b _ _ k1)), fun l hl => q _ (upd B1 l _) _ (Ex.new (w.fb hl)) (w.newB hl) (.tup (.inl (.inl upd_same)) (dps_ex (Ex.new (w.fb hl)) _ _ k2))⟩⟩
theorem rc_tupT : RC K (fun xs H Q => ∃ p ys, xs = [.ref p] ∧ ((SqL K H p ys ∧ ∀ l, H l = none → Q (.ref l) (upd H l (.tup ys))) ∨ (SqT K H p ys ∧ Q (.ref p) H))) [.tuple ds] (.tuple ds) := fun B1 O1 H vs w h Q q => by
  cases h with
  | cons h1 h2 =>
    cases h2
    obtain ⟨a, xs, rfl, k1, k2⟩ := dp_tup h1
    exact ⟨a, xs, rfl, .inr ⟨st_ex w.b k1, q _ B1 H (Ex.refl _) w (.tup k1 k2)⟩⟩
theorem rc_sum {ns : List Int} : RC K (rSum K) [.list (ns.map .int)] (.int ns.sum) := fun B1 O1 H vs w h Q q => by
  cases h with
  | cons h1 h2 =>
    cases h2
    obtain ⟨a, xs, rfl, k1, k2⟩ := dp_lst h1
    have e := dps_ints k2
    subst e
    exact ⟨a, ns, rfl, .inl (.inl (w.b _ _ k1)), q _ B1 H (Ex.refl _) w (.int _)⟩
theorem rc_all {bs : List Bool} : RC K (rAll K) [.list (bs.map .bool)] (.bool (bs.all id)) := fun B1 O1 H vs w h Q q => by
  cases h with
  | cons h1 h2 =>
    cases h2
    obtain ⟨a, xs, rfl, k1, k2⟩ := dp_lst h1
    have e := dps_bools k2
    subst e
    exact ⟨a, bs, rfl, .inl (.inl (w.b _ _ k1)), q _ B1 H (Ex.refl _) w (.bl _)⟩
theorem rc_any {bs : List Bool} : RC K (rAny K) [.list (bs.map .bool)] (.bool (bs.any id)) := fun B1 O1 H vs w h Q q => by
  cases h with
  | cons h1 h2 =>
    cases h2
    obtain ⟨a, xs, rfl, k1, k2⟩ := dp_lst h1
    have e := dps_bools k2
    subst e
    exact ⟨a, bs, rfl, .inl (.inl (w.b _ _ k1)), q _ B1 H (Ex.refl _) w (.bl _)⟩
theorem rc_intI {i : Int} : RC K (fun xs H Q => (∃ i, xs = [.int i] ∧ Q (.int i) H) ∨ ∃ k, xs = [.bl k] ∧ Q (.int (if k then 1 else 0)) H) [.int i] (.int i) := fun B1 O1 H vs w h Q q => by
  cases h with
  | cons h1 h2 =>
    cases h2
    exact .inl ⟨i, by rw [dp_int h1], q _ B1 H (Ex.refl _) w (.int _)⟩
theorem rc_intB {k : Bool} : RC K (fun xs H Q => (∃ i, xs = [.int i] ∧ Q (.int i) H) ∨ ∃ k, xs = [.bl k] ∧ Q (.int (if k then 1 else 0)) H) [.bool k] (.int (if k then 1 else 0)) := fun B1 O1 H vs w h Q q => by
  cases h with
  | cons h1 h2 =>
    cases h2
    exact .inr ⟨k, by rw [dp_bool h1], q _ B1 H (Ex.refl _) w (.int _)⟩
theorem rc_abs {i : Int} : RC K (fun xs H Q => ∃ i, xs = [.int i] ∧ Q (.int (if i < 0 then -i else i)) H) [.int i] (.int (if i < 0 then -i else i)) := fun B1 O1 H vs w h Q q => by
  cases h with
  | cons h1 h2 =>
    cases h2
    exact ⟨i, by rw [dp_int h1], q _ B1 H (Ex.refl _) w (.int _)⟩
theorem rc_max2 {i j : Int} : RC K (fun xs H Q => ∃ i j, xs = [.int i, .int j] ∧ Q (.int (if j > i then j else i)) H) [.int i, .int j] (.int (if j > i then j else i)) := fun B1 O1 H vs w h Q q => by
  cases h with
  | cons h1 h2 =>
    cases h2 with
    | cons h3 h4 =>
      cases h4
      exact ⟨i, j, by rw [dp_int h1, dp_int h3], q _ B1 H (Ex.refl _) w (.int _)⟩
theorem rc_min2 {i j : Int} : RC K (fun xs H Q => ∃ i j, xs = [.int i, .int j] ∧ Q (.int (if j < i then j else i)) H) [.int i, .int j] (.int (if j < i then j else i)) := fun B1 O1 H vs w h Q q => by
  cases h with
  | cons h1 h2 =>
    cases h2 with
    | cons h3 h4 =>
      cases h4
      exact ⟨i, j, by rw [dp_int h1, dp_int h3], q _ B1 H (Ex.refl _) w (.int _)⟩
end

/-! ### what is walked -/
section
variable (K : PySem.W.Frag) (B O : Hp) (G : List SD)
/-- the walk gives the data es in order -/
structure Gives (J : It) (es : List PyData) (B' : Hp) : Prop where
  walk : ∃ (n : Nat) (G0 : Hp → Prop) (Y : Nat → Hp → V → Hp → Prop), n = es.length ∧ Walk J n G0 Y ∧ (∀ B2 O2 H2, Ex B' B2 → W B2 O2 H2 → G0 H2) ∧
    ∀ i H2 x H3 B2 O2, Ex B' B2 → W B2 O2 H2 → i < n → Y i H2 x H3 → ∃ e B3, es[i]? = some e ∧ Ex B2 B3 ∧ W B3 O2 H3 ∧ Dt K B3 x e
def EvI (wi : TI) (es : List PyData) : Prop := ∀ B1 O1 σ H, Ex B B1 → Ex O O1 → Sta K B1 O1 G σ H → ∀ R : It → Hp → Prop, (∀ J B' H', Ex B1 B' → W B' O1 H' → Gives K J es B' → R J H') → wi σ H R
end
section
variable {K : PySem.W.Frag} {B O : Hp} {G : List SD} {te : TE} {ta : TA} {es ds : List PyData}
theorem ei_list (h : EvD K B O G te (.list es)) : EvI K B O G (iList K te) es := fun B1 O1 σ H e1 o s R r => h B1 O1 σ H e1 o s _ fun v B2 H2 e2 w2 d2 => by
  obtain ⟨a, xs, rfl, k1, k2⟩ := dp_lst d2
  refine ⟨a, rfl, ⟨xs, .inl (.inl (w2.b _ _ k1))⟩, r _ B2 H2 e2 w2 ⟨xs.length, _, _, dps_len k2, walk_list (xs := xs), fun B3 O3 H3 e3 w3 => .inl (.inl (w3.b _ _ (e3 _ _ k1))), fun i H3 x H4 B3 O3 e3 w3 hi y => ?_⟩⟩
  obtain ⟨rfl, hx⟩ := y
  obtain ⟨e, he, hd⟩ := dps_getV k2 hx
  exact ⟨e, B3, he, Ex.refl _, w3, dp_ex e3 _ _ hd⟩
theorem ei_tup (h : EvD K B O G te (.tuple es)) : EvI K B O G (iTup K te) es := fun B1 O1 σ H e1 o s R r => h B1 O1 σ H e1 o s _ fun v B2 H2 e2 w2 d2 => by
  obtain ⟨a, xs, rfl, k1, k2⟩ := dp_tup d2
  refine ⟨a, rfl, ⟨xs, st_ex w2.b k1⟩, r _ B2 H2 e2 w2 ⟨xs.length, _, _, dps_len k2, walk_tup (xs := xs), fun B3 O3 H3 e3 w3 => st_ex (e3.trans w3.b) k1, fun i H3 x H4 B3 O3 e3 w3 hi y => ?_⟩⟩
  obtain ⟨rfl, hx⟩ := y
  obtain ⟨e, he, hd⟩ := dps_getV k2 hx
  exact ⟨e, B3, he, Ex.refl _, w3, dp_ex e3 _ _ hd⟩
def rangeD (lo : Int) (n : Nat) : List PyData := (List.range n).map fun (i : Nat) => .int (lo + i)
theorem rangeD_get {lo : Int} {n i : Nat} (h : i < n) : (rangeD lo n)[i]? = some (.int (lo + i)) := by
  unfold rangeD
  rw [List.getElem?_map, List.getElem?_range h]
  rfl
theorem rangeD_len {lo : Int} {n : Nat} : (rangeD lo n).length = n := by
  unfold rangeD
  rw [List.length_map, List.length_range]
theorem ei_range1 {j : Int} (h : EvA K B O G ta [.int j]) (hj : -1000000 ≤ j ∧ j ≤ 1000000) : EvI K B O G (iRng1 ta) (rangeD 0 j.toNat) := fun B1 O1 σ H e1 o s R r => h B1 O1 σ H e1 o s _ fun vs B2 H2 e2 w2 d2 => by
  have e := dps_ints (ns := [j]) d2
  refine ⟨j, e, by omega, by omega, r _ B2 H2 e2 w2 ⟨j.toNat, _, _, rangeD_len.symm, walk_range, fun _ _ _ _ _ => trivial, fun i H3 x H4 B3 O3 e3 w3 hi y => ?_⟩⟩
  obtain ⟨rfl, rfl⟩ := y
  exact ⟨_, B3, rangeD_get hi, Ex.refl _, w3, .int _⟩
theorem ei_range2 {i j : Int} (h : EvA K B O G ta [.int i, .int j]) (hi : -1000000 ≤ i ∧ i ≤ 1000000) (hj : -1000000 ≤ j ∧ j ≤ 1000000) : EvI K B O G (iRng2 ta) (rangeD i (j - i).toNat) := fun B1 O1 σ H e1 o s R r => h B1 O1 σ H e1 o s _ fun vs B2 H2 e2 w2 d2 => by
  have e := dps_ints (ns := [i, j]) d2
  refine ⟨i, j, e, by omega, r _ B2 H2 e2 w2 ⟨(j - i).toNat, _, _, rangeD_len.symm, walk_range, fun _ _ _ _ _ => trivial, fun k H3 x H4 B3 O3 e3 w3 hi y => ?_⟩⟩
  obtain ⟨rfl, rfl⟩ := y
  exact ⟨_, B3, rangeD_get hi, Ex.refl _, w3, .int _⟩
def enumD (es : List PyData) : List PyData := (List.range es.length).map fun (i : Nat) => .tuple [.int i, es.getD i .none]
theorem enumD_len : (enumD es).length = es.length := by
  unfold enumD
  rw [List.length_map, List.length_range]
theorem enumD_get {i : Nat} {e : PyData} (h : es[i]? = some e) : (enumD es)[i]? = some (.tuple [.int i, e]) := by
  have hi : i < es.length := (List.getElem?_eq_some_iff.mp h).1
  unfold enumD
  rw [List.getElem?_map, List.getElem?_range hi]
  have : es.getD i PyData.none = e := by rw [List.getD_eq_getElem?_getD, h]; rfl
  simp [this, h]
theorem pair_new {B2 O2 H2 : Hp} {T : Addr} {x y : V} {d e : PyData} (w : W B2 O2 H2) (hT : H2 T = none) (hx : Dt K B2 x d) (hy : Dt K B2 y e) :
    Ex B2 (upd B2 T (.tup [x, y])) ∧ W (upd B2 T (.tup [x, y])) O2 (upd H2 T (.tup [x, y])) ∧ Dt K (upd B2 T (.tup [x, y])) (.ref T) (.tuple [d, e]) :=
  ⟨Ex.new (w.fb hT), w.newB hT, .tup (.inl (.inl upd_same)) (dps_ex (Ex.new (w.fb hT)) _ _ (.cons hx (.cons hy .nil)))⟩
theorem ei_enum (h : EvA K B O G ta [.list es]) : EvI K B O G (iEnum K ta) (enumD es) := fun B1 O1 σ H e1 o s R r => h B1 O1 σ H e1 o s _ fun vs B2 H2 e2 w2 d2 => by
  cases d2 with
  | cons d3 d4 =>
    cases d4
    obtain ⟨a, xs, rfl, k1, k2⟩ := dp_lst d3
    refine ⟨a, xs, rfl, .inl (.inl (w2.b _ _ k1)), r _ B2 H2 e2 w2 ⟨xs.length, _, _, by rw [enumD_len]; exact dps_len k2, walk_enum (xs := xs), fun B3 O3 H3 e3 w3 => .inl (.inl (w3.b _ _ (e3 _ _ k1))), fun i H3 x H4 B3 O3 e3 w3 hi y => ?_⟩⟩
    obtain ⟨T, x', y', rfl, hT, rfl, hx, hy⟩ := y
    cases hx
    obtain ⟨e, he, hd⟩ := dps_getV k2 hy
    obtain ⟨q1, q2, q3⟩ := pair_new w3 hT (.int (i : Nat)) (dp_ex e3 _ _ hd)
    exact ⟨_, _, enumD_get he, q1, q2, q3⟩
end
/-! ### targets -/
/-- the target takes the data e: G becomes G' -/
def EvG (K : PySem.W.Frag) (R : L2.St → L2.St → Prop) (g : TG) (G : List SD) (e : PyData) (G' : List SD) : Prop :=
  ∀ B1 O1 σ H v, Sta K B1 O1 G σ H → Dt K B1 v e → ∀ Q : L2.St → Hp → Prop, (∀ σ', Sta K B1 O1 G' σ' H → R σ σ' → Q σ' H) → g v σ H Q
theorem wipe_get (σ : L2.St) (i : Nat) : ∀ vs : List Nat, (L2.wipe σ vs)[i]? = if i ∈ vs then (if i < σ.length then some none else none) else σ[i]?
  | [] => by simp [L2.wipe]
  | v :: vs => by
    unfold L2.wipe
    rw [List.getElem?_set]
    by_cases h : v = i
    · subst h
      simp [wipe_length]
    · rw [if_neg h, wipe_get σ i vs]
      have h' : ¬ i = v := fun e => h e.symm
      simp [h']
theorem wipe_set {σ : L2.St} {j : Nat} {x : Option V} {vs : List Nat} (h : j ∈ vs) : L2.wipe (σ.set j x) vs = L2.wipe σ vs := by
  apply List.ext_getElem?
  intro i
  rw [wipe_get, wipe_get, List.length_set]
  by_cases hi : i ∈ vs
  · simp [hi]
  · rw [if_neg hi, if_neg hi, List.getElem?_set_ne (by rintro rfl; exact hi h)]
theorem wipe_wipe {σ : L2.St} {vs : List Nat} : L2.wipe (L2.wipe σ vs) vs = L2.wipe σ vs := by
  apply List.ext_getElem?
  intro i
  rw [wipe_get, wipe_get, wipe_length]
  by_cases hi : i ∈ vs <;> simp [hi]
section
variable {K : PySem.W.Frag} {G : List SD} {e a b : PyData} {j k : Nat} {vs : List Nat} {n : Nat}
abbrev RW (vs : List Nat) : L2.St → L2.St → Prop := fun σ σ' => L2.wipe σ' vs = L2.wipe σ vs
abbrev RT : L2.St → L2.St → Prop := fun _ _ => True
theorem eg_name : EvG K RT (gName j) G e (G.set j (.dat e)) := fun B1 O1 σ H v s d Q q => q _ (s.set j d) trivial
theorem eg_nameW (h : j ∈ vs) : EvG K (RW vs) (gName j) G e (G.set j (.dat e)) := fun B1 O1 σ H v s d Q q => q _ (s.set j d) (wipe_set h)
theorem eg_pair : EvG K RT (gTup K 2 (gCons (gName j) (gCons (gName k) gNil))) G (.tuple [a, b]) ((G.set j (.dat a)).set k (.dat b)) := fun B1 O1 σ H v s d Q q => by
  obtain ⟨p, xs, rfl, h1, h2⟩ := dp_tup d
  have hl := dps_len h2
  cases h2 with
  | cons h3 h4 =>
    cases h4 with
    | cons h5 h6 =>
      cases h6
      refine ⟨p, _, rfl, st_ex s.w.b h1, rfl, _, _, rfl, _, _, rfl, rfl, q _ ((s.set j h3).set k h5) trivial⟩
theorem eg_pairW (hj : j ∈ vs) (hk : k ∈ vs) : EvG K (RW vs) (gTup K 2 (gCons (gName j) (gCons (gName k) gNil))) G (.tuple [a, b]) ((G.set j (.dat a)).set k (.dat b)) := fun B1 O1 σ H v s d Q q => by
  obtain ⟨p, xs, rfl, h1, h2⟩ := dp_tup d
  cases h2 with
  | cons h3 h4 =>
    cases h4 with
    | cons h5 h6 =>
      cases h6
      refine ⟨p, _, rfl, st_ex s.w.b h1, rfl, _, _, rfl, _, _, rfl, rfl, q _ ((s.set j h3).set k h5) ?_⟩
      show L2.wipe ((σ.set j _).set k _) vs = _
      rw [wipe_set hk, wipe_set hj]
end
/-! ### comprehensions -/
section
variable {K : PySem.W.Frag} {B O : Hp} {G : List SD} {wi : TI} {g : TG} {tt : TT} {te : TE} {vs : List Nat} {es : List PyData}
theorem ev_lc (f : PyData → Bool) (v : PyData → PyData) (Gi : PyData → List SD) (hI : EvI K B O G wi es) (hz : es.length ≤ 100000)
    (hg : ∀ e, e ∈ es → EvG K (RW vs) g (wipeG G vs) e (Gi e)) (ht : ∀ e, e ∈ es → EvT K B O (Gi e) tt (f e)) (he : ∀ e, e ∈ es → f e = true → EvD K B O (Gi e) te (v e)) :
    EvD K B O G (tLc wi g tt te vs) (.list ((es.filter f).map v)) := fun B1 O1 σ H e1 o s Q q => by
  refine hI B1 O1 σ H e1 o s _ fun J B2 H2 e2 w2 gv D hD => ?_
  obtain ⟨n, G0, Y, hn, wk, hG0, hY⟩ := gv
  have oD : O1 D = none := w2.fo hD
  refine lc_it wk (fun i H' => ∃ B' acc, Ex B2 B' ∧ W B' (upd O1 D (.lst acc)) H' ∧ DtAll K B' acc (((es.take i).filter f).map v))
    ⟨B2, [], Ex.refl _, w2.newO hD, by simp; exact .nil⟩ (fun i H' _ ⟨B', acc, e', w', _⟩ => hG0 B' _ H' e' w') ?_ ?_
  · rintro i x H3 H4 hi ⟨B3, acc, e3, w3, da⟩ y
    obtain ⟨e, B4, hie, e4, w4, dx⟩ := hY i H3 x H4 B3 _ e3 w3 hi y
    have hm : e ∈ es := List.mem_of_getElem? hie
    have s4 : Sta K B4 (upd O1 D (.lst acc)) (wipeG G vs) (L2.wipe σ vs) H4 := ⟨w4, (s.s.ex ((e2.trans e3).trans e4)).wipe vs⟩
    have hOD : Ex O (upd O1 D (.lst acc)) := o.trans (Ex.new oD)
    refine hg e hm B4 _ _ H4 x s4 dx _ fun σ' s5 r5 => ⟨r5.trans wipe_wipe, ?_⟩
    have hlen : acc.length ≤ 100000 := by
      rw [dps_len da, List.length_map]
      have h1 := List.length_filter_le f (es.take i)
      have h2 : (es.take i).length ≤ es.length := List.length_take_le' i es
      omega
    refine ht e hm B4 _ σ' H4 (e1.trans ((e2.trans e3).trans e4)) hOD s5 _ fun B5 H5 e5 w5 => ?_
    have htk : es.take (i + 1) = es.take i ++ [e] := by
      rw [List.take_add_one, hie]
      rfl
    cases hf : f e with
    | true =>
      show te σ' H5 _
      refine he e hm hf B5 _ σ' H5 (e1.trans (((e2.trans e3).trans e4).trans e5)) hOD (s5.ex e5 w5) _ fun u B6 H6 e6 w6 d6 => ?_
      refine ⟨acc, w6.o D _ upd_same, Nat.lt_of_le_of_lt hlen (by decide), B6, acc ++ [u], ((e3.trans e4).trans e5).trans e6, ?_, ?_⟩
      · have := w6.mut (v := .lst (acc ++ [u])) upd_same
        rw [upd_upd] at this
        exact this
      · rw [htk, List.filter_append, List.map_append]
        refine dps_app (dps_ex ((e4.trans e5).trans e6) _ _ da) ?_
        simp [hf]
        exact dps_one d6
    | false =>
      show ∃ B' acc, _
      refine ⟨B5, acc, (e3.trans e4).trans e5, w5, ?_⟩
      rw [htk, List.filter_append, List.map_append]
      simp [hf]
      have := dps_ex (e4.trans e5) _ _ da
      simpa using this
  · rintro H3 ⟨B3, acc, e3, w3, da⟩
    rw [hn, List.take_length] at da
    exact q _ (upd B3 D (.lst acc)) H3 ((e2.trans e3).trans (Ex.new (w3.bnone upd_same))) (w3.give oD) (.lst upd_same (dps_ex (Ex.new (w3.bnone upd_same)) _ _ da))
end
end DL
namespace DL
open PySem L2 StX
section
variable {K : PySem.W.Frag} {B O : Hp} {G : List SD} {te : TE} {d e : PyData}
theorem rd_eqS {b : Bool} (hd : flatD d = true) (he : flatD e = true) (hs : scal (fv d) (fv e) = true) (h : decide (fv d = fv e) = b) : RD K rEq d e (.bool b) := fun B1 O1 H v w hw hv hx Q q => by
  obtain ⟨e1, _⟩ := fv_of hv hd
  obtain ⟨e2, _⟩ := fv_of hx he
  rw [e1, e2]
  refine ⟨hs, ?_⟩
  rw [h]
  exact q _ B1 H (Ex.refl _) hw (.bl _)
theorem rd_neS {b : Bool} (hd : flatD d = true) (he : flatD e = true) (hs : scal (fv d) (fv e) = true) (h : (!decide (fv d = fv e)) = b) : RD K rNe d e (.bool b) := fun B1 O1 H v w hw hv hx Q q => by
  obtain ⟨e1, _⟩ := fv_of hv hd
  obtain ⟨e2, _⟩ := fv_of hx he
  rw [e1, e2]
  refine ⟨hs, ?_⟩
  rw [h]
  exact q _ B1 H (Ex.refl _) hw (.bl _)
theorem rd_eqStr {x y : Str} : RD K rEq (.str x) (.str y) (.bool (x == y)) := rd_eqS rfl rfl rfl dec_str
theorem rd_eqInt {x y : Int} : RD K rEq (.int x) (.int y) (.bool (x == y)) := rd_eqS rfl rfl rfl dec_int
theorem rd_neInt {x y : Int} : RD K rNe (.int x) (.int y) (.bool (!(x == y))) := rd_neS rfl rfl rfl (by rw [show decide (fv (.int x) = fv (.int y)) = (x == y) from dec_int])
/-- x is None -/
theorem ev_isNone {tb : TE} {b : Bool} {ta : TE} (h : EvD K B O G ta d) (hb : EvD K B O G tb .none) (e : (match d with | .none => true | _ => false) = b) : EvD K B O G (tOp (fun x y H Q => y = .non ∧ Q (.bl (decide (x = .non))) H) ta tb) (.bool b) :=
  ev_op h hb fun B1 O1 H v w hw hv hx Q q => ⟨dp_none hx, by
    have : decide (v = V.non) = b := by
      rw [← e]
      cases hv <;> simp
    rw [this]
    exact q _ B1 H (Ex.refl _) hw (.bl b)⟩
end
end DL

set_option Elab.async false
set_option linter.all false
set_option maxRecDepth 100000
set_option maxHeartbeats 2000000
namespace DL
open PySem PySem.Spec PyProof.Rows L2 StX
/-! ### statements -/
section
variable {K : PySem.W.Frag} {B O : Hp} {G : List SD} {σ : L2.St} {H : Hp} {te ta tb : TE} {tt : TT} {tu tw tz : TS} {D : Ends} {d : PyData} {ds : List PyData} {i : Nat}
theorem s_asg (s : Sta K B O G σ H) (h : EvD K B O G te d) (k : ∀ v B' H', Ex B B' → Dt K B' v d → Sta K B' O (G.set i (.dat d)) (σ.set i (some v)) H' → D.nx (σ.set i (some v)) H') : tAsg te (gName i) D σ H :=
  h B O σ H (Ex.refl _) (Ex.refl _) s _ fun v B' H' e w dv => k v B' H' e dv ((s.ex e w).set i dv)
theorem q_asg (s : Sta K B O G σ H) (h : EvD K B O G te d) (k : ∀ v B' H', Ex B B' → Dt K B' v d → Sta K B' O (G.set i (.dat d)) (σ.set i (some v)) H' → tz D (σ.set i (some v)) H') : tSeq (tAsg te (gName i)) tz D σ H := s_asg (D := { D with nx := tz D }) s h k
theorem s_ret (s : Sta K B O G σ H) (h : EvD K B O G te d) (k : ∀ v B' H', Ex B B' → W B' O H' → Dt K B' v d → D.rt v H') : tRet te D σ H :=
  h B O σ H (Ex.refl _) (Ex.refl _) s _ fun v B' H' e w dv => k v B' H' e w dv
theorem s_if {b : Bool} (s : Sta K B O G σ H) (h : EvT K B O G tt b) (h1 : b = true → ∀ B' H', Ex B B' → Sta K B' O G σ H' → tu D σ H') (h2 : b = false → ∀ B' H', Ex B B' → Sta K B' O G σ H' → tw D σ H') : tIfS tt tu tw D σ H :=
  h B O σ H (Ex.refl _) (Ex.refl _) s _ fun B' H' e w => by
    cases b with
    | true =>
      show tu D σ H'
      exact h1 rfl B' H' e (s.ex e w)
    | false =>
      show tw D σ H'
      exact h2 rfl B' H' e (s.ex e w)
theorem q_if {b : Bool} (s : Sta K B O G σ H) (h : EvT K B O G tt b) (h1 : b = true → ∀ B' H', Ex B B' → Sta K B' O G σ H' → tu { D with nx := tz D } σ H') (h2 : b = false → ∀ B' H', Ex B B' → Sta K B' O G σ H' → tw { D with nx := tz D } σ H') : tSeq (tIfS tt tu tw) tz D σ H := s_if (D := { D with nx := tz D }) s h h1 h2
/-- an if that ends the def -/
theorem q_when {b : Bool} (s : Sta K B O G σ H) (h : EvT K B O G tt b) (h1 : b = true → ∀ B' H', Ex B B' → Sta K B' O G σ H' → tu { D with nx := tz D } σ H') (h2 : b = false → ∀ B' H', Ex B B' → Sta K B' O G σ H' → tz D σ H') : tSeq (tIfS tt tu tNext) tz D σ H := q_if s h h1 h2
theorem q_whenF (s : Sta K B O G σ H) (h : EvT K B O G tt false) (h2 : ∀ B' H', Ex B B' → Sta K B' O G σ H' → tz D σ H') : tSeq (tIfS tt tu tNext) tz D σ H := q_if s h (fun z => nomatch z) fun _ => h2
theorem q_whenT (s : Sta K B O G σ H) (h : EvT K B O G tt true) (h1 : ∀ B' H', Ex B B' → Sta K B' O G σ H' → tu { D with nx := tz D } σ H') : tSeq (tIfS tt tu tNext) tz D σ H := q_if s h (fun _ => h1) fun z => nomatch z
/-- a new list that will be changed -/
def EvL (K : PySem.W.Frag) (B O : Hp) (G : List SD) (te : TE) (ds : List PyData) : Prop := ∀ B1 O1 σ H, Ex B B1 → Ex O O1 → Sta K B1 O1 G σ H → ∀ Q : VK, (∀ p vs B' H', Ex B1 B' → O1 p = none → W B' (upd O1 p (.lst vs)) H' → DtAll K B' vs ds → Q (.ref p) H') → te σ H Q
theorem el_lst {t : TA} (h : EvA K B O G t ds) (hl : ds.length ≤ 100000) : EvL K B O G (tLst t) ds := fun B1 O1 σ H e o s Q q =>
  h B1 O1 σ H e o s _ fun vs B2 H2 e2 w2 d2 => ⟨by rw [dps_len d2]; exact sz_of hl, fun p hp => q p vs B2 _ e2 (w2.fo hp) (w2.newO hp) d2⟩
theorem el_listL (h : EvD K B O G te (.list ds)) : EvL K B O G (tCB (fun xs H Q => ∃ p ys, xs = [.ref p] ∧ (SqL K H p ys ∨ SqT K H p ys) ∧ ∀ l, H l = none → Q (.ref l) (upd H l (.lst ys))) (tCons te tNil)) ds := fun B1 O1 σ H e o s Q q =>
  h B1 O1 σ H e o s _ fun v B2 H2 e2 w2 d2 => by
    obtain ⟨a, xs, rfl, k1, k2⟩ := dp_lst d2
    exact ⟨a, xs, rfl, .inl (.inl (.inl (w2.b _ _ k1))), fun l hl => q l xs B2 _ e2 (w2.fo hl) (w2.newO hl) k2⟩
theorem q_asgL (s : Sta K B O G σ H) (h : EvL K B O G te ds) (k : ∀ p vs B' H', Ex B B' → O p = none → DtAll K B' vs ds → Sta K B' (upd O p (.lst vs)) (G.set i (.val (.ref p))) (σ.set i (some (.ref p))) H' → tz D (σ.set i (some (.ref p))) H') : tSeq (tAsg te (gName i)) tz D σ H :=
  h B O σ H (Ex.refl _) (Ex.refl _) s _ fun p vs B' H' e hp w dv => k p vs B' H' e hp dv ⟨w, (s.s.ex e).set i rfl⟩
/-- append to an owned list -/
theorem s_app {l : Addr} {vs : List V} (s : Sta K B O G σ H) (hg : G[i]? = some (.val (.ref l))) (ho : O l = some (.lst vs)) (hz : vs.length < 100000) (h : EvD K B O G te d)
    (k : ∀ v B' H', Ex B B' → Dt K B' v d → Sta K B' (upd O l (.lst (vs ++ [v]))) G σ H' → D.nx σ H') : tDrop (tBM K "list" rAppend (tVar i) (tCons te tNil)) D σ H := by
  obtain ⟨sv, h1, h2⟩ := s.s.get hg
  have h3 : sv = some (.ref l) := h2
  subst h3
  refine ⟨_, h1, .inl ⟨rfl, _, SqL.of (s.w.o _ _ ho)⟩, ?_⟩
  refine h B O σ H (Ex.refl _) (Ex.refl _) s _ fun v B' H' e w dv => ?_
  exact ⟨l, vs, v, rfl, rfl, w.o _ _ ho, Nat.lt_of_lt_of_le hz (by decide), k v B' _ e dv ⟨w.mut ho, s.s.ex e⟩⟩
theorem q_app {l : Addr} {vs : List V} (s : Sta K B O G σ H) (hg : G[i]? = some (.val (.ref l))) (ho : O l = some (.lst vs)) (hz : vs.length < 100000) (h : EvD K B O G te d)
    (k : ∀ v B' H', Ex B B' → Dt K B' v d → Sta K B' (upd O l (.lst (vs ++ [v]))) G σ H' → tz D σ H') : tSeq (tDrop (tBM K "list" rAppend (tVar i) (tCons te tNil))) tz D σ H := s_app (D := { D with nx := tz D }) s hg ho hz h k
theorem q_extend {l : Addr} {vs : List V} (s : Sta K B O G σ H) (hg : G[i]? = some (.val (.ref l))) (ho : O l = some (.lst vs)) (hz : vs.length + ds.length ≤ 100000) (h : EvD K B O G te (.list ds))
    (k : ∀ ws B' H', Ex B B' → DtAll K B' ws ds → Sta K B' (upd O l (.lst (vs ++ ws))) G σ H' → D.nx σ H') : tDrop (tBM K "list" rExtend (tVar i) (tCons te tNil)) D σ H := by
  obtain ⟨sv, h1, h2⟩ := s.s.get hg
  have h3 : sv = some (.ref l) := h2
  subst h3
  refine ⟨_, h1, .inl ⟨rfl, _, SqL.of (s.w.o _ _ ho)⟩, ?_⟩
  refine h B O σ H (Ex.refl _) (Ex.refl _) s _ fun v B' H' e w dv => ?_
  obtain ⟨b, zs, rfl, k1, k2⟩ := dp_lst dv
  exact ⟨l, b, vs, zs, rfl, rfl, w.o _ _ ho, w.b _ _ k1, sz_of (by rw [dps_len k2]; exact hz), k zs B' _ e k2 ⟨w.mut ho, s.s.ex e⟩⟩
/-- x[j] = e of an owned list -/
theorem s_setO {l : Addr} {vs : List V} {z : Int} {j : Nat} {ti : TE} (s : Sta K B O G σ H) (hg : G[i]? = some (.val (.ref l))) (ho : O l = some (.lst vs)) (h : EvD K B O G te d) (hi : EvD K B O G ti (.int z)) (hj : ixN vs.length z = some j)
    (k : ∀ v B' H', Ex B B' → Dt K B' v d → Sta K B' (upd O l (.lst (vs.set j v))) G σ H' → D.nx σ H') : tAsg te (gSub (tVar i) ti rSetL) D σ H := by
  obtain ⟨sv, h1, h2⟩ := s.s.get hg
  have h3 : sv = some (.ref l) := h2
  subst h3
  refine h B O σ H (Ex.refl _) (Ex.refl _) s _ fun v B' H' e w dv => ?_
  refine ⟨_, h1, ?_⟩
  refine hi B' O σ H' e (Ex.refl _) (s.ex e w) _ fun v2 B2 H2 e2 w2 dv2 => ?_
  rw [dp_int dv2]
  exact ⟨l, vs, z, j, rfl, rfl, w2.o _ _ ho, hj, k v B2 _ (e.trans e2) (dp_ex e2 _ _ dv) ⟨w2.mut ho, s.s.ex (e.trans e2)⟩⟩
theorem q_setO {l : Addr} {vs : List V} {z : Int} {j : Nat} {ti : TE} (s : Sta K B O G σ H) (hg : G[i]? = some (.val (.ref l))) (ho : O l = some (.lst vs)) (h : EvD K B O G te d) (hi : EvD K B O G ti (.int z)) (hj : ixN vs.length z = some j)
    (k : ∀ v B' H', Ex B B' → Dt K B' v d → Sta K B' (upd O l (.lst (vs.set j v))) G σ H' → tz D σ H') : tSeq (tAsg te (gSub (tVar i) ti rSetL)) tz D σ H := s_setO (D := { D with nx := tz D }) s hg ho h hi hj k
/-- an owned list is read -/
theorem ev_ixO {l : Addr} {vs : List V} {z : Int} (hg : G[i]? = some (.val (.ref l))) (ho : O l = some (.lst vs)) (hv : DtAll K B vs ds) (hb : EvD K B O G tb (.int z)) (h : atI ds z = some d) : EvD K B O G (tOp (rIxL K) (tVar i) tb) d := fun B1 O1 σ H e o s Q q => by
  obtain ⟨sv, h1, h2⟩ := s.s.get hg
  have h3 : sv = some (.ref l) := h2
  subst h3
  refine ⟨_, h1, ?_⟩
  refine hb B1 O1 σ H e o s _ fun v B2 H2 e2 w2 d2 => ?_
  obtain ⟨v', h4, h5⟩ := atI_get (dps_ex (e.trans e2) _ _ hv) h
  rw [dp_int d2]
  exact ⟨l, vs, z, v', rfl, rfl, .inl (.inl (w2.o _ _ (o _ _ ho))), h4, q _ B2 H2 e2 w2 h5⟩
theorem ev_lenO {l : Addr} {vs : List V} (hg : G[i]? = some (.val (.ref l))) (ho : O l = some (.lst vs)) : EvD K B O G (tCB (fun xs H Q => ∃ p ys, xs = [.ref p] ∧ (SqL K H p ys ∨ SqT K H p ys) ∧ Q (.int ys.length) H) (tCons (tVar i) tNil)) (.int vs.length) := fun B1 O1 σ H e o s Q q => by
  obtain ⟨sv, h1, h2⟩ := s.s.get hg
  have h3 : sv = some (.ref l) := h2
  subst h3
  exact ⟨_, h1, l, vs, rfl, .inl (.inl (.inl (s.w.o _ _ (o _ _ ho)))), q _ B1 H (Ex.refl _) s.w (.int _)⟩
/-- tuple(x) of an owned list -/
theorem ev_tupO {l : Addr} {vs : List V} (hg : G[i]? = some (.val (.ref l))) (ho : O l = some (.lst vs)) (hv : DtAll K B vs ds) : EvD K B O G (tCB (fun xs H Q => ∃ p ys, xs = [.ref p] ∧ ((SqL K H p ys ∧ ∀ l, H l = none → Q (.ref l) (upd H l (.tup ys))) ∨ (SqT K H p ys ∧ Q (.ref p) H))) (tCons (tVar i) tNil)) (.tuple ds) := fun B1 O1 σ H e o s Q q => by
  obtain ⟨sv, h1, h2⟩ := s.s.get hg
  have h3 : sv = some (.ref l) := h2
  subst h3
  exact ⟨_, h1, l, vs, rfl, .inl ⟨.inl (.inl (s.w.o _ _ (o _ _ ho))), fun p hp => q _ (upd B1 p _) _ (Ex.new (s.w.fb hp)) (s.w.newB hp) (.tup (.inl (.inl upd_same)) (dps_ex (e.trans (Ex.new (s.w.fb hp))) _ _ hv))⟩⟩
/-- an owned list is given back -/
theorem s_retO {l : Addr} {vs : List V} {O0 : Hp} (s : Sta K B O G σ H) (hg : G[i]? = some (.val (.ref l))) (ho : O = upd O0 l (.lst vs)) (hn : O0 l = none) (hv : DtAll K B vs ds) (k : ∀ B' H', Ex B B' → W B' O0 H' → Dt K B' (.ref l) (.list ds) → D.rt (.ref l) H') : tRet (tVar i) D σ H := by
  subst ho
  obtain ⟨sv, h1, h2⟩ := s.s.get hg
  have h3 : sv = some (.ref l) := h2
  subst h3
  have hb := s.w.bnone upd_same
  exact ⟨_, h1, k (upd B l (.lst vs)) H (Ex.new hb) (s.w.give hn) (.lst upd_same (dps_ex (Ex.new hb) _ _ hv))⟩
/-! loops -/
theorem s_for {wi : TI} {g : TG} {es : List PyData} (s : Sta K B O G σ H) (hI : EvI K B O G wi es) (P : Nat → Hp → Hp → List SD → Prop) (mono : ∀ i B1 B2 O1 G1, Ex B1 B2 → P i B1 O1 G1 → P i B2 O1 G1)
    (h0 : P 0 B O G)
    (hs : ∀ i e B1 O1 G1 σ1 H1 v, es[i]? = some e → Ex B B1 → P i B1 O1 G1 → Sta K B1 O1 G1 σ1 H1 → Dt K B1 v e → ∀ N : L2.St → Hp → Prop, (∀ B' O' G' σ' H', Ex B1 B' → P (i + 1) B' O' G' → Sta K B' O' G' σ' H' → N σ' H') → g v σ1 H1 fun σ2 H2 => tu { D with nx := N, ct := N, bk := D.nx } σ2 H2)
    (hd : ∀ B1 O1 G1 σ1 H1, Ex B B1 → P es.length B1 O1 G1 → Sta K B1 O1 G1 σ1 H1 → D.nx σ1 H1) : tFor wi g tu D σ H := by
  refine hI B O σ H (Ex.refl _) (Ex.refl _) s _ fun J B2 H2 e2 w2 gv => ?_
  obtain ⟨n, G0, Y, hn, wk, hG0, hY⟩ := gv
  refine for_it wk (fun i σ' H' => ∃ B' O' G', Ex B2 B' ∧ P i B' O' G' ∧ Sta K B' O' G' σ' H') ⟨B2, O, G, Ex.refl _, mono _ _ _ _ _ e2 h0, s.ex e2 w2⟩ (fun i σ' H' _ ⟨B', O', G', e', p', s'⟩ => hG0 B' O' H' e' s'.w) ?_ ?_
  · rintro i x σ' H3 H4 hi ⟨B3, O3, G3, e3, p3, s3⟩ y
    obtain ⟨e, B4, hie, e4, w4, dx⟩ := hY i H3 x H4 B3 _ e3 s3.w hi y
    refine hs i e B4 O3 G3 σ' H4 x hie ((e2.trans e3).trans e4) (mono _ _ _ _ _ e4 p3) ⟨w4, s3.s.ex e4⟩ dx _ fun B' O' G' σ2 H5 e5 p5 s5 => ⟨B', O', G', (e3.trans e4).trans e5, p5, s5⟩
  · rintro σ' H3 ⟨B3, O3, G3, e3, p3, s3⟩
    exact hd B3 O3 G3 σ' H3 (e2.trans e3) (by rw [← hn]; exact p3) s3
theorem q_for {wi : TI} {g : TG} {es : List PyData} (s : Sta K B O G σ H) (hI : EvI K B O G wi es) (P : Nat → Hp → Hp → List SD → Prop) (mono : ∀ i B1 B2 O1 G1, Ex B1 B2 → P i B1 O1 G1 → P i B2 O1 G1)
    (h0 : P 0 B O G)
    (hs : ∀ i e B1 O1 G1 σ1 H1 v, es[i]? = some e → Ex B B1 → P i B1 O1 G1 → Sta K B1 O1 G1 σ1 H1 → Dt K B1 v e → ∀ N : L2.St → Hp → Prop, (∀ B' O' G' σ' H', Ex B1 B' → P (i + 1) B' O' G' → Sta K B' O' G' σ' H' → N σ' H') → g v σ1 H1 fun σ2 H2 => tu { D with nx := N, ct := N, bk := tz D } σ2 H2)
    (hd : ∀ B1 O1 G1 σ1 H1, Ex B B1 → P es.length B1 O1 G1 → Sta K B1 O1 G1 σ1 H1 → tz D σ1 H1) : tSeq (tFor wi g tu) tz D σ H := s_for (D := { D with nx := tz D }) s hI P mono h0 hs hd
end

/-! ### defs -/
/-- the promise of a def of data: R tells the arguments and the answer -/
def SpR (K : PySem.W.Frag) (R : List PyData → PyData → Prop) : Sp := fun vs H Q _ => ∃ B O ds d, W B O H ∧ DtAll K B vs ds ∧ R ds d ∧ ∀ v B' H', Ex B B' → W B' O H' → Dt K B' v d → Q v H'
section
variable {K : PySem.W.Frag} {B O : Hp} {G : List SD} {R : List PyData → PyData → Prop} {ds : List PyData} {d : PyData} {t : TA} {E : XK}
theorem ev_call (h : EvA K B O G t ds) (hr : R ds d) : EvD K B O G (tCall (SpR K R) [] E t) d := fun B1 O1 σ H e o s Q q =>
  h B1 O1 σ H e o s _ fun vs B2 H2 e2 w2 d2 => by
    rw [List.append_nil]
    exact ⟨B2, O1, ds, d, w2, d2, hr, fun v B3 H3 e3 w3 d3 => q v B3 H3 (e2.trans e3) w3 d3⟩
end
def gOf (ds : List PyData) (n : Nat) : List SD := ds.map SD.dat ++ List.replicate n .un
theorem slots_start {K : PySem.W.Frag} {B : Hp} : ∀ {vs : List V} {ds : List PyData}, DtAll K B vs ds → ∀ n, Slots K B (vs.map some ++ List.replicate n none) (gOf ds n)
  | _, _, .nil, 0 => trivial
  | _, _, .nil, n + 1 => ⟨trivial, slots_start (ds := []) .nil n⟩
  | _, _, .cons h t, n => ⟨⟨_, rfl, h⟩, slots_start t n⟩
section
variable {P : Program} {w : World} {K : PySem.W.Frag} {mg : Str → Option Value} {base : Heap}
theorem ok_fn {x qual : Str} {st : Stmt} {f : Addr} {fd : FuncData} {N ps : List Str} {k : Nat} {R : List PyData → PyData → Prop} (F : Fun K x qual st f fd) (S : FnScope N ps (defScope st)) (hl : ∀ ds d, R ds d → ds.length = ps.length)
    (hb : ∀ (cdv : Value) (A : Around) (outer : List Env) (s : Shared) (H0 : Hp) (E : XK), Room k (A.deeper (envOfC qual (defScope st) s.heap.objs.size f cdv)) → ∀ ds d, R ds d →
      ∃ t, PSs (cxOf CX0 P w K mg base N qual (defScope st) f cdv A outer s H0 E).nox (defBody st) t ∧
        ∀ B O σ H (Q : VK), Sta K B O (gOf ds (N.length - ps.length)) σ H → (∀ v B' H', Ex B B' → W B' O H' → Dt K B' v d → Q v H') → t { nx := fun _ H' => Q .non H', rt := Q } σ H) :
    FnOk P w K mg base CX0 (k + 1) f fd ps (SpR K R) := by
  refine F.ok S (fun vs H Q E h => ?_) (fun cdv A outer s H vs Q E hr h => ?_)
  · obtain ⟨B, O, ds, d, _, h2, h3, _⟩ := h
    rw [dps_len h2]
    exact hl ds d h3
  · obtain ⟨B, O, ds, d, h1, h2, h3, k⟩ := h
    obtain ⟨t, ht, hq⟩ := hb cdv A outer s H E hr ds d h3
    refine ⟨t, ht, hq B O _ H Q ⟨h1, ?_⟩ k⟩
    have e := slots_start h2 (N.length - ps.length)
    have hl' : vs.length = ps.length := by rw [dps_len h2]; exact hl ds d h3
    unfold L2.start
    rw [hl']
    exact e
/-- a def that stands at its name, and its promise -/
structure Cal (P : Program) (w : World) (K : PySem.W.Frag) (mg : Str → Option Value) (base : Heap) (k : Nat) (x : Str) (ps : List Str) (sp : Sp) : Prop where
  ex : ∃ f fd, FnOk P w K mg base CX0 k f fd ps sp ∧ mg x = some (.ref f) ∧ PySem.W.keepIn K (.ref f) = true ∧ Binds K fd ps []
/-- where a def of the text stands -/
structure At (K : PySem.W.Frag) (mg : Str → Option Value) (x : Str) (st : Stmt) (ps : List Str) (f : Addr) (fd : FuncData) : Prop where
  fn : Fun K x x st f fd
  mg : mg x = some (.ref f)
  bi : Binds K fd ps []
theorem At.cal {x : Str} {st : Stmt} {ps : List Str} {f : Addr} {fd : FuncData} {k : Nat} {sp : Sp} (a : At K mg x st ps f fd) (h : FnOk P w K mg base CX0 k f fd ps sp) : Cal P w K mg base k x ps sp := ⟨f, fd, h, a.mg, a.fn.kp, a.bi⟩
end
theorem pe_cal {X : Cx} {x : Str} {ps : List Str} {sp : Sp} {k j : Nat} {p pos : Pos} {e : Expr} {es : List Expr} {t : TA} (C : Cal X.prog X.w X.K X.mg X.base k x ps sp) (hr : Room j X.A) (hk : k ≤ j) (hg : Gl X x) (ha : PA X (e :: es) t) (hd : (x == ("__debug__" : Str)) = false := by decide)
    (he : starEach (e :: es) X.env = (false, eval e X.env) :: starEach es X.env := by rfl) (hpl : (backTo pos (starEach es X.env)).any (·.1) = false := by rfl) :
    PE X (.Call (.Name x p) (e :: es) [] pos) (tCall sp [] E0 t) := by
  obtain ⟨f, fd, h1, h2, h3, h4⟩ := C.ex
  exact pe_call (h1.mono hk) hr hg h2 h3 h4 .nil pass0 ha hd he hpl
end DL

set_option Elab.async false
set_option linter.all false
set_option maxRecDepth 100000
set_option maxHeartbeats 2000000
/-! The rules that name the written part, with it told. -/
namespace DL
open PySem PySem.Spec PyProof.Rows L2 StX
section
variable (K : PySem.W.Frag) {X : Cx}
theorem ix_tupK (h : X.K = K := by rfl) : IxR X (rIxT K) := h ▸ ix_tup
theorem ix_listK (h : X.K = K := by rfl) : IxR X (rIxL K) := h ▸ ix_list
theorem op_inK (h : X.K = K := by rfl) : OpR X (compareOp .In) (rIn K false) := h ▸ op_in_seq
theorem op_notInK (h : X.K = K := by rfl) : OpR X (compareOp .NotIn) (rIn K true) := h ▸ op_notIn_seq
theorem op_eqDK (hu : X.A.units + 64 < cLine) (h : X.K = K := by rfl) : OpR X (compareOp .Eq) (rEqD K) := h ▸ op_eqD hu
theorem op_neDK (hu : X.A.units + 64 < cLine) (h : X.K = K := by rfl) : OpR X (compareOp .NotEq) (rNeD K) := h ▸ op_neD hu
theorem op_catAK (h : X.K = K := by rfl) : OpR X (binaryOp .Add) (rCatA K) := h ▸ op_catA
theorem sl_tupAK (h : X.K = K := by rfl) : SlR X (rSlA K) := h ▸ sl_tupA
theorem sl_listK (h : X.K = K := by rfl) : SlR X (rSlL K) := h ▸ sl_list
theorem call_lenK (h : X.K = K := by rfl) : CallR X (.builtin "len") (fun xs H Q => ∃ p ys, xs = [.ref p] ∧ (SqL K H p ys ∨ SqT K H p ys) ∧ Q (.int ys.length) H) := h ▸ call_len_seq
theorem call_listK (h : X.K = K := by rfl) : CallR X (.type "list") (fun xs H Q => ∃ p ys, xs = [.ref p] ∧ (SqL K H p ys ∨ SqT K H p ys) ∧ ∀ l, H l = none → Q (.ref l) (upd H l (.lst ys))) := h ▸ call_list_of
theorem call_tupleK (h : X.K = K := by rfl) : CallR X (.type "tuple") (fun xs H Q => ∃ p ys, xs = [.ref p] ∧ ((SqL K H p ys ∧ ∀ l, H l = none → Q (.ref l) (upd H l (.tup ys))) ∨ (SqT K H p ys ∧ Q (.ref p) H))) := h ▸ call_tuple_of
theorem cr_sumK (hc : X.calm = true) (h : X.K = K := by rfl) : CallR X (.builtin "sum") (rSum K) := h ▸ cr_sum hc
theorem cr_allK (hc : X.calm = true) (h : X.K = K := by rfl) : CallR X (.builtin "all") (rAll K) := h ▸ cr_all hc
theorem cr_anyK (hc : X.calm = true) (h : X.K = K := by rfl) : CallR X (.builtin "any") (rAny K) := h ▸ cr_any hc
theorem pi_listK {e tg : Expr} {te : TE} (he : PE X e te) (h : X.K = K := by rfl) : PI X tg e (iList K te) := h ▸ pi_list he
theorem pi_tupK {e tg : Expr} {te : TE} (he : PE X e te) (h : X.K = K := by rfl) : PI X tg e (iTup K te) := h ▸ pi_tup he
theorem pg_tupK {es : List Expr} {t : TGs} {kk n : Nat} {pos : Pos} (hc : X.calm = true) (hts : PGs X es t) (h : X.K = K := by rfl) (hn : (assignEach es X.env).length = n := by rfl) (hst : (assignEach es X.env).findIdx? (·.1) = none := by rfl) :
    PG X (.Tuple es kk pos) (gTup K n t) := h ▸ pg_tup hc hts hn hst
theorem pa_starK {e : Expr} {es : List Expr} {te : TE} {t : TA} {p : Pos} (he : PE X e te) (hr : PA X es t) (h : X.K = K := by rfl) (hs : starEach (.Starred e p :: es) X.env = (true, eval e X.env) :: starEach es X.env := by rfl) : PA X (.Starred e p :: es) (tStar K te t) := h ▸ pa_star he hr hs
theorem pi_enumK {e : Expr} {ta : TA} {p pos tpos : Pos} {elts : List Expr} {kk : Nat} (hg : Gl X "enumerate") (hm : X.mg "enumerate" = none) (ha : PA X [e] ta) (h : X.K = K := by rfl) (hs : starEach [e] X.env = [(false, eval e X.env)] := by rfl) :
    PI X (.Tuple elts kk tpos) (.Call (.Name "enumerate" p) [e] [] pos) (iEnum K ta) := h ▸ pi_enum hg hm ha hs
end
section
variable {K : PySem.W.Frag} {α : Type} {x y z : α} {xs : List α}
theorem at0 : atI (x :: xs) 0 = some x := by
  have h : (0 : Int) < (xs.length : Int) + 1 := by omega
  simp [atI, ixN, h]
theorem at1 : atI (x :: y :: xs) 1 = some y := by
  have h : (1 : Int) < (xs.length : Int) + 1 + 1 := by omega
  simp [atI, ixN, h]
theorem at2 : atI (x :: y :: z :: xs) 2 = some z := by
  have h : (2 : Int) < (xs.length : Int) + 1 + 1 + 1 := by omega
  simp [atI, ixN, h]
theorem at_last : atI (xs ++ [x]) (-1) = some x := by
  have h1 : ¬ (0 : Int) ≤ -1 := by omega
  have h2 : (-1 + ((xs.length : Int) + 1)).toNat = xs.length := by omega
  have h3 : -((xs.length : Int) + 1) ≤ -1 := by omega
  simp [atI, ixN, h2, h3]
end
end DL
namespace DL
open PySem PySem.Spec PyProof.Rows L2 StX
section
variable {K : PySem.W.Frag} {B O : Hp} {G : List SD} {wi : TI} {g : TG} {tt : TT} {te : TE} {vs : List Nat} {es : List PyData}
theorem EvL.d {te : TE} {ds : List PyData} (h : EvL K B O G te ds) : EvD K B O G te (.list ds) := fun B1 O1 σ H e1 o s Q q => h B1 O1 σ H e1 o s _ fun p ws B' H' e' hp w' da =>
  q _ (upd B' p (.lst ws)) H' (e'.trans (Ex.new (w'.bnone upd_same))) (w'.give hp) (.lst upd_same (dps_ex (Ex.new (w'.bnone upd_same)) _ _ da))
/-- a comprehension over typed things, with a test -/
theorem el_lcT {α : Type} (xs : List α) (en : α → PyData) (f : α → Bool) (v : α → PyData) (Gi : α → List SD) (hI : EvI K B O G wi (xs.map en)) (hz : xs.length ≤ 100000)
    (hg : ∀ x, x ∈ xs → EvG K (RW vs) g (wipeG G vs) (en x) (Gi x)) (ht : ∀ x, x ∈ xs → EvT K B O (Gi x) tt (f x)) (he : ∀ x, x ∈ xs → f x = true → EvD K B O (Gi x) te (v x)) :
    EvL K B O G (tLc wi g tt te vs) ((xs.filter f).map v) := fun B1 O1 σ H e1 o s Q q => by
  refine hI B1 O1 σ H e1 o s _ fun J B2 H2 e2 w2 gv D hD => ?_
  obtain ⟨n, G0, Y, hn, wk, hG0, hY⟩ := gv
  have oD : O1 D = none := w2.fo hD
  refine lc_it wk (fun i H' => ∃ B' acc, Ex B2 B' ∧ W B' (upd O1 D (.lst acc)) H' ∧ DtAll K B' acc (((xs.take i).filter f).map v))
    ⟨B2, [], Ex.refl _, w2.newO hD, by simp; exact .nil⟩ (fun i H' _ ⟨B', acc, e', w', _⟩ => hG0 B' _ H' e' w') ?_ ?_
  · rintro i x H3 H4 hi ⟨B3, acc, e3, w3, da⟩ y
    obtain ⟨e, B4, hie, e4, w4, dx⟩ := hY i H3 x H4 B3 _ e3 w3 hi y
    rw [List.getElem?_map] at hie
    obtain ⟨c, hic, hce⟩ : ∃ c, xs[i]? = some c ∧ en c = e := by
      cases hx : xs[i]? with
      | none => rw [hx] at hie; cases hie
      | some c => rw [hx] at hie; exact ⟨c, rfl, Option.some.inj hie⟩
    subst hce
    have hm : c ∈ xs := List.mem_of_getElem? hic
    have s4 : Sta K B4 (upd O1 D (.lst acc)) (wipeG G vs) (L2.wipe σ vs) H4 := ⟨w4, (s.s.ex ((e2.trans e3).trans e4)).wipe vs⟩
    have hOD : Ex O (upd O1 D (.lst acc)) := o.trans (Ex.new oD)
    refine hg c hm B4 _ _ H4 x s4 dx _ fun σ' s5 r5 => ⟨r5.trans wipe_wipe, ?_⟩
    have hlen : acc.length ≤ 100000 := by
      rw [dps_len da, List.length_map]
      have h1 := List.length_filter_le f (xs.take i)
      have h2 : (xs.take i).length ≤ xs.length := List.length_take_le' i xs
      omega
    refine ht c hm B4 _ σ' H4 (e1.trans ((e2.trans e3).trans e4)) hOD s5 _ fun B5 H5 e5 w5 => ?_
    have htk : xs.take (i + 1) = xs.take i ++ [c] := by
      rw [List.take_add_one, hic]
      rfl
    cases hf : f c with
    | true =>
      show te σ' H5 _
      refine he c hm hf B5 _ σ' H5 (e1.trans (((e2.trans e3).trans e4).trans e5)) hOD (s5.ex e5 w5) _ fun u B6 H6 e6 w6 d6 => ?_
      refine ⟨acc, w6.o D _ upd_same, Nat.lt_of_le_of_lt hlen (by decide), B6, acc ++ [u], ((e3.trans e4).trans e5).trans e6, ?_, ?_⟩
      · have := w6.mut (v := .lst (acc ++ [u])) upd_same
        rw [upd_upd] at this
        exact this
      · rw [htk, List.filter_append, List.map_append]
        refine dps_app (dps_ex ((e4.trans e5).trans e6) _ _ da) ?_
        simp [hf]
        exact dps_one d6
    | false =>
      show ∃ B' acc, _
      refine ⟨B5, acc, (e3.trans e4).trans e5, w5, ?_⟩
      rw [htk, List.filter_append, List.map_append]
      simp [hf]
      have := dps_ex (e4.trans e5) _ _ da
      simpa using this
  · rintro H3 ⟨B3, acc, e3, w3, da⟩
    rw [hn, List.length_map, List.take_length] at da
    exact q D acc B3 H3 (e2.trans e3) oD w3 da
theorem ev_lcT {α : Type} (xs : List α) (en : α → PyData) (f : α → Bool) (v : α → PyData) (Gi : α → List SD) (hI : EvI K B O G wi (xs.map en)) (hz : xs.length ≤ 100000)
    (hg : ∀ x, x ∈ xs → EvG K (RW vs) g (wipeG G vs) (en x) (Gi x)) (ht : ∀ x, x ∈ xs → EvT K B O (Gi x) tt (f x)) (he : ∀ x, x ∈ xs → f x = true → EvD K B O (Gi x) te (v x)) :
    EvD K B O G (tLc wi g tt te vs) (.list ((xs.filter f).map v)) := (el_lcT xs en f v Gi hI hz hg ht he).d
theorem el_map {α : Type} (xs : List α) (en : α → PyData) (v : α → PyData) (Gi : α → List SD) (hI : EvI K B O G wi (xs.map en)) (hz : xs.length ≤ 100000)
    (hg : ∀ x, x ∈ xs → EvG K (RW vs) g (wipeG G vs) (en x) (Gi x)) (he : ∀ x, x ∈ xs → EvD K B O (Gi x) te (v x)) :
    EvL K B O G (tLc wi g tYes te vs) (xs.map v) := by
  have h := el_lcT (K := K) (B := B) (O := O) (G := G) (wi := wi) (g := g) (tt := tYes) (te := te) (vs := vs) xs en (fun _ => true) v Gi hI hz hg (fun _ _ => et_yes) (fun x hx _ => he x hx)
  rw [List.filter_eq_self.mpr (by simp)] at h
  exact h
theorem ev_map {α : Type} (xs : List α) (en : α → PyData) (v : α → PyData) (Gi : α → List SD) (hI : EvI K B O G wi (xs.map en)) (hz : xs.length ≤ 100000)
    (hg : ∀ x, x ∈ xs → EvG K (RW vs) g (wipeG G vs) (en x) (Gi x)) (he : ∀ x, x ∈ xs → EvD K B O (Gi x) te (v x)) :
    EvD K B O G (tLc wi g tYes te vs) (.list (xs.map v)) := by
  have h := ev_lcT (K := K) (B := B) (O := O) (G := G) (wi := wi) (g := g) (tt := tYes) (te := te) (vs := vs) xs en (fun _ => true) v Gi hI hz hg (fun _ _ => et_yes) (fun x hx _ => he x hx)
  rw [List.filter_eq_self.mpr (by simp)] at h
  exact h
end
theorem SpR_false {P : Program} {w : World} {K : PySem.W.Frag} {mg : Str → Option Value} {base : Heap} {k : Nat} {f : Addr} {fd : FuncData} {ps : List Str} {R : List PyData → PyData → Prop} (h : ∀ ds d, ¬ R ds d) : FnOk P w K mg base CX0 k f fd ps (SpR K R) :=
  ⟨fun _ _ _ _ ⟨_, _, ds, d, _, _, r, _⟩ => (h ds d r).elim, fun _ _ _ _ _ _ _ _ _ _ _ _ _ ⟨_, _, ds, d, _, _, r, _⟩ => (h ds d r).elim⟩
/-- the same promise told by less -/
theorem SpR_imp {P : Program} {w : World} {K : PySem.W.Frag} {mg : Str → Option Value} {base : Heap} {k : Nat} {f : Addr} {fd : FuncData} {ps : List Str} {R R' : List PyData → PyData → Prop} (F : FnOk P w K mg base CX0 k f fd ps (SpR K R)) (h : ∀ ds d, R' ds d → R ds d) : FnOk P w K mg base CX0 k f fd ps (SpR K R') :=
  F.imp fun _ _ _ _ ⟨B, O, ds, d, a, b, c, e⟩ => ⟨B, O, ds, d, a, b, h _ _ c, e⟩
/-- the promise of a def that hands back a new list -/
def SpL (K : PySem.W.Frag) (R : List PyData → List PyData → Prop) : Sp := fun vs H Q _ => ∃ B O ds es, W B O H ∧ DtAll K B vs ds ∧ R ds es ∧ ∀ p ws B' H', Ex B B' → O p = none → W B' (upd O p (.lst ws)) H' → DtAll K B' ws es → Q (.ref p) H'
section
variable {K : PySem.W.Frag} {B O : Hp} {G : List SD} {R : List PyData → List PyData → Prop} {ds es : List PyData} {t : TA} {E : XK} {te : TE} {D : Ends} {σ : L2.St} {H : Hp}
theorem el_call (h : EvA K B O G t ds) (hr : R ds es) : EvL K B O G (tCall (SpL K R) [] E t) es := fun B1 O1 σ H e o s Q q =>
  h B1 O1 σ H e o s _ fun vs B2 H2 e2 w2 d2 => by
    rw [List.append_nil]
    exact ⟨B2, O1, ds, es, w2, d2, hr, fun p ws B3 H3 e3 hp w3 d3 => q p ws B3 H3 (e2.trans e3) hp w3 d3⟩
theorem el_listT {te : TE} (h : EvD K B O G te (.tuple ds)) : EvL K B O G (tCB (fun xs H Q => ∃ p ys, xs = [.ref p] ∧ (SqL K H p ys ∨ SqT K H p ys) ∧ ∀ l, H l = none → Q (.ref l) (upd H l (.lst ys))) (tCons te tNil)) ds := fun B1 O1 σ H e o s Q q =>
  h B1 O1 σ H e o s _ fun v B2 H2 e2 w2 d2 => by
    obtain ⟨a, xs, rfl, k1, k2⟩ := dp_tup d2
    exact ⟨a, xs, rfl, .inr (st_ex w2.b k1), fun l hl => q l xs B2 _ e2 (w2.fo hl) (w2.newO hl) k2⟩
theorem s_retL (s : Sta K B O G σ H) (h : EvL K B O G te es) (k : ∀ p ws B' H', Ex B B' → O p = none → W B' (upd O p (.lst ws)) H' → DtAll K B' ws es → D.rt (.ref p) H') : tRet te D σ H :=
  h B O σ H (Ex.refl _) (Ex.refl _) s _ fun p ws B' H' e hp w dv => k p ws B' H' e hp w dv
end
section
variable {P : Program} {w : World} {K : PySem.W.Frag} {mg : Str → Option Value} {base : Heap}
theorem ok_fnL {x qual : Str} {st : Stmt} {f : Addr} {fd : FuncData} {N ps : List Str} {k : Nat} {R : List PyData → List PyData → Prop} (F : Fun K x qual st f fd) (S : FnScope N ps (defScope st)) (hl : ∀ ds d, R ds d → ds.length = ps.length)
    (hb : ∀ (cdv : Value) (A : Around) (outer : List Env) (s : Shared) (H0 : Hp) (E : XK), Room k (A.deeper (envOfC qual (defScope st) s.heap.objs.size f cdv)) → ∀ ds es, R ds es →
      ∃ t, PSs (cxOf CX0 P w K mg base N qual (defScope st) f cdv A outer s H0 E).nox (defBody st) t ∧
        ∀ B O σ H (Q : VK), Sta K B O (gOf ds (N.length - ps.length)) σ H → (∀ p ws B' H', Ex B B' → O p = none → W B' (upd O p (.lst ws)) H' → DtAll K B' ws es → Q (.ref p) H') → t { nx := fun _ H' => Q .non H', rt := Q } σ H) :
    FnOk P w K mg base CX0 (k + 1) f fd ps (SpL K R) := by
  refine F.ok S (fun vs H Q E h => ?_) (fun cdv A outer s H vs Q E hr h => ?_)
  · obtain ⟨B, O, ds, d, _, h2, h3, _⟩ := h
    rw [dps_len h2]
    exact hl ds d h3
  · obtain ⟨B, O, ds, d, h1, h2, h3, k⟩ := h
    obtain ⟨t, ht, hq⟩ := hb cdv A outer s H E hr ds d h3
    refine ⟨t, ht, hq B O _ H Q ⟨h1, ?_⟩ k⟩
    have e := slots_start h2 (N.length - ps.length)
    have hl' : vs.length = ps.length := by rw [dps_len h2]; exact hl ds d h3
    unfold L2.start
    rw [hl']
    exact e
end
theorem SpL_false {P : Program} {w : World} {K : PySem.W.Frag} {mg : Str → Option Value} {base : Heap} {k : Nat} {f : Addr} {fd : FuncData} {ps : List Str} {R : List PyData → List PyData → Prop} (h : ∀ ds d, ¬ R ds d) : FnOk P w K mg base CX0 k f fd ps (SpL K R) :=
  ⟨fun _ _ _ _ ⟨_, _, ds, d, _, _, r, _⟩ => (h ds d r).elim, fun _ _ _ _ _ _ _ _ _ _ _ _ _ ⟨_, _, ds, d, _, _, r, _⟩ => (h ds d r).elim⟩
theorem at_nn {α : Type} {xs : List α} {i : Int} {x : α} (hi : 0 ≤ i) (h : xs[i.toNat]? = some x) : atI xs i = some x := by
  have hl : i.toNat < xs.length := (List.getElem?_eq_some_iff.mp h).1
  have h2 : i < xs.length := by omega
  unfold atI ixN
  rw [if_pos hi, if_pos h2]
  exact h
theorem ix_nn {n : Nat} {i : Int} (hi : 0 ≤ i) (h : i.toNat < n) : ixN n i = some i.toNat := by
  have h2 : i < n := by omega
  unfold ixN
  rw [if_pos hi, if_pos h2]
theorem enum_inv {es : List PyData} {i : Nat} {e : PyData} (h : (enumD es)[i]? = some e) : ∃ x, es[i]? = some x ∧ e = .tuple [.int i, x] := by
  have hi : i < es.length := by
    have := (List.getElem?_eq_some_iff.mp h).1
    rwa [enumD_len] at this
  have h2 : es[i]? = some es[i] := List.getElem?_eq_getElem hi
  rw [enumD_get h2] at h
  exact ⟨es[i], h2, (Option.some.inj h).symm⟩
theorem range_inv {lo : Int} {n i : Nat} {e : PyData} (h : (rangeD lo n)[i]? = some e) : i < n ∧ e = .int (lo + i) := by
  have hi : i < n := by
    have := (List.getElem?_eq_some_iff.mp h).1
    rwa [rangeD_len] at this
  rw [rangeD_get hi] at h
  exact ⟨hi, (Option.some.inj h).symm⟩
theorem map_inv {α β : Type} {xs : List α} {f : α → β} {i : Nat} {y : β} (h : (xs.map f)[i]? = some y) : ∃ x, xs[i]? = some x ∧ y = f x := by
  rw [List.getElem?_map] at h
  cases hx : xs[i]? with
  | none => rw [hx] at h; cases h
  | some x => rw [hx] at h; exact ⟨x, rfl, (Option.some.inj h).symm⟩
section
variable {K : PySem.W.Frag} {B O : Hp} {G : List SD} {σ : L2.St} {H : Hp} {D : Ends} {i : Nat}
theorem s_retOL {l : Addr} {vs : List V} {O0 : Hp} (s : Sta K B O G σ H) (hg : G[i]? = some (.val (.ref l))) (ho : O = upd O0 l (.lst vs)) (k : W B (upd O0 l (.lst vs)) H → D.rt (.ref l) H) : tRet (tVar i) D σ H := by
  subst ho
  obtain ⟨sv, h1, h2⟩ := s.s.get hg
  have h3 : sv = some (.ref l) := h2
  subst h3
  exact ⟨_, h1, k s.w⟩
end
theorem cut_init {xs : List PyData} {x : PyData} : cutX (xs ++ [x]) none (some (-1)) = xs := by
  have h : HT.sIx (xs ++ [x]).length (xs ++ [x]).length (some (-1)) = xs.length := by
    show (if (-1 : Int) < 0 then ((-1 : Int) + ((xs ++ [x]).length : Int)).toNat else min (-1 : Int).toNat (xs ++ [x]).length) = _
    rw [if_pos (by decide), List.length_append]
    simp
    omega
  unfold cutX
  rw [h, HT.sIx_none]
  simp
theorem cut_tail {xs : List PyData} {x : PyData} : cutX (x :: xs) (some 1) none = xs := by
  have h : HT.sIx (x :: xs).length 0 (some 1) = 1 := by
    have h2 := HT.sIx_nat (x :: xs).length 0 1
    have h3 : min 1 (x :: xs).length = 1 := by simp
    rw [h3] at h2
    exact h2
  unfold cutX
  rw [h, HT.sIx_none]
  simp
end DL

set_option Elab.async false
set_option linter.all false
set_option maxRecDepth 100000
set_option maxHeartbeats 2000000
/-! zip of a tuple and a list. -/
namespace DL
open PySem PySem.Spec PyProof.Rows L2 StX
def ItM (K : PySem.W.Frag) (a b : Addr) : It where
  go := fun i H => ∃ (xs ys : List V) (x y : V), (SqT K H a xs ∧ SqL K H b ys) ∧ xs[i]? = some x ∧ ys[i]? = some y
  yld := fun i H v H' => ∃ T x y, (v = .ref T ∧ H T = none ∧ H' = upd H T (.tup [x, y])) ∧ (∀ xs, SqT K H a xs → xs[i]? = some x) ∧ (∀ ys, SqL K H b ys → ys[i]? = some y)
  stop := fun i H => ∃ xs ys : List V, (SqT K H a xs ∧ SqL K H b ys) ∧ i ≤ xs.length ∧ i ≤ ys.length ∧ (i = xs.length ∨ i = ys.length)
structure StM (a b z TI TO i1 i2 : Addr) (i : Nat) (h : Heap) : Prop where
  z : IsZip h z TI TO .none
  ti : IsTupOf2 h TI (.ref i1) (.ref i2)
  to : ∃ x y, IsTupOf2 h TO x y
  t1 : h.IsTupleIter i1 a i
  t2 : h.IsListIter i2 b i
theorem StM.lt {a b z TI TO i1 i2 : Addr} {i : Nat} {h : Heap} (s : StM a b z TI TO i1 i2 i h) : ∀ c, c ∈ [z, TI, TO, i1, i2] → ∃ o, h.get? c = some o ∧ ∀ v, o.data ≠ .cell v := fun c hc => by
  obtain ⟨hz, hti, ⟨x, y, hto⟩, ⟨o1, e1, _, d1⟩, ⟨o2, e2, _, d2⟩⟩ := s
  simp only [List.mem_cons, List.not_mem_nil, or_false] at hc
  rcases hc with e | e | e | e | e <;> subst e
  · exact ⟨_, hz, fun v => nofun⟩
  · exact ⟨_, hti, fun v => nofun⟩
  · exact ⟨_, hto, fun v => nofun⟩
  · exact ⟨o1, e1, fun v q => by rw [d1] at q; cases q⟩
  · exact ⟨o2, e2, fun v q => by rw [d2] at q; cases q⟩
theorem turnM {P : Program} {w : World} {K : PySem.W.Frag} {elts : List Expr} {kk : Nat} {tpos : Pos} {a b z TI TO i1 i2 : Addr} (S : ZipSep2 z TI TO i1 i2 [i1, a] [i2, b]) (n1 : a ≠ i1) (n2 : b ≠ i2) :
    Turn P w K (.Tuple elts kk tpos) (ItM K a b) [z, TI, TO, i1, i2] z (fun i h => StM a b z TI TO i1 i2 i h) := by
  refine ⟨by simp, fun i h st c hc => ?_, fun i h h' st k => ?_, ?_, ?_, fun A i s Q E st h => wpAny_pyIter_zip st.z h⟩
  · obtain ⟨o, ho, hd⟩ := st.lt c hc
    exact ⟨o, ho, hd⟩
  · obtain ⟨hz, hti, ⟨x, y, hto⟩, h1, h2⟩ := st
    exact ⟨k z (by simp) _ hz, k TI (by simp) _ hti, ⟨x, y, k TO (by simp) _ hto⟩, h1.at fun o e => k i1 (by simp) o e, h2.at fun o e => k i2 (by simp) o e⟩
  · intro X hP hw hK hc i pins s σ H E I hf st hg
    subst hP hw hK
    have lts := st.lt
    obtain ⟨hz, hti, ⟨x0, y0, hto⟩, h1, h2⟩ := st
    obtain ⟨xs, ys, x, y, ⟨hqx, hqy⟩, hx, hy⟩ := hg
    obtain ⟨its, rv, p1, _⟩ := I.tuple hqx
    obtain ⟨its2, rv2, p2, _⟩ := I.list hqy
    have hl1 := rv.length
    have hl2 := rv2.length
    have hi1 : i < its.toArray.size := by
      have := (List.getElem?_eq_some_iff.mp hx).1
      simp
      omega
    have hi2 : i < its2.toArray.size := by
      have := (List.getElem?_eq_some_iff.mp hy).1
      simp
      omega
    have hzl : z < s.heap.objs.size := Heap.lt_size hz
    have hh := I.ok.hd hc
    refine wpAny_pyNext_zipD2_item S (Draws.tuple (A := X.A.in1) hh i1 a n1 its.toArray) (Draws.list (A := X.A.in1) hh i2 b n2 its2.toArray) hz hti hto ⟨h1, p1⟩ ⟨h2, p2.isList⟩ hi1 hi2 fun u u2 h' tk hu hu2 z' to' st1 st2 hT hsz hk => ?_
    have ru : RelV x u := by
      obtain ⟨q, hq, r⟩ := rv.get hx
      have e : its.toArray[i]? = some u := hu
      simp only [List.getElem?_toArray] at e
      rw [hq] at e
      cases e
      exact r
    have ru2 : RelV y u2 := by
      obtain ⟨q, hq, r⟩ := rv2.get hy
      have e : its2.toArray[i]? = some u2 := hu2
      simp only [List.getElem?_toArray] at e
      rw [hq] at e
      cases e
      exact r
    refine ⟨_, rfl, wpAny_letOwnedTupleGo_zip (s := { s with heap := h', toks := tk }) z' fun g' zz sb => ?_⟩
    have hT2 : g'.get? s.heap.objs.size = some { cls := .type "tuple", data := .seq #[u, u2] } := (sb.2 _ (Nat.ne_of_gt hzl)).trans hT
    have new : ObjOk X.prog X.w (upd H s.heap.objs.size (.tup [x, y])) g' s.heap.objs.size (.tup [x, y]) := ⟨(by decide : 2 ≤ sizeLine), [u, u2], Paired.cons ru (Paired.cons ru2 Paired.nil), _, hT2, rfl, _, rfl⟩
    have J := I.turnedNew (h' := g') (t' := tk) (ch := [z, TI, TO, i1, i2]) (fun c o hb q => (sb.2 c (fun q' => hb (by simp [q']))).trans (hk c o (fun q' => hb (by simp [q'])) (fun q' => hb (by simp [q'])) (fun q' => hb (by simp [q'])) (fun q' => hb (by simp [q'])) q)) hf (Nat.le_refl _) new
    refine ⟨.ref s.heap.objs.size, _, J, rfl, ⟨_, x, y, ⟨rfl, I.hok.fresh (Nat.le_refl _), rfl⟩, fun l hl => ?_, fun l hl => ?_⟩, ⟨zz, ?_, ⟨u, u2, ?_⟩, ?_, ?_⟩, fun c hcm => ?_⟩
    · rw [I.tuple_inj hl hqx]
      exact hx
    · rw [I.list_inj hl hqy]
      exact hy
    · exact (sb.2 _ S.TIz).trans (hk _ _ S.TIz S.TITO S.TIi1 S.TIi2 hti)
    · exact (sb.2 _ S.TOz).trans to'
    · exact st1.1.at fun o q => (sb.2 _ S.zi1.symm).trans q
    · exact st2.1.at fun o q => (sb.2 _ S.zi2.symm).trans q
    · obtain ⟨o, ho, _⟩ := lts c hcm
      rw [upd_ne (Nat.ne_of_lt (Heap.lt_size ho))]
      exact (hf c hcm).1
  · intro X hP hw hK hc i pins s σ H E I hf st hg
    subst hP hw hK
    obtain ⟨hz, hti, ⟨x0, y0, hto⟩, h1, h2⟩ := st
    obtain ⟨xs, ys, ⟨hqx, hqy⟩, le1, le2, hend⟩ := hg
    obtain ⟨its, rv, p1, _⟩ := I.tuple hqx
    obtain ⟨its2, rv2, p2, _⟩ := I.list hqy
    have hl1 := rv.length
    have hl2 := rv2.length
    have hh := I.ok.hd hc
    have z1 : its.toArray.size = xs.length := by
      simp
      omega
    have z2 : its2.toArray.size = ys.length := by
      simp
      omega
    refine wpAny_pyNext_zipD2_end S (Draws.tuple (A := X.A.in1) hh i1 a n1 its.toArray) (Draws.list (A := X.A.in1) hh i2 b n2 its2.toArray) hz hti hto ⟨h1, p1⟩ ⟨h2, p2.isList⟩ (by omega) (by omega) (by omega) fun h' tk hk => ?_
    exact ⟨rfl, I.turnedL (t' := tk) (ch := [z, TI, TO, i1, i2]) (fun c o hb q => hk c o (fun q' => hb (by simp [q'])) (fun q' => hb (by simp [q'])) (fun q' => hb (by simp [q'])) (fun q' => hb (by simp [q'])) q) hf⟩
def iZipM (K : PySem.W.Frag) (ta : TA) : TI := fun σ H R => ta σ H fun vs H1 => ∃ a b xs ys, vs = [V.ref a, V.ref b] ∧ SqT K H1 a xs ∧ SqL K H1 b ys ∧ R (ItM K a b) H1
theorem pi_zipM (K : PySem.W.Frag) {X : Cx} {e e2 : Expr} {ta : TA} {p pos tpos : Pos} {elts : List Expr} {kk : Nat} (hg : Gl X "zip") (hm : X.mg "zip" = none) (ha : PA X [e, e2] ta) (hK : X.K = K := by rfl)
    (hs : starEach [e, e2] X.env = (false, eval e X.env) :: starEach [e2] X.env := by rfl) (hpl : (backTo pos (starEach [e2] X.env)).any (·.1) = false := by rfl) :
    PI X (.Tuple elts kk tpos) (.Call (.Name "zip" p) [e, e2] [] pos) (iZipM K ta) := by
  subst hK
  refine ⟨fun pins s σ H R I h => Call_ (ld_blt I hg hm PyProof.Rows.boot_zip (PyProof.Rows.callWith_type1 (thn (ha.run pos pins s σ H _ I h) fun us s1 ⟨vs, H1, I1, r1, q1⟩ => ?_) hs hpl))⟩
  obtain ⟨a, b, xs, ys, rfl, hqx, hqy, q⟩ := q1
  obtain ⟨u1, u2, rfl, r1, r2⟩ := vals2 r1
  cases r1
  cases r2
  obtain ⟨its, rv, p1, _⟩ := I1.tuple hqx
  obtain ⟨its2, rv2, p2, _⟩ := I1.list hqy
  have la : a < s1.heap.objs.size := by
    obtain ⟨o, ho, _⟩ := id p1
    exact Heap.lt_size ho
  have lb : b < s1.heap.objs.size := p2.lt
  refine zip_begins2 (begins_tuple a its.toArray) (begins_list b its2.toArray) p1 p2.isList fun h' hz hti hto g1 g2 hsz hk => wpAny_pyIter_zip hz ?_
  have J : Inv X pins σ H1 { s1 with heap := h' } := I1.kept (t' := s1.toks) hk
  have S : ZipSep2 (s1.heap.objs.size + 4) (s1.heap.objs.size + 2) (s1.heap.objs.size + 3) s1.heap.objs.size (s1.heap.objs.size + 1) [s1.heap.objs.size, a] [s1.heap.objs.size + 1, b] :=
    zip_sep2 (fp1 := [a]) (fp2 := [b]) (by simpa using la) (by simpa using lb)
  refine ⟨s1.heap.objs.size + 4, [s1.heap.objs.size + 4, s1.heap.objs.size + 2, s1.heap.objs.size + 3, s1.heap.objs.size, s1.heap.objs.size + 1], _, _, H1, rfl, J, turnM S (Nat.ne_of_lt la) (Nat.ne_of_lt (Nat.lt_succ_of_lt lb)),
    ⟨hz, hti, ⟨_, _, hto⟩, ⟨_, g1, rfl, rfl⟩, ⟨_, g2, rfl, rfl⟩⟩, fun c hcm => ?_, q⟩
  have hle : s1.heap.objs.size ≤ c := by
    simp only [List.mem_cons, List.not_mem_nil, or_false] at hcm
    rcases hcm with e' | e' | e' | e' | e' <;> (rw [e']; first | exact Nat.le_refl _ | exact Nat.le_add_right _ _)
  exact I1.fpOk hle (I1.hok.fresh hle)
section
variable {K : PySem.W.Frag} {B O : Hp} {G : List SD} {ta : TA} {es ds : List PyData}
def zipD (es ds : List PyData) : List PyData := (es.zip ds).map fun z => .tuple [z.1, z.2]
theorem ei_zipM (h : EvA K B O G ta [.tuple es, .list ds]) (hl : es.length = ds.length) : EvI K B O G (iZipM K ta) ((es.zip ds).map fun z => .tuple [z.1, z.2]) := fun B1 O1 σ H e1 o s R r => h B1 O1 σ H e1 o s _ fun vs B2 H2 e2 w2 d2 => by
  cases d2 with
  | cons d3 d4 =>
    cases d4 with
    | cons d5 d6 =>
      cases d6
      obtain ⟨a, xs, rfl, k1, k2⟩ := dp_tup d3
      obtain ⟨b, ys, rfl, k3, k4⟩ := dp_lst d5
      have l1 := dps_len k2
      have l2 := dps_len k4
      have hz : ((es.zip ds).map fun z => PyData.tuple [z.1, z.2]).length = xs.length := by
        rw [List.length_map, List.length_zip]
        omega
      refine ⟨a, b, xs, ys, rfl, st_ex w2.b k1, .inl (.inl (w2.b _ _ k3)), r _ B2 H2 e2 w2 ⟨xs.length, (fun H => SqT K H a xs ∧ SqL K H b ys), YPair (fun i => xs[i]?) (fun i => ys[i]?), hz.symm, ?_, fun B3 O3 H3 e3 w3 => ⟨st_ex (e3.trans w3.b) k1, .inl (.inl (w3.b _ _ (e3 _ _ k3)))⟩, fun i H3 x H4 B3 O3 e3 w3 hi y => ?_⟩⟩
      · refine ⟨fun i H3 hi q => ⟨xs, ys, xs[i], ys[i]'(by omega), q, by simp [hi], by simp [show i < ys.length by omega]⟩, fun H3 q => ⟨xs, ys, q, Nat.le_refl _, by omega, .inl rfl⟩, fun i H3 v H4 hi q y => ?_⟩
        obtain ⟨T, x, y, ⟨e1, e2, e3⟩, h1, h2⟩ := y
        exact ⟨T, x, y, e1, e2, e3, h1 xs q.1, h2 ys q.2⟩
      · obtain ⟨T, x', y', rfl, hT, rfl, hx, hy⟩ := y
        obtain ⟨d, hd, dd⟩ := dps_getV k2 hx
        obtain ⟨e, he, de⟩ := dps_getV k4 hy
        obtain ⟨q1, q2, q3⟩ := pair_new w3 hT (dp_ex e3 _ _ dd) (dp_ex e3 _ _ de)
        refine ⟨_, _, ?_, q1, q2, q3⟩
        rw [List.getElem?_map, (List.getElem?_zip_eq_some (z := (d, e))).mpr ⟨hd, he⟩]
        rfl
end
end DL

set_option Elab.async false
set_option linter.all false
set_option maxRecDepth 100000
set_option maxHeartbeats 2000000
/-! Expressions and defs that change what is owned. -/
namespace DL
open PySem PySem.Spec PyProof.Rows L2 StX
/-- an expression that may change what is owned: R tells the data and what is owned behind it -/
def EvX (K : PySem.W.Frag) (B O : Hp) (G : List SD) (te : TE) (R : PyData → Hp → Prop) : Prop := ∀ B1 σ H, Ex B B1 → Sta K B1 O G σ H → ∀ Q : VK, (∀ v d B' O' H', Ex B1 B' → R d O' → W B' O' H' → Dt K B' v d → Q v H') → te σ H Q
def EvXs (K : PySem.W.Frag) (B O : Hp) (G : List SD) (ta : TA) (R : List PyData → Hp → Prop) : Prop := ∀ B1 σ H, Ex B B1 → Sta K B1 O G σ H → ∀ Q : List V → Hp → Prop, (∀ vs ds B' O' H', Ex B1 B' → R ds O' → W B' O' H' → DtAll K B' vs ds → Q vs H') → ta σ H Q
section
variable {K : PySem.W.Frag} {B B' O : Hp} {G : List SD} {te ta tb : TE} {t : TA} {r : R2} {d : PyData} {R R1 R3 : PyData → Hp → Prop} {R2' : PyData → Hp → PyData → Hp → Prop}
theorem EvX.ex (h : EvX K B O G te R) (e : Ex B B') : EvX K B' O G te R := fun B1 σ H e1 s Q q => h B1 σ H (e.trans e1) s Q q
theorem ex_pure (h : EvD K B O G te d) : EvX K B O G te (fun d' O' => d' = d ∧ O' = O) := fun B1 σ H e s Q q => h B1 O σ H e (Ex.refl _) s Q fun v B' H' e' w' dv => q v d B' O H' e' ⟨rfl, rfl⟩ w' dv
theorem ex_imp (h : EvX K B O G te R) (k : ∀ d O', R d O' → R1 d O') : EvX K B O G te R1 := fun B1 σ H e s Q q => h B1 σ H e s Q fun v d B' O' H' e' r' w' dv => q v d B' O' H' e' (k d O' r') w' dv
theorem ex_op (h1 : EvX K B O G ta R1) (h2 : ∀ d1 B' O', Ex B B' → R1 d1 O' → EvX K B' O' G tb (R2' d1 O')) (h3 : ∀ d1 O' d2 O'', R1 d1 O' → R2' d1 O' d2 O'' → ∃ z, RD K r d1 d2 z ∧ R3 z O'') : EvX K B O G (tOp r ta tb) R3 := fun B1 σ H e s Q q =>
  h1 B1 σ H e s _ fun v d1 B2 O2 H2 e2 r1 w2 dv => h2 d1 B2 O2 (e.trans e2) r1 B2 σ H2 (Ex.refl _) ⟨w2, s.s.ex e2⟩ _ fun u d2 B3 O3 H3 e3 r2 w3 du => by
    obtain ⟨z, hz, hr⟩ := h3 d1 O2 d2 O3 r1 r2
    exact hz B3 O3 H3 v u w3 (dp_ex e3 _ _ dv) du Q fun x B4 H4 e4 w4 dx => q x z B4 O3 H4 ((e2.trans e3).trans e4) hr w4 dx
theorem exs_nil : EvXs K B O G tNil (fun ds O' => ds = [] ∧ O' = O) := fun B1 σ H e s Q q => q [] [] B1 O H (Ex.refl _) ⟨rfl, rfl⟩ s.w .nil
theorem exs_cons {S : PyData → Hp → List PyData → Hp → Prop} {T : List PyData → Hp → Prop} (h1 : EvX K B O G te R) (h2 : ∀ d B' O', Ex B B' → R d O' → EvXs K B' O' G t (S d O')) (h3 : ∀ d O' ds O'', R d O' → S d O' ds O'' → T (d :: ds) O'') : EvXs K B O G (tCons te t) T := fun B1 σ H e s Q q =>
  h1 B1 σ H e s _ fun v d B2 O2 H2 e2 r1 w2 dv => h2 d B2 O2 (e.trans e2) r1 B2 σ H2 (Ex.refl _) ⟨w2, s.s.ex e2⟩ _ fun vs ds B3 O3 H3 e3 r2 w3 dvs => q (v :: vs) (d :: ds) B3 O3 H3 (e2.trans e3) (h3 d O2 ds O3 r1 r2) w3 (.cons (dp_ex e3 _ _ dv) dvs)
theorem ex_tup {T : List PyData → Hp → Prop} (h : EvXs K B O G t T) (hl : ∀ ds O', T ds O' → ds.length ≤ 100000) : EvX K B O G (tTup t) (fun d O' => ∃ ds, d = .tuple ds ∧ T ds O') := fun B1 σ H e s Q q =>
  h B1 σ H e s _ fun vs ds B2 O2 H2 e2 r2 w2 d2 => ⟨by rw [dps_len d2]; exact sz_of (hl ds O2 r2), fun p hp => q _ (.tuple ds) (upd B2 p (.tup vs)) O2 _ (e2.trans (Ex.new (w2.fb hp))) ⟨ds, rfl, r2⟩ (w2.newB hp) (.tup (.inl (.inl upd_same)) (dps_ex (Ex.new (w2.fb hp)) _ _ d2))⟩
theorem ex_lst {T : List PyData → Hp → Prop} (h : EvXs K B O G t T) (hl : ∀ ds O', T ds O' → ds.length ≤ 100000) : EvX K B O G (tLst t) (fun d O' => ∃ ds, d = .list ds ∧ T ds O') := fun B1 σ H e s Q q =>
  h B1 σ H e s _ fun vs ds B2 O2 H2 e2 r2 w2 d2 => ⟨by rw [dps_len d2]; exact sz_of (hl ds O2 r2), fun p hp => q _ (.list ds) (upd B2 p (.lst vs)) O2 _ (e2.trans (Ex.new (w2.fb hp))) ⟨ds, rfl, r2⟩ (w2.newB hp) (.lst upd_same (dps_ex (Ex.new (w2.fb hp)) _ _ d2))⟩
variable {σ : L2.St} {H : Hp} {D : Ends} {tz : TS} {i : Nat}
theorem qx_asg (s : Sta K B O G σ H) (h : EvX K B O G te R) (k : ∀ v d B' O' H', Ex B B' → R d O' → Dt K B' v d → Sta K B' O' (G.set i (.dat d)) (σ.set i (some v)) H' → tz D (σ.set i (some v)) H') : tSeq (tAsg te (gName i)) tz D σ H :=
  h B σ H (Ex.refl _) s _ fun v d B' O' H' e r' w' dv => k v d B' O' H' e r' dv ⟨w', (s.s.ex e).set i ⟨v, rfl, dv⟩⟩
theorem sx_ret (s : Sta K B O G σ H) (h : EvX K B O G te R) (k : ∀ v d B' O' H', Ex B B' → R d O' → W B' O' H' → Dt K B' v d → D.rt v H') : tRet te D σ H :=
  h B σ H (Ex.refl _) s _ fun v d B' O' H' e r' w' dv => k v d B' O' H' e r' w' dv
/-- append what is reckoned with changes to an owned list that these leave -/
theorem sx_app {l : Addr} {vs : List V} (s : Sta K B O G σ H) (hg : G[i]? = some (.val (.ref l))) (ho : O l = some (.lst vs)) (hz : vs.length < 100000) (h : EvX K B O G te R) (hr : ∀ d O', R d O' → O' l = some (.lst vs))
    (k : ∀ v d B' O' H', Ex B B' → R d O' → Dt K B' v d → Sta K B' (upd O' l (.lst (vs ++ [v]))) G σ H' → D.nx σ H') : tDrop (tBM K "list" rAppend (tVar i) (tCons te tNil)) D σ H := by
  obtain ⟨sv, h1, h2⟩ := s.s.get hg
  have h3 : sv = some (.ref l) := h2
  subst h3
  refine ⟨_, h1, .inl ⟨rfl, _, SqL.of (s.w.o _ _ ho)⟩, ?_⟩
  refine h B σ H (Ex.refl _) s _ fun v d B' O' H' e r' w' dv => ?_
  exact ⟨l, vs, v, rfl, rfl, w'.o _ _ (hr d O' r'), Nat.lt_of_lt_of_le hz (by decide), k v d B' O' _ e r' dv ⟨w'.mut (hr d O' r'), s.s.ex e⟩⟩
/-- the arguments of such a def: data, or just these values -/
def EvAS (K : PySem.W.Frag) (B O : Hp) (G : List SD) (ta : TA) (gs : List SD) : Prop := ∀ B1 σ H, Ex B B1 → Sta K B1 O G σ H → ∀ Q : List V → Hp → Prop, (∀ vs B' H', Ex B1 B' → W B' O H' → Slots K B' (vs.map some) gs → Q vs H') → ta σ H Q
theorem as_nil : EvAS K B O G tNil [] := fun B1 σ H e s Q q => q [] B1 H (Ex.refl _) s.w trivial
theorem as_dat {gs : List SD} (h : EvD K B O G te d) (hr : EvAS K B O G t gs) : EvAS K B O G (tCons te t) (.dat d :: gs) := fun B1 σ H e s Q q =>
  h B1 O σ H e (Ex.refl _) s _ fun v B2 H2 e2 w2 d2 => hr B2 σ H2 (e.trans e2) (s.ex e2 w2) _ fun vs B3 H3 e3 w3 d3 => q (v :: vs) B3 H3 (e2.trans e3) w3 ⟨⟨v, rfl, dp_ex e3 _ _ d2⟩, d3⟩
theorem as_val {gs : List SD} {v : V} (h : EvV K B O G te v) (hr : EvAS K B O G t gs) : EvAS K B O G (tCons te t) (.val v :: gs) := fun B1 σ H e s Q q =>
  h B1 O σ H e (Ex.refl _) s _ fun B2 H2 e2 w2 => hr B2 σ H2 (e.trans e2) (s.ex e2 w2) _ fun vs B3 H3 e3 w3 d3 => q (v :: vs) B3 H3 (e2.trans e3) w3 ⟨rfl, d3⟩
def SpX (K : PySem.W.Frag) (Pre : List SD → Hp → Hp → (PyData → Hp → Prop) → Prop) : Sp := fun vs H Q _ => ∃ B O gs R, W B O H ∧ Slots K B (vs.map some) gs ∧ Pre gs B O R ∧ ∀ v d B' O' H', Ex B B' → R d O' → W B' O' H' → Dt K B' v d → Q v H'
variable {Pre : List SD → Hp → Hp → (PyData → Hp → Prop) → Prop} {gs : List SD} {E : XK}
theorem ex_call (h : EvAS K B O G t gs) (hr : ∀ B', Ex B B' → Pre gs B' O R) : EvX K B O G (tCall (SpX K Pre) [] E t) R := fun B1 σ H e s Q q =>
  h B1 σ H e s _ fun vs B2 H2 e2 w2 d2 => by
    rw [List.append_nil]
    exact ⟨B2, O, gs, R, w2, d2, hr B2 (e.trans e2), fun v d B3 O3 H3 e3 r3 w3 d3 => q v d B3 O3 H3 (e2.trans e3) r3 w3 d3⟩
end
theorem slots_len {K : PySem.W.Frag} {B : Hp} : ∀ {σ : L2.St} {G : List SD}, Slots K B σ G → σ.length = G.length
  | [], [], _ => rfl
  | _ :: _, _ :: _, h => congrArg Nat.succ (slots_len h.2)
  | [], _ :: _, h => h.elim
  | _ :: _, [], h => h.elim
theorem slots_fill {K : PySem.W.Frag} {B : Hp} : ∀ {σ : L2.St} {G : List SD}, Slots K B σ G → ∀ n, Slots K B (σ ++ List.replicate n none) (G ++ List.replicate n .un)
  | [], [], _, 0 => trivial
  | [], [], _, n + 1 => ⟨trivial, slots_fill (σ := []) (G := []) trivial n⟩
  | _ :: _, _ :: _, h, n => ⟨h.1, slots_fill h.2 n⟩
  | [], _ :: _, h, _ => h.elim
  | _ :: _, [], h, _ => h.elim
section
variable {P : Program} {w : World} {K : PySem.W.Frag} {mg : Str → Option Value} {base : Heap}
theorem ok_fnX {x qual : Str} {st : Stmt} {f : Addr} {fd : FuncData} {N ps : List Str} {k : Nat} {Pre : List SD → Hp → Hp → (PyData → Hp → Prop) → Prop} (F : Fun K x qual st f fd) (S : FnScope N ps (defScope st)) (hl : ∀ gs B O R, Pre gs B O R → gs.length = ps.length)
    (hb : ∀ (cdv : Value) (A : Around) (outer : List Env) (s : Shared) (H0 : Hp) (E : XK), Room k (A.deeper (envOfC qual (defScope st) s.heap.objs.size f cdv)) →
      ∃ t, PSs (cxOf CX0 P w K mg base N qual (defScope st) f cdv A outer s H0 E).nox (defBody st) t ∧
        ∀ gs B O R σ H (Q : VK), Pre gs B O R → Sta K B O (gs ++ List.replicate (N.length - ps.length) .un) σ H → (∀ v d B' O' H', Ex B B' → R d O' → W B' O' H' → Dt K B' v d → Q v H') → t { nx := fun _ H' => Q .non H', rt := Q } σ H) :
    FnOk P w K mg base CX0 (k + 1) f fd ps (SpX K Pre) := by
  refine F.ok S (fun vs H Q E h => ?_) (fun cdv A outer s H vs Q E hr h => ?_)
  · obtain ⟨B, O, gs, R, _, h2, h3, _⟩ := h
    have := slots_len h2
    rw [List.length_map] at this
    rw [this]
    exact hl gs B O R h3
  · obtain ⟨B, O, gs, R, h1, h2, h3, k⟩ := h
    obtain ⟨t, ht, hq⟩ := hb cdv A outer s H E hr
    refine ⟨t, ht, hq gs B O R _ H Q h3 ⟨h1, ?_⟩ k⟩
    have e := slots_fill h2 (N.length - ps.length)
    have hl' : vs.length = ps.length := by
      have := slots_len h2
      rw [List.length_map] at this
      rw [this]
      exact hl gs B O R h3
    unfold L2.start
    rw [hl']
    exact e
theorem SpX_false {k : Nat} {f : Addr} {fd : FuncData} {ps : List Str} {Pre : List SD → Hp → Hp → (PyData → Hp → Prop) → Prop} (h : ∀ gs B O R, ¬ Pre gs B O R) : FnOk P w K mg base CX0 k f fd ps (SpX K Pre) :=
  ⟨fun _ _ _ _ ⟨B, O, gs, R, _, _, r, _⟩ => (h gs B O R r).elim, fun _ _ _ _ _ _ _ _ _ _ _ _ _ ⟨B, O, gs, R, _, _, r, _⟩ => (h gs B O R r).elim⟩
end
/-! ### pools and rooms -/
def PoolAt (O : Hp) (p : Addr) : Prop := ∃ a b : Int, O p = some (.lst [.int a, .int b]) ∧ 0 ≤ b ∧ b < 2147483647
def RoomAt (O : Hp) (r : Addr) : Prop := ∃ z : Int, O r = some (.lst [.int z])
structure Mv (p : Addr) (O O' : Hp) : Prop where
  pool : PoolAt O' p
  fr : ∀ a, a ≠ p → O' a = O a
theorem Mv.refl {p : Addr} {O : Hp} (h : PoolAt O p) : Mv p O O := ⟨h, fun _ _ => rfl⟩
theorem Mv.trans {p : Addr} {O O1 O2 : Hp} (a : Mv p O O1) (b : Mv p O1 O2) : Mv p O O2 := ⟨b.pool, fun x h => (b.fr x h).trans (a.fr x h)⟩
structure Mv2 (p r : Addr) (O O' : Hp) : Prop where
  pool : PoolAt O' p
  room : RoomAt O' r
  fr : ∀ a, a ≠ p → a ≠ r → O' a = O a
theorem Mv2.refl {p r : Addr} {O : Hp} (h : PoolAt O p) (h2 : RoomAt O r) : Mv2 p r O O := ⟨h, h2, fun _ _ _ => rfl⟩
theorem Mv2.trans {p r : Addr} {O O1 O2 : Hp} (a : Mv2 p r O O1) (b : Mv2 p r O1 O2) : Mv2 p r O O2 := ⟨b.pool, b.room, fun x h h' => (b.fr x h h').trans (a.fr x h h')⟩
theorem PoolAt.ne {O : Hp} {p r : Addr} (h : PoolAt O p) (h2 : RoomAt O r) : r ≠ p := by
  obtain ⟨a, b, e, _⟩ := h
  obtain ⟨z, e2⟩ := h2
  intro q
  subst q
  rw [e] at e2
  cases e2
theorem Mv.two {p r : Addr} {O O' : Hp} (a : Mv p O O') (h : PoolAt O p) (h2 : RoomAt O r) : Mv2 p r O O' := by
  refine ⟨a.pool, ?_, fun x h1 _ => a.fr x h1⟩
  obtain ⟨z, e⟩ := id h2
  exact ⟨z, by rw [a.fr r (h.ne h2)]; exact e⟩
end DL

set_option Elab.async false
set_option linter.all false
set_option maxRecDepth 100000
set_option maxHeartbeats 2000000
/-! Parts of readers as plain data. -/
namespace PT
open PySem DL
inductive Part where
  | leaf (w : Str) (fs : List PyData)
  | row (ps : List Part)
  | choice (m : PyData) (os : List (Int × Part))
  | one (w : Str) (fs : List PyData) (p : Part)
mutual
def enc : Part → PyData
  | .leaf w fs => .tuple (.str w :: fs)
  | .row ps => .tuple [.str "row", .tuple (encs ps)]
  | .choice m os => .tuple [.str "choice", m, .tuple (enco os)]
  | .one w fs p => .tuple (.str w :: (fs ++ [enc p]))
def encs : List Part → List PyData
  | [] => []
  | p :: ps => enc p :: encs ps
def enco : List (Int × Part) → List PyData
  | [] => []
  | (n, p) :: os => .tuple [.int n, enc p] :: enco os
end
theorem encs_eq : ∀ ps, encs ps = ps.map enc
  | [] => rfl
  | p :: ps => by
    show enc p :: encs ps = enc p :: ps.map enc
    rw [encs_eq ps]
theorem enco_eq : ∀ os, enco os = os.map fun o => .tuple [.int o.1, enc o.2]
  | [] => rfl
  | (n, p) :: os => by
    show _ :: enco os = _
    rw [enco_eq os]
    rfl
def isLeafW (w : Str) : Bool := w == "cell" || w == "need" || w == "pad"
def isOneW (w : Str) : Bool := w == "times" || w == "counted" || w == "within" || w == "fill" || w == "if left"
def word : Part → Str
  | .leaf w _ => w
  | .row _ => "row"
  | .choice _ _ => "choice"
  | .one w _ _ => w
def good (d : PyData) : Bool := flatD d && SeqAt.shaped d
/-- the top of a part is as it should be -/
def ok0 : Part → Prop
  | .leaf w fs => isLeafW w = true ∧ fs.length ≤ 3 ∧ fs.all good = true
  | .row ps => ps.length ≤ 6
  | .choice m os => good m = true ∧ 0 < os.length ∧ os.length ≤ 6
  | .one w fs _ => isOneW w = true ∧ fs.length ≤ 4 ∧ fs.all good = true ∧ (w = "times" → ∃ n, fs = [.int n] ∧ 0 ≤ n ∧ n ≤ 6)
def kids : Part → List Part
  | .leaf _ _ => []
  | .row ps => ps
  | .choice _ os => os.map (·.2)
  | .one _ _ p => [p]
def ok : Nat → Part → Prop
  | 0, _ => False
  | h + 1, t => ok0 t ∧ ∀ p, p ∈ kids t → ok h p
def fields : Part → List PyData
  | .leaf _ fs => fs
  | .row ps => [.tuple (ps.map enc)]
  | .choice m os => [m, .tuple (os.map fun o => .tuple [.int o.1, enc o.2])]
  | .one _ fs p => fs ++ [enc p]
theorem enc_eq (t : Part) : enc t = .tuple (.str (word t) :: fields t) := by
  cases t with
  | leaf w fs => rfl
  | row ps =>
    show PyData.tuple [.str "row", .tuple (encs ps)] = _
    rw [encs_eq]
    rfl
  | choice m os =>
    show PyData.tuple [.str "choice", m, .tuple (enco os)] = _
    rw [enco_eq]
    rfl
  | one w fs p => rfl
theorem kids_len {t : Part} (h : ok0 t) : (kids t).length ≤ 6 := by
  cases t with
  | leaf => simp [kids]
  | row ps => exact h
  | choice m os =>
    obtain ⟨_, _, h3⟩ := h
    simp [kids]
    omega
  | one => simp [kids]
theorem ok_mono : ∀ {h j : Nat} {t : Part}, h ≤ j → ok h t → ok j t
  | 0, _, _, _, o => o.elim
  | h + 1, 0, _, l, _ => absurd l (by omega)
  | h + 1, j + 1, t, l, o => ⟨o.1, fun p hp => ok_mono (by omega) (o.2 p hp)⟩
/-! sizes -/
def osum : List (Option Int) → Option Int
  | [] => some 0
  | none :: _ => none
  | some n :: r => (osum r).map (n + ·)
def encN : Option Int → PyData
  | none => .none
  | some n => .int n
def numOf : List PyData → Option Int
  | .int n :: _ => some n
  | _ => none
def sizeK (w : Str) (fs : List PyData) (ss : List (Option Int)) : Option Int :=
  if w = "cell" then some 1
  else if w = "need" then some 0
  else if w = "row" ∨ w = "choice" ∨ w = "times" then
    (if none ∈ ss then none
    else if w = "row" then some ((ss.map fun s => s.getD 0).sum)
    else if w = "times" then ((numOf fs).map fun n => n * (ss.headD (some 0)).getD 0)
    else if ∀ s ∈ ss, s = ss.headD (some 0) then some (1 + (ss.headD (some 0)).getD 0) else none)
  else none
def size : Nat → Part → Option Int
  | 0, _ => none
  | h + 1, t => sizeK (word t) (fields t) ((kids t).map (size h))
/-! parts in parts -/
def subsAt (S : Part → List (List Int × Part)) (ks : List Part) (i : Nat) : List (List Int × Part) := match ks[i]? with
  | some c => (S c).map fun q => ((i : Int) :: q.1, q.2)
  | none => []
def subsTo (S : Part → List (List Int × Part)) (t : Part) (n : Nat) : List (List Int × Part) := ([], t) :: (List.range n).flatMap (subsAt S (kids t))
def subs : Nat → Part → List (List Int × Part)
  | 0, t => [([], t)]
  | h + 1, t => subsTo (subs h) t (kids t).length
theorem subsTo_succ {S : Part → List (List Int × Part)} {t : Part} {n : Nat} {c : Part} (h : (kids t)[n]? = some c) : subsTo S t (n + 1) = subsTo S t n ++ (S c).map fun q => ((n : Int) :: q.1, q.2) := by
  unfold subsTo
  rw [List.range_succ, List.flatMap_append, ← List.cons_append]
  simp [subsAt, h]
def cntP : Nat → Nat
  | 0 => 0
  | h + 1 => 1 + 6 * cntP h
theorem subsTo_len {S : Part → List (List Int × Part)} {t : Part} {m : Nat} (hS : ∀ c, c ∈ kids t → (S c).length ≤ m) : ∀ n, (subsTo S t n).length ≤ 1 + n * m
  | 0 => by simp [subsTo]
  | n + 1 => by
    have ih := subsTo_len hS n
    cases hc : (kids t)[n]? with
    | none =>
      have : subsTo S t (n + 1) = subsTo S t n := by
        unfold subsTo
        rw [List.range_succ, List.flatMap_append]
        simp [subsAt, hc]
      rw [this, Nat.succ_mul]
      omega
    | some c =>
      rw [subsTo_succ hc, List.length_append, List.length_map, Nat.succ_mul]
      have := hS c (List.mem_of_getElem? hc)
      omega
theorem subs_len : ∀ {h : Nat} {t : Part}, ok h t → (subs h t).length ≤ cntP h
  | 0, _, o => o.elim
  | h + 1, t, o => by
    have h1 := subsTo_len (S := subs h) (t := t) (m := cntP h) (fun c hc => subs_len (o.2 c hc)) (kids t).length
    have h2 := kids_len o.1
    have h3 : (kids t).length * cntP h ≤ 6 * cntP h := Nat.mul_le_mul_right _ h2
    show (subsTo (subs h) t (kids t).length).length ≤ 1 + 6 * cntP h
    omega
theorem cnt_le : ∀ {h : Nat}, h ≤ 7 → cntP h ≤ 55987
  | 0, _ => by decide
  | 1, _ => by decide
  | 2, _ => by decide
  | 3, _ => by decide
  | 4, _ => by decide
  | 5, _ => by decide
  | 6, _ => by decide
  | 7, _ => by decide
  | h + 8, l => absurd l (by omega)
theorem cnt_mono {h : Nat} (l : h + 1 ≤ 7) {n : Nat} (hn : n ≤ 6) : 1 + n * cntP h ≤ 55987 := by
  have h1 := cnt_le l
  have h2 : n * cntP h ≤ 6 * cntP h := Nat.mul_le_mul_right _ hn
  have h3 : cntP (h + 1) = 1 + 6 * cntP h := rfl
  omega
def getP : Part → List Int → Option Part
  | t, [] => some t
  | t, i :: p => if 0 ≤ i then (kids t)[i.toNat]?.bind (getP · p) else none
theorem subs_get : ∀ {h : Nat} {t : Part} {p : List Int} {c : Part}, (p, c) ∈ subs h t → getP t p = some c
  | 0, t, p, c, m => by
    simp [subs] at m
    obtain ⟨rfl, rfl⟩ := m
    rfl
  | h + 1, t, p, c, m => by
    have m' : (p, c) ∈ subsTo (subs h) t (kids t).length := m
    unfold subsTo at m'
    rw [List.mem_cons, List.mem_flatMap] at m'
    rcases m' with m' | ⟨i, _, m'⟩
    · cases m'
      rfl
    · unfold subsAt at m'
      cases hk : (kids t)[i]? with
      | none => rw [hk] at m'; cases m'
      | some k =>
        rw [hk] at m'
        obtain ⟨q, hq, e⟩ := List.mem_map.mp m'
        cases e
        have := subs_get hq
        show (if 0 ≤ (i : Int) then _ else _) = _
        rw [if_pos (by omega), Int.toNat_natCast, hk]
        exact this
theorem ok_get : ∀ {p : List Int} {h : Nat} {t c : Part}, ok h t → getP t p = some c → ok h c
  | [], h, t, c, o, e => by cases e; exact o
  | i :: p, 0, t, c, o, e => o.elim
  | i :: p, h + 1, t, c, o, e => by
    have e' : (if 0 ≤ i then (kids t)[i.toNat]?.bind (getP · p) else none) = some c := e
    split at e'
    · cases hk : (kids t)[i.toNat]? with
      | none => rw [hk] at e'; cases e'
      | some k =>
        rw [hk] at e'
        exact ok_mono (Nat.le_succ h) (ok_get (o.2 k (List.mem_of_getElem? hk)) e')
    · cases e'
theorem subs_path : ∀ {h : Nat} {t : Part} {p : List Int} {c : Part}, (p, c) ∈ subs h t → p.length ≤ h
  | 0, t, p, c, m => by
    simp [subs] at m
    simp [m.1]
  | h + 1, t, p, c, m => by
    have m' : (p, c) ∈ subsTo (subs h) t (kids t).length := m
    unfold subsTo at m'
    rw [List.mem_cons, List.mem_flatMap] at m'
    rcases m' with m' | ⟨i, _, m'⟩
    · cases m'
      simp
    · unfold subsAt at m'
      cases hk : (kids t)[i]? with
      | none => rw [hk] at m'; cases m'
      | some k =>
        rw [hk] at m'
        obtain ⟨q, hq, e⟩ := List.mem_map.mp m'
        cases e
        have := subs_path hq
        simp
        omega
/-- the parts in their places -/
def withK : Part → List Part → Part
  | .leaf w fs, _ => .leaf w fs
  | .row _, ks => .row ks
  | .choice m os, ks => .choice m ((os.zip ks).map fun z => (z.1.1, z.2))
  | .one w fs p, ks => .one w fs (ks.headD p)
def repP : Part → List Int → Part → Option Part
  | _, [], o => some o
  | t, i :: p, o => if 0 ≤ i then (kids t)[i.toNat]?.bind fun c => (repP c p o).map fun c' => withK t ((kids t).set i.toNat c') else none
theorem rep_get : ∀ {p : List Int} {t c : Part} (o : Part), getP t p = some c → ∃ d, repP t p o = some d
  | [], t, c, o, e => ⟨o, rfl⟩
  | i :: p, t, c, o, e => by
    have e' : (if 0 ≤ i then (kids t)[i.toNat]?.bind (getP · p) else none) = some c := e
    split at e'
    · rename_i hi
      cases hk : (kids t)[i.toNat]? with
      | none => rw [hk] at e'; cases e'
      | some k =>
        rw [hk] at e'
        obtain ⟨d, hd⟩ := rep_get (t := k) o e'
        refine ⟨withK t ((kids t).set i.toNat d), ?_⟩
        show (if 0 ≤ i then _ else _) = _
        rw [if_pos hi, hk]
        show (repP k p o).map _ = _
        rw [hd]
        rfl
    · cases e'
theorem withK_same (t : Part) : withK t (kids t) = t := by
  cases t with
  | leaf => rfl
  | row => rfl
  | choice m os =>
    have h : ∀ xs : List (Int × Part), ((xs.zip (xs.map (·.2))).map fun z => (z.1.1, z.2)) = xs := fun xs => by
      induction xs with
      | nil => rfl
      | cons o r ih =>
        show (o.1, o.2) :: ((r.zip (r.map (·.2))).map fun z => (z.1.1, z.2)) = _
        rw [ih]
    show Part.choice m _ = _
    exact congrArg _ (h os)
  | one => rfl
theorem set_same {α : Type} : ∀ {xs : List α} {i : Nat} {x : α}, xs[i]? = some x → xs.set i x = xs
  | [], _, _, _ => rfl
  | y :: ys, 0, x, h => by simp at h; subst h; rfl
  | y :: ys, i + 1, x, h => by simp at h; simp [set_same h]
theorem rep_same : ∀ {p : List Int} {t c : Part}, getP t p = some c → repP t p c = some t
  | [], t, c, e => by cases e; rfl
  | i :: p, t, c, e => by
    have e' : (if 0 ≤ i then (kids t)[i.toNat]?.bind (getP · p) else none) = some c := e
    split at e'
    · rename_i hi
      cases hk : (kids t)[i.toNat]? with
      | none => rw [hk] at e'; cases e'
      | some k =>
        rw [hk] at e'
        have := rep_same (t := k) e'
        show (if 0 ≤ i then _ else _) = _
        rw [if_pos hi, hk]
        show (repP k p c).map _ = _
        rw [this]
        show some (withK t _) = _
        rw [set_same hk, withK_same]
    · cases e'
def encP (p : List Int) : PyData := .tuple (p.map .int)
def encQ (q : List Int × Part) : PyData := .tuple [encP q.1, enc q.2]
theorem row_of {t : Part} (ho : ok0 t) (h : (word t == "row") = true) : ∃ ps, t = .row ps := by
  cases t with
  | row ps => exact ⟨ps, rfl⟩
  | leaf x fs =>
    have e : x = "row" := eq_of_beq h
    subst e
    exact absurd ho.1 (by decide)
  | choice m os => exact absurd (show (("choice" : Str) == "row") = true from h) (by decide)
  | one x fs p =>
    have e : x = "row" := eq_of_beq h
    subst e
    exact absurd ho.1 (by decide)
theorem choice_of {t : Part} (ho : ok0 t) (h : (word t == "choice") = true) : ∃ m os, t = .choice m os := by
  cases t with
  | choice m os => exact ⟨m, os, rfl⟩
  | leaf x fs =>
    have e : x = "choice" := eq_of_beq h
    subst e
    exact absurd ho.1 (by decide)
  | row ps => exact absurd (show (("row" : Str) == "choice") = true from h) (by decide)
  | one x fs p =>
    have e : x = "choice" := eq_of_beq h
    subst e
    exact absurd ho.1 (by decide)
theorem one_of {t : Part} (ho : ok0 t) (h1 : (word t == "row") = false) (h2 : (word t == "choice") = false) (h : isLeafW (word t) = false) : ∃ w fs p, t = .one w fs p := by
  cases t with
  | choice m os => exact absurd h2 (by show ¬ (("choice" : Str) == "choice") = false; decide)
  | leaf x fs =>
    have h' : isLeafW x = false := h
    rw [ho.1] at h'
    cases h'
  | row ps => exact absurd h1 (by show ¬ (("row" : Str) == "row") = false; decide)
  | one x fs p => exact ⟨x, fs, p, rfl⟩
theorem leaf_of {t : Part} (ho : ok0 t) (h1 : (word t == "row") = false) (h2 : (word t == "choice") = false) (h : isOneW (word t) = false) : ∃ w fs, t = .leaf w fs := by
  cases t with
  | choice m os => exact absurd h2 (by show ¬ (("choice" : Str) == "choice") = false; decide)
  | one x fs p =>
    have h' : isOneW x = false := h
    rw [ho.1] at h'
    cases h'
  | row ps => exact absurd h1 (by show ¬ (("row" : Str) == "row") = false; decide)
  | leaf x fs => exact ⟨x, fs, rfl⟩
theorem leafW_one {w : Str} (h : isLeafW w = true) : isOneW w = false := by
  unfold isLeafW at h
  simp only [Bool.or_eq_true] at h
  rcases h with (h | h) | h <;> (have e := eq_of_beq h; subst e; decide)
theorem oneW_leaf {w : Str} (h : isOneW w = true) : isLeafW w = false := by
  cases e : isLeafW w with
  | false => rfl
  | true => rw [leafW_one e] at h; cases h
end PT

set_option Elab.async false
set_option linter.all false
set_option maxRecDepth 100000
set_option maxHeartbeats 2000000
/-! More of the same: walks that are reckoned with changes, owned lists compared. -/
namespace DL
open PySem PySem.Spec PyProof.Rows L2 StX
def EvIX (K : PySem.W.Frag) (B O : Hp) (G : List SD) (wi : TI) (T : List PyData → Hp → Prop) : Prop := ∀ B1 σ H, Ex B B1 → Sta K B1 O G σ H → ∀ R : It → Hp → Prop, (∀ J es B' O' H', Ex B1 B' → T es O' → W B' O' H' → Gives K J es B' → R J H') → wi σ H R
section
variable {K : PySem.W.Frag} {B O : Hp} {G : List SD} {te ta tb th : TE} {t : TA} {d : PyData} {ds : List PyData} {σ : L2.St} {H : Hp} {D : Ends} {tz tu : TS} {i : Nat}
theorem eix_list {T : List PyData → Hp → Prop} (h : EvX K B O G te (fun d O' => ∃ es, d = .list es ∧ T es O')) : EvIX K B O G (iList K te) T := fun B1 σ H e1 s R r => h B1 σ H e1 s _ fun v d B2 O2 H2 e2 ⟨es, ed, hT⟩ w2 d2 => by
  subst ed
  obtain ⟨a, xs, rfl, k1, k2⟩ := dp_lst d2
  refine ⟨a, rfl, ⟨xs, .inl (.inl (w2.b _ _ k1))⟩, r _ es B2 O2 H2 e2 hT w2 ⟨xs.length, _, _, dps_len k2, walk_list (xs := xs), fun B3 O3 H3 e3 w3 => .inl (.inl (w3.b _ _ (e3 _ _ k1))), fun i H3 x H4 B3 O3 e3 w3 hi y => ?_⟩⟩
  obtain ⟨rfl, hx⟩ := y
  obtain ⟨e, he, hd⟩ := dps_getV k2 hx
  exact ⟨e, B3, he, Ex.refl _, w3, dp_ex e3 _ _ hd⟩
theorem eix_range {T : List PyData → Hp → Prop} (h : EvXs K B O G t (fun ds O' => ∃ j : Int, ds = [.int j] ∧ (-1000000 ≤ j ∧ j ≤ 1000000) ∧ T (rangeD 0 j.toNat) O')) : EvIX K B O G (iRng1 t) T := fun B1 σ H e1 s R r => h B1 σ H e1 s _ fun vs ds B2 O2 H2 e2 ⟨j, ed, hj, hT⟩ w2 d2 => by
  subst ed
  have e := dps_ints (ns := [j]) d2
  refine ⟨j, e, by omega, by omega, r _ _ B2 O2 H2 e2 hT w2 ⟨j.toNat, _, _, rangeD_len.symm, walk_range, fun _ _ _ _ _ => trivial, fun i H3 x H4 B3 O3 e3 w3 hi y => ?_⟩⟩
  obtain ⟨rfl, rfl⟩ := y
  exact ⟨_, B3, rangeD_get hi, Ex.refl _, w3, .int _⟩
theorem sx_for {wi : TI} {g : TG} {T : List PyData → Hp → Prop} (s : Sta K B O G σ H) (hI : EvIX K B O G wi T) (P : List PyData → Nat → Hp → Hp → List SD → Prop) (mono : ∀ es i B1 B2 O1 G1, Ex B1 B2 → P es i B1 O1 G1 → P es i B2 O1 G1)
    (h0 : ∀ es O' B', Ex B B' → T es O' → P es 0 B' O' G)
    (hs : ∀ es i e B1 O1 G1 σ1 H1 v, es[i]? = some e → Ex B B1 → P es i B1 O1 G1 → Sta K B1 O1 G1 σ1 H1 → Dt K B1 v e → ∀ N : L2.St → Hp → Prop, (∀ B' O' G' σ' H', Ex B1 B' → P es (i + 1) B' O' G' → Sta K B' O' G' σ' H' → N σ' H') → g v σ1 H1 fun σ2 H2 => tu { D with nx := N, ct := N, bk := D.nx } σ2 H2)
    (hd : ∀ es B1 O1 G1 σ1 H1, Ex B B1 → P es es.length B1 O1 G1 → Sta K B1 O1 G1 σ1 H1 → D.nx σ1 H1) : tFor wi g tu D σ H := by
  refine hI B σ H (Ex.refl _) s _ fun J es B2 O2 H2 e2 hT w2 gv => ?_
  obtain ⟨n, G0, Y, hn, wk, hG0, hY⟩ := gv
  refine for_it wk (fun i σ' H' => ∃ B' O' G', Ex B2 B' ∧ P es i B' O' G' ∧ Sta K B' O' G' σ' H') ⟨B2, O2, G, Ex.refl _, h0 es O2 B2 e2 hT, ⟨w2, s.s.ex e2⟩⟩ (fun i σ' H' _ ⟨B', O', G', e', p', s'⟩ => hG0 B' O' H' e' s'.w) ?_ ?_
  · rintro i x σ' H3 H4 hi ⟨B3, O3, G3, e3, p3, s3⟩ y
    obtain ⟨e, B4, hie, e4, w4, dx⟩ := hY i H3 x H4 B3 _ e3 s3.w hi y
    refine hs es i e B4 O3 G3 σ' H4 x hie ((e2.trans e3).trans e4) (mono _ _ _ _ _ _ e4 p3) ⟨w4, s3.s.ex e4⟩ dx _ fun B' O' G' σ2 H5 e5 p5 s5 => ⟨B', O', G', (e3.trans e4).trans e5, p5, s5⟩
  · rintro σ' H3 ⟨B3, O3, G3, e3, p3, s3⟩
    exact hd es B3 O3 G3 σ' H3 (e2.trans e3) (by rw [← hn]; exact p3) s3
theorem qx_for {wi : TI} {g : TG} {T : List PyData → Hp → Prop} (s : Sta K B O G σ H) (hI : EvIX K B O G wi T) (P : List PyData → Nat → Hp → Hp → List SD → Prop) (mono : ∀ es i B1 B2 O1 G1, Ex B1 B2 → P es i B1 O1 G1 → P es i B2 O1 G1)
    (h0 : ∀ es O' B', Ex B B' → T es O' → P es 0 B' O' G)
    (hs : ∀ es i e B1 O1 G1 σ1 H1 v, es[i]? = some e → Ex B B1 → P es i B1 O1 G1 → Sta K B1 O1 G1 σ1 H1 → Dt K B1 v e → ∀ N : L2.St → Hp → Prop, (∀ B' O' G' σ' H', Ex B1 B' → P es (i + 1) B' O' G' → Sta K B' O' G' σ' H' → N σ' H') → g v σ1 H1 fun σ2 H2 => tu { D with nx := N, ct := N, bk := tz D } σ2 H2)
    (hd : ∀ es B1 O1 G1 σ1 H1, Ex B B1 → P es es.length B1 O1 G1 → Sta K B1 O1 G1 σ1 H1 → tz D σ1 H1) : tSeq (tFor wi g tu) tz D σ H := sx_for (D := { D with nx := tz D }) s hI P mono h0 hs hd
theorem ex_slL {P : Int → Hp → Prop} (h : EvD K B O G te (.list ds)) (h2 : EvX K B O G th (fun d O' => ∃ r : Int, d = .int r ∧ P r O')) : EvX K B O G (tSl (rSlL K) te tNoPart (tPart th)) (fun d O' => ∃ r : Int, d = .list (cutX ds none (some r)) ∧ P r O') := fun B1 σ H e1 s Q q =>
  h B1 O σ H e1 (Ex.refl _) s _ fun v B2 H2 e2 w2 d2 => h2 B2 σ H2 (e1.trans e2) (s.ex e2 w2) _ fun u d B4 O4 H4 e4 ⟨r, ed, hr⟩ w4 du => by
    subst ed
    obtain ⟨a, xs, rfl, k1, k2⟩ := dp_lst d2
    have k1' := e4 _ _ k1
    have k2' := dps_ex e4 _ _ k2
    exact ⟨r, dp_int du, a, xs, rfl, .inl (.inl (w4.b _ _ k1')), fun p hp => q _ _ (upd B4 p _) O4 _ ((e2.trans e4).trans (Ex.new (w4.fb hp))) ⟨r, rfl, hr⟩ (w4.newB hp) (.lst upd_same (dps_ex (Ex.new (w4.fb hp)) _ _ (cut_dps k2')))⟩
/-- an owned list compared -/
theorem ev_eqO {l : Addr} {vs : List V} {e : PyData} {b : Bool} (hg : G[i]? = some (.val (.ref l))) (ho : O l = some (.lst vs)) (hv : DtAll K B vs ds) (hb : EvD K B O G tb e) (s1 : SeqAt.shaped (.list ds) = true) (s2 : SeqAt.shaped e = true) (h : PyData.eqv (.list ds) e = b) : EvD K B O G (tOp (rEqD K) (tVar i) tb) (.bool b) := fun B1 O1 σ H e1 o s Q q => by
  obtain ⟨sv, h1, h2⟩ := s.s.get hg
  have h3 : sv = some (.ref l) := h2
  subst h3
  refine ⟨_, h1, ?_⟩
  refine hb B1 O1 σ H e1 o s _ fun v B2 H2 e2 w2 d2 => ?_
  have hl : H2 l = some (.lst vs) := w2.o _ _ (o _ _ ho)
  refine ⟨.list ds, e, .lst (.inl (.inl hl)) (dt_dps _ _ (dps_ex ((e1.trans e2).trans w2.b) _ _ hv)), dt_dp _ _ (dp_ex w2.b _ _ d2), s1, s2, ?_⟩
  rw [h]
  exact q _ B2 H2 e2 w2 (.bl _)
theorem ev_neO {l : Addr} {vs : List V} {e : PyData} {b : Bool} (hg : G[i]? = some (.val (.ref l))) (ho : O l = some (.lst vs)) (hv : DtAll K B vs ds) (hb : EvD K B O G tb e) (s1 : SeqAt.shaped (.list ds) = true) (s2 : SeqAt.shaped e = true) (h : (!PyData.eqv (.list ds) e) = b) : EvD K B O G (tOp (rNeD K) (tVar i) tb) (.bool b) := fun B1 O1 σ H e1 o s Q q => by
  obtain ⟨sv, h1, h2⟩ := s.s.get hg
  have h3 : sv = some (.ref l) := h2
  subst h3
  refine ⟨_, h1, ?_⟩
  refine hb B1 O1 σ H e1 o s _ fun v B2 H2 e2 w2 d2 => ?_
  have hl : H2 l = some (.lst vs) := w2.o _ _ (o _ _ ho)
  refine ⟨.list ds, e, .lst (.inl (.inl hl)) (dt_dps _ _ (dps_ex ((e1.trans e2).trans w2.b) _ _ hv)), dt_dp _ _ (dp_ex w2.b _ _ d2), s1, s2, ?_⟩
  rw [h]
  exact q _ B2 H2 e2 w2 (.bl _)
end
end DL
namespace PT
open PySem DL
theorem good_int {i : Int} : good (.int i) = true := by simp [good, flatD, SeqAt.shaped, PyData.canLay0, PyData.depth]
theorem good_none : good .none = true := by simp [good, flatD, SeqAt.shaped, PyData.canLay0, PyData.depth]
theorem good_str {x : Str} (h : PyData.strOk x = true) : good (.str x) = true := by simp [good, flatD, SeqAt.shaped, PyData.canLay0, PyData.depth, h]
theorem good_parts {d : PyData} (h : good d = true) : flatD d = true ∧ d.canLay0 = true ∧ d.depth = 0 := by
  unfold good at h
  rw [Bool.and_eq_true] at h
  refine ⟨h.1, PySem.SeqAt.canLay_of_shaped h.2, ?_⟩
  cases d with
  | none => simp [PyData.depth]
  | bool => simp [PyData.depth]
  | int => simp [PyData.depth]
  | str => simp [PyData.depth]
  | list => simp [flatD] at h
  | tuple => simp [flatD] at h
  | dict => simp [flatD] at h
/-- data that can be compared, at most n deep -/
def Lay (n : Nat) (d : PyData) : Prop := d.canLay0 = true ∧ d.depth ≤ n
theorem Lay.sh {n : Nat} {d : PyData} (h : Lay n d) (hn : n ≤ 64) : SeqAt.shaped d = true := by
  unfold SeqAt.shaped
  rw [h.1, decide_eq_true (Nat.le_trans h.2 hn)]
  rfl
theorem Lay.mono {n m : Nat} {d : PyData} (h : Lay n d) (l : n ≤ m) : Lay m d := ⟨h.1, Nat.le_trans h.2 l⟩
theorem lay_all {n : Nat} : ∀ {ds : List PyData}, (∀ d, d ∈ ds → Lay n d) → PyData.canLayAll0 ds = true ∧ PyData.depthAll ds ≤ n
  | [], _ => by simp [PyData.canLayAll0, PyData.depthAll]
  | d :: ds, h => by
    obtain ⟨h1, h2⟩ := lay_all (ds := ds) fun x hx => h x (List.mem_cons_of_mem _ hx)
    obtain ⟨h3, h4⟩ := h d List.mem_cons_self
    rw [PyData.canLayAll0, h1, h3, PyData.depthAll]
    exact ⟨rfl, by omega⟩
theorem lay_tup {n : Nat} {ds : List PyData} (h : ∀ d, d ∈ ds → Lay n d) : Lay (n + 1) (.tuple ds) := by
  obtain ⟨h1, h2⟩ := lay_all h
  exact ⟨by rw [PyData.canLay0]; exact h1, by rw [PyData.depth]; omega⟩
theorem lay_lst {n : Nat} {ds : List PyData} (h : ∀ d, d ∈ ds → Lay n d) : Lay (n + 1) (.list ds) := by
  obtain ⟨h1, h2⟩ := lay_all h
  exact ⟨by rw [PyData.canLay0]; exact h1, by rw [PyData.depth]; omega⟩
theorem lay_good {n : Nat} {d : PyData} (h : good d = true) : Lay n d := by
  obtain ⟨_, h2, h3⟩ := good_parts h
  exact ⟨h2, by omega⟩
theorem lay_good' {n : Nat} {ds : List PyData} (h : ds.all good = true) {d : PyData} (hd : d ∈ ds) : Lay n d := lay_good (List.all_eq_true.mp h d hd)
theorem lay_int {n : Nat} {i : Int} : Lay n (.int i) := lay_good good_int
theorem word_ok {t : Part} (h : ok0 t) : PyData.strOk (word t) = true := by
  cases t with
  | row => exact (by decide +kernel : PyData.strOk ("row" : Str) = true)
  | choice => exact (by decide +kernel : PyData.strOk ("choice" : Str) = true)
  | leaf x fs =>
    have hx := h.1
    simp only [isLeafW, Bool.or_eq_true] at hx
    show PyData.strOk x = true
    rcases hx with (e | e) | e <;> (have e' := eq_of_beq e; subst e'; decide +kernel)
  | one x fs p =>
    have hx := h.1
    simp only [isOneW, Bool.or_eq_true] at hx
    show PyData.strOk x = true
    rcases hx with (((e | e) | e) | e) | e <;> (have e' := eq_of_beq e; subst e'; decide +kernel)
theorem lay_enc : ∀ {h : Nat} {t : Part}, ok h t → Lay (3 * h) (enc t)
  | 0, _, o => o.elim
  | h + 1, t, o => by
    have ih : ∀ p, p ∈ kids t → Lay (3 * h) (enc p) := fun p hp => lay_enc (o.2 p hp)
    have hw : ∀ n, Lay n (.str (word t)) := fun n => lay_good (good_str (word_ok o.1))
    rw [enc_eq]
    have h0 : Lay (3 * h + 2 + 1) (.tuple (.str (word t) :: fields t)) := by
      refine lay_tup fun d hd => ?_
      rw [List.mem_cons] at hd
      rcases hd with e | hd
      · subst e
        exact hw _
      · cases t with
        | leaf x fs => exact lay_good' o.1.2.2 hd
        | row ps =>
          have e : d = .tuple (ps.map enc) := by simpa [fields] using hd
          subst e
          refine (lay_tup (n := 3 * h) fun d hd => ?_).mono (by omega)
          obtain ⟨p, hp, rfl⟩ := List.mem_map.mp hd
          exact ih p hp
        | choice m os =>
          have e : d = m ∨ d = .tuple (os.map fun o => .tuple [.int o.1, enc o.2]) := by simpa [fields] using hd
          rcases e with e | e
          · subst e
            exact lay_good o.1.1
          · subst e
            refine lay_tup (n := 3 * h + 1) fun d hd => ?_
            obtain ⟨p, hp, rfl⟩ := List.mem_map.mp hd
            refine lay_tup (n := 3 * h) fun d hd => ?_
            have e : d = .int p.1 ∨ d = enc p.2 := by simpa using hd
            rcases e with e | e
            · subst e
              exact lay_int
            · subst e
              exact ih p.2 (List.mem_map.mpr ⟨p, hp, rfl⟩)
        | one x fs p =>
          have e : d ∈ fs ∨ d = enc p := by simpa [fields] using hd
          rcases e with e | e
          · exact lay_good' o.1.2.2.1 e
          · subst e
            exact (ih p (by simp [kids])).mono (by omega)
    exact h0.mono (by omega)
theorem lay_opts {h : Nat} {os : List (Int × Part)} (ho : ∀ o, o ∈ os → ok h o.2) : Lay (3 * h + 2) (.list (os.map fun o => .tuple [.int o.1, enc o.2])) := by
  refine lay_lst (n := 3 * h + 1) fun d hd => ?_
  obtain ⟨p, hp, rfl⟩ := List.mem_map.mp hd
  refine lay_tup (n := 3 * h) fun d hd => ?_
  have e : d = .int p.1 ∨ d = enc p.2 := by simpa using hd
  rcases e with e | e
  · subst e
    exact lay_int
  · subst e
    exact lay_enc (ho p hp)
theorem lay_path {p : List Int} : Lay 1 (encP p) := by
  refine lay_tup (n := 0) fun d hd => ?_
  obtain ⟨i, _, rfl⟩ := List.mem_map.mp hd
  exact lay_int
theorem lay_places {h : Nat} {t : Part} (ho : ok h t) (hh : h ≤ 7) : Lay 24 (.list ((subs h t).map encQ)) := by
  refine lay_lst (n := 23) fun d hd => ?_
  obtain ⟨q, hq, rfl⟩ := List.mem_map.mp hd
  refine lay_tup (n := 22) fun d hd => ?_
  have e : d = encP q.1 ∨ d = enc q.2 := by simpa using hd
  rcases e with e | e
  · subst e
    exact lay_path.mono (by omega)
  · subst e
    exact (lay_enc (ok_get ho (subs_get (p := q.1) (c := q.2) hq))).mono (by omega)
end PT

set_option Elab.async false
set_option linter.all false
set_option maxRecDepth 100000
set_option maxHeartbeats 4000000
/-! The text of the program by places. -/
namespace Toy
open PySem PySem.Spec PyProof.Rows L2 StX DL PT

def topS (i : Nat) : Stmt := PySem.Challenge.pw_withinlimits_k03_sizes_and_places_of_par.main.body.getD i (.Pass ⟨0, 0, 0, 0⟩)
abbrev s_size_of : Stmt := topS 2
abbrev N_sc_size_of : List Str := ["part", "word", "sizes", "inner", "size"]
theorem sc_size_of : FnScope N_sc_size_of ["part"] (defScope s_size_of) := ⟨rfl, rfl, rfl, by decide +kernel, rfl, by decide +kernel, by decide +kernel⟩
abbrev s_parts_of : Stmt := topS 3
abbrev N_sc_parts_of : List Str := ["part", "option"]
theorem sc_parts_of : FnScope N_sc_parts_of ["part"] (defScope s_parts_of) := ⟨rfl, rfl, rfl, by decide +kernel, rfl, by decide +kernel, by decide +kernel⟩
abbrev s_with_parts : Stmt := topS 4
abbrev N_sc_with_parts : List Str := ["part", "parts", "options", "option", "inner"]
theorem sc_with_parts : FnScope N_sc_with_parts ["part", "parts"] (defScope s_with_parts) := ⟨rfl, rfl, rfl, by decide +kernel, rfl, by decide +kernel, by decide +kernel⟩
abbrev s_subparts : Stmt := topS 5
abbrev N_sc_subparts : List Str := ["part", "pairs", "index", "inner", "path", "one"]
theorem sc_subparts : FnScope N_sc_subparts ["part"] (defScope s_subparts) := ⟨rfl, rfl, rfl, by decide +kernel, rfl, by decide +kernel, by decide +kernel⟩
abbrev s_part_at : Stmt := topS 6
abbrev N_sc_part_at : List Str := ["part", "path", "index"]
theorem sc_part_at : FnScope N_sc_part_at ["part", "path"] (defScope s_part_at) := ⟨rfl, rfl, rfl, by decide +kernel, rfl, by decide +kernel, by decide +kernel⟩
abbrev s_replaced : Stmt := topS 7
abbrev N_sc_replaced : List Str := ["part", "path", "other", "parts"]
theorem sc_replaced : FnScope N_sc_replaced ["part", "path", "other"] (defScope s_replaced) := ⟨rfl, rfl, rfl, by decide +kernel, rfl, by decide +kernel, by decide +kernel⟩
abbrev s_law_pool : Stmt := topS 9
abbrev N_sc_law_pool : List Str := ["script", "k", "cell", "size", "seed"]
theorem sc_law_pool : FnScope N_sc_law_pool ["script", "k"] (defScope s_law_pool) := ⟨rfl, rfl, rfl, by decide +kernel, rfl, by decide +kernel, by decide +kernel⟩
abbrev s_law_draw : Stmt := topS 10
abbrev N_sc_law_draw : List Str := ["pool", "count", "found"]
theorem sc_law_draw : FnScope N_sc_law_draw ["pool", "count"] (defScope s_law_draw) := ⟨rfl, rfl, rfl, by decide +kernel, rfl, by decide +kernel, by decide +kernel⟩
abbrev s_law_children : Stmt := topS 11
abbrev N_sc_law_children : List Str := ["part", "option"]
theorem sc_law_children : FnScope N_sc_law_children ["part"] (defScope s_law_children) := ⟨rfl, rfl, rfl, by decide +kernel, rfl, by decide +kernel, by decide +kernel⟩
abbrev s_law_size : Stmt := topS 12
abbrev N_sc_law_size : List Str := ["part", "sizes", "inner", "size"]
theorem sc_law_size : FnScope N_sc_law_size ["part"] (defScope s_law_size) := ⟨rfl, rfl, rfl, by decide +kernel, rfl, by decide +kernel, by decide +kernel⟩
abbrev s_law_leaf : Stmt := topS 13
abbrev N_sc_law_leaf : List Str := ["pool", "how", "told", "kind", "low"]
theorem sc_law_leaf : FnScope N_sc_law_leaf ["pool", "how", "told"] (defScope s_law_leaf) := ⟨rfl, rfl, rfl, by decide +kernel, rfl, by decide +kernel, by decide +kernel⟩
abbrev s_law_options : Stmt := topS 14
abbrev N_sc_law_options : List Str := ["pool", "room", "depth", "limits", "told", "options", "number"]
theorem sc_law_options : FnScope N_sc_law_options ["pool", "room", "depth", "limits", "told"] (defScope s_law_options) := ⟨rfl, rfl, rfl, by decide +kernel, rfl, by decide +kernel, by decide +kernel⟩
abbrev s_law_counted : Stmt := topS 15
abbrev N_sc_law_counted : List Str := ["pool", "how", "room", "depth", "limits", "told", "most", "ahead", "inner"]
theorem sc_law_counted : FnScope N_sc_law_counted ["pool", "how", "room", "depth", "limits", "told"] (defScope s_law_counted) := ⟨rfl, rfl, rfl, by decide +kernel, rfl, by decide +kernel, by decide +kernel⟩
abbrev s_law_within : Stmt := topS 16
abbrev N_sc_law_within : List Str := ["pool", "how", "room", "depth", "limits", "most", "limit", "rest"]
theorem sc_law_within : FnScope N_sc_law_within ["pool", "how", "room", "depth", "limits"] (defScope s_law_within) := ⟨rfl, rfl, rfl, by decide +kernel, rfl, by decide +kernel, by decide +kernel⟩
abbrev s_law_part : Stmt := topS 17
abbrev N_sc_law_part : List Str := ["pool", "room", "depth", "limits", "told", "how", "kind", "parts", "turn"]
theorem sc_law_part : FnScope N_sc_law_part ["pool", "room", "depth", "limits", "told"] (defScope s_law_part) := ⟨rfl, rfl, rfl, by decide +kernel, rfl, by decide +kernel, by decide +kernel⟩
abbrev s_law_changed : Stmt := topS 18
abbrev N_sc_law_changed : List Str := ["part", "path", "other", "inner", "option", "below"]
theorem sc_law_changed : FnScope N_sc_law_changed ["part", "path", "other"] (defScope s_law_changed) := ⟨rfl, rfl, rfl, by decide +kernel, rfl, by decide +kernel, by decide +kernel⟩
abbrev s_law_paths : Stmt := topS 19
abbrev N_sc_law_paths : List Str := ["part", "found", "inner", "at", "path", "below"]
theorem sc_law_paths : FnScope N_sc_law_paths ["part"] (defScope s_law_paths) := ⟨rfl, rfl, rfl, by decide +kernel, rfl, by decide +kernel, by decide +kernel⟩
abbrev s_law : Stmt := topS 20
abbrev N_sc_law : List Str := ["script", "k", "pool", "part", "other", "places", "told", "path", "below", "made"]
theorem sc_law : FnScope N_sc_law ["script"] (defScope s_law) := ⟨rfl, rfl, rfl, by decide +kernel, rfl, by decide +kernel, by decide +kernel⟩

/-- the built-ins that the text calls, and its constant -/
structure Txt (K : PySem.W.Frag) (mg : Str → Option Value) (aH : Addr) : Prop where
  b_len : mg "len" = none
  b_list : mg "list" = none
  b_tuple : mg "tuple" = none
  b_int : mg "int" = none
  b_abs : mg "abs" = none
  b_sum : mg "sum" = none
  b_all : mg "all" = none
  b_max : mg "max" = none
  b_min : mg "min" = none
  b_bool : mg "bool" = none
  b_range : mg "range" = none
  b_enumerate : mg "enumerate" = none
  b_zip : mg "zip" = none
  b_isinstance : mg "isinstance" = none
  g_HOLDERS : mg "HOLDERS" = some (.ref aH)
  t_HOLDERS : ∀ H : Hp, SqT K H aH [.str "times", .str "counted", .str "within", .str "fill", .str "if left"]
end Toy

set_option Elab.async false
set_option linter.all false
set_option maxRecDepth 100000
set_option maxHeartbeats 4000000
namespace Toy
open PySem PySem.Spec PyProof.Rows L2 StX DL PT


section
variable {K : PySem.W.Frag} {B O : Hp} {G : List SD} {i : Nat} {t : Part}
theorem ev_enc (h : G[i]? = some (.dat (enc t))) : EvD K B O G (tVar i) (.tuple (.str (word t) :: fields t)) := ev_is (ev_var h) (enc_eq t)
theorem ev_word (h : G[i]? = some (.dat (enc t))) : EvD K B O G (tOp (rIxT K) (tVar i) (tC (.int 0))) (.str (word t)) := ev_op (ev_enc h) ev_int (rd_ixT at0)
theorem et_word {x : Str} (h : G[i]? = some (.dat (enc t))) : EvT K B O G (tTest (tOp rEq (tOp (rIxT K) (tVar i) (tC (.int 0))) (tC (.str x)))) (word t == x) := et_test (ev_op (ev_word h) ev_str rd_eqStr)
end
theorem in_strs {x : Str} {ys : List Str} : inV (.str x) (ys.map V.str) = ys.any (x == ·) := by
  induction ys with
  | nil => rfl
  | cons y ys ih =>
    show ((y == x) || inV (.str x) (ys.map V.str)) = ((x == y) || ys.any (x == ·))
    rw [ih, show (y == x) = (x == y) from Bool.eq_iff_iff.mpr ⟨fun h => beq_iff_eq.mpr (eq_of_beq h).symm, fun h => beq_iff_eq.mpr (eq_of_beq h).symm⟩]

section
variable {P : Program} {w : World} {K : PySem.W.Frag} {mg : Str → Option Value} {base : Heap} {aH : Addr}


def R_kids (ds es : List PyData) : Prop := ∃ t, ok0 t ∧ ds = [enc t] ∧ es = (kids t).map enc
theorem ok_parts_of {f : Addr} {fd : FuncData} (T : Txt K mg aH) (a : At K mg "parts_of" s_parts_of ["part"] f fd) : FnOk P w K mg base CX0 2 f fd ["part"] (SpL K R_kids) := by
  refine ok_fnL a.fn sc_parts_of (by rintro ds d ⟨t, _, rfl, _⟩; rfl) fun cdv A outer s H0 E hr ds d ⟨t, ho, e1, e2⟩ => ?_
  subst e1 e2
  refine ⟨_, (pss_cons (ps_if (pt_cmpR op_eq (pe_ix (ix_tupK K) (pv 0) pe_int (fun _ _ => rfl)) pe_str (nomark _)) (pss_one (ps_ret (pe_callTy (call_listK K) (by rfl) T.b_list (by decide +kernel) (pa_cons (pe_ix (ix_tupK K) (pv 0) pe_int (fun _ _ => rfl)) pa_nil)))) pss_nil)
    (pss_cons (ps_if (pt_cmpR op_eq (pe_ix (ix_tupK K) (pv 0) pe_int (fun _ _ => rfl)) pe_str (nomark _)) (pss_one (ps_ret (pe_lc (own := [("option", 1)]) (by rfl) sc_parts_of.nd (pi_tupK K (pe_ix (ix_tupK K) (pv 0) pe_int (fun _ _ => rfl))) (blkOk_by (own := [("option", 1)]) (N := N_sc_parts_of) (sc := defScope s_parts_of) (by decide +kernel)) (fun _ _ _ _ _ => (pg_name (i := 1) sc_parts_of.nd rfl (Or.inl rfl))) (fun _ _ _ _ _ => pts_nil) (fun _ _ _ _ _ => (pe_ix (ix_tupK K) (pv 1) pe_int (fun _ _ => rfl)))))) pss_nil)
    (pss_cons (ps_if (pt_cmpR (op_inK K) (pe_ix (ix_tupK K) (pv 0) pe_int (fun _ _ => rfl)) (pe_glob (v := .ref aH) (by rfl) T.g_HOLDERS rfl) (by rfl)) (pss_one (ps_ret (pe_lst (pa_cons (pe_ix (ix_tupK K) (pv 0) (pe_un un_neg pe_int) (fun _ _ => rfl)) pa_nil)))) pss_nil)
    (pss_one (ps_ret (pe_lst pa_nil)))))), fun B O σ H Q st q => ?_⟩
  refine q_when st (et_word rfl) (fun h1 B1 H1 x1 st => ?_) (fun h1 B1 H1 x1 st => ?_)
  · -- a row
    obtain ⟨ps, rfl⟩ := row_of ho h1
    refine s_retL st (el_listT (ev_op (ev_enc rfl) ev_int (rd_ixT at1))) fun p ws B2 H2 x2 n2 w2 d2 => ?_
    exact q p ws B2 H2 (x1.trans x2) n2 w2 d2
  refine q_when st (et_word rfl) (fun h2 B2 H2 x2 st => ?_) (fun h2 B2 H2 x2 st => ?_)
  · obtain ⟨m, os, rfl⟩ := choice_of ho h2
    refine s_retL st (el_map os (fun o => .tuple [.int o.1, enc o.2]) (fun o => enc o.2) (fun o => [.dat (enc (.choice m os)), .dat (.tuple [.int o.1, enc o.2])]) (ei_tup (ev_op (ev_enc rfl) ev_int (rd_ixT at2))) (by have := ho.2.2; omega)
      (fun o _ => eg_nameW (by decide)) (fun o _ => ev_op (ev_var rfl) ev_int (rd_ixT at1))) fun p ws B3 H3 x3 n3 w3 d3 => ?_
    rw [show os.map (fun o => enc o.2) = (kids (.choice m os)).map enc by simp [kids]] at d3
    exact q p ws B3 H3 ((x1.trans x2).trans x3) n3 w3 d3
  refine q_when st (et_test (ev_op (ev_word rfl) (ev_c fun H => .tup (T.t_HOLDERS H) (.cons (.str _) (.cons (.str _) (.cons (.str _) (.cons (.str _) (.cons (.str _) .nil)))))) (rd_inT rfl rfl rfl))) (fun h3 B3 H3 x3 st => ?_) (fun h3 B3 H3 x3 st => ?_)
  · have h3' : isOneW (word t) = true := by
      rw [← h3]
      show isOneW (word t) = inV (.str (word t)) (([("times" : Str), "counted", "within", "fill", "if left"]).map V.str)
      rw [in_strs]
      simp only [isOneW, List.any_cons, List.any_nil, Bool.or_false, Bool.or_assoc]
    obtain ⟨x, fs, p, rfl⟩ := one_of ho h1 h2 (oneW_leaf h3')
    refine s_retL st (el_lst (ea_cons (ev_op (ev_enc rfl) (ev_un ev_int) (rd_ixT (ds := .str (word (.one x fs p)) :: fields (.one x fs p)) (show atI ((PyData.str x :: fs) ++ [enc p]) (-1) = some (enc p) from at_last))) ea_nil) (by simp)) fun pp ws B4 H4 x4 n4 w4 d4 => ?_
    exact q pp ws B4 H4 (((x1.trans x2).trans x3).trans x4) n4 w4 d4
  · have h3' : isOneW (word t) = false := by
      rw [← h3]
      show isOneW (word t) = inV (.str (word t)) (([("times" : Str), "counted", "within", "fill", "if left"]).map V.str)
      rw [in_strs]
      simp only [isOneW, List.any_cons, List.any_nil, Bool.or_false, Bool.or_assoc]
    obtain ⟨x, fs, rfl⟩ := leaf_of ho h1 h2 h3'
    refine s_retL st (el_lst ea_nil (by decide)) fun pp ws B4 H4 x4 n4 w4 d4 => ?_
    exact q pp ws B4 H4 (((x1.trans x2).trans x3).trans x4) n4 w4 d4
end
end Toy

set_option Elab.async false
set_option linter.all false
set_option maxRecDepth 100000
set_option maxHeartbeats 4000000
namespace Toy
open PySem PySem.Spec PyProof.Rows L2 StX DL PT
section
variable {P : Program} {w : World} {K : PySem.W.Frag} {mg : Str → Option Value} {base : Heap} {aH : Addr}


theorem ok_law_children {f : Addr} {fd : FuncData} (T : Txt K mg aH) (a : At K mg "_law_children" s_law_children ["part"] f fd) : FnOk P w K mg base CX0 2 f fd ["part"] (SpL K R_kids) := by
  refine ok_fnL a.fn sc_law_children (by rintro ds d ⟨t, _, rfl, _⟩; rfl) fun cdv A outer s H0 E hr ds d ⟨t, ho, e1, e2⟩ => ?_
  subst e1 e2
  refine ⟨_, (pss_cons (ps_if (pt_cmpR op_eq (pe_ix (ix_tupK K) (pv 0) pe_int (fun _ _ => rfl)) pe_str (nomark _)) (pss_one (ps_ret (pe_callTy (call_listK K) (by rfl) T.b_list (by decide +kernel) (pa_cons (pe_ix (ix_tupK K) (pv 0) pe_int (fun _ _ => rfl)) pa_nil)))) pss_nil)
    (pss_cons (ps_if (pt_cmpR op_eq (pe_ix (ix_tupK K) (pv 0) pe_int (fun _ _ => rfl)) pe_str (nomark _)) (pss_one (ps_ret (pe_lc (own := [("option", 1)]) (by rfl) sc_law_children.nd (pi_tupK K (pe_ix (ix_tupK K) (pv 0) pe_int (fun _ _ => rfl))) (blkOk_by (own := [("option", 1)]) (N := N_sc_law_children) (sc := defScope s_law_children) (by decide +kernel)) (fun _ _ _ _ _ => (pg_name (i := 1) sc_law_children.nd rfl (Or.inl rfl))) (fun _ _ _ _ _ => pts_nil) (fun _ _ _ _ _ => (pe_ix (ix_tupK K) (pv 1) pe_int (fun _ _ => rfl)))))) pss_nil)
    (pss_cons (ps_if (pt_cmpR (op_inK K) (pe_ix (ix_tupK K) (pv 0) pe_int (fun _ _ => rfl)) (pe_lst (pa_cons pe_str (pa_cons pe_str (pa_cons pe_str pa_nil)))) (by rfl)) (pss_one (ps_ret (pe_lst pa_nil))) pss_nil)
    (pss_one (ps_ret (pe_lst (pa_cons (pe_ix (ix_tupK K) (pv 0) (pe_un un_neg pe_int) (fun _ _ => rfl)) pa_nil))))))), fun B O σ H Q st q => ?_⟩
  refine q_when st (et_word rfl) (fun h1 B1 H1 x1 st => ?_) (fun h1 B1 H1 x1 st => ?_)
  · obtain ⟨ps, rfl⟩ := row_of ho h1
    refine s_retL st (el_listT (ev_op (ev_enc rfl) ev_int (rd_ixT at1))) fun p ws B2 H2 x2 n2 w2 d2 => ?_
    exact q p ws B2 H2 (x1.trans x2) n2 w2 d2
  refine q_when st (et_word rfl) (fun h2 B2 H2 x2 st => ?_) (fun h2 B2 H2 x2 st => ?_)
  · obtain ⟨m, os, rfl⟩ := choice_of ho h2
    refine s_retL st (el_map os (fun o => .tuple [.int o.1, enc o.2]) (fun o => enc o.2) (fun o => [.dat (enc (.choice m os)), .dat (.tuple [.int o.1, enc o.2])]) (ei_tup (ev_op (ev_enc rfl) ev_int (rd_ixT at2))) (by have := ho.2.2; omega)
      (fun o _ => eg_nameW (by decide)) (fun o _ => ev_op (ev_var rfl) ev_int (rd_ixT at1))) fun p ws B3 H3 x3 n3 w3 d3 => ?_
    rw [show os.map (fun o => enc o.2) = (kids (.choice m os)).map enc by simp [kids]] at d3
    exact q p ws B3 H3 ((x1.trans x2).trans x3) n3 w3 d3
  refine q_when st (et_test (ev_op (ev_word rfl) (ev_lst (ea_cons ev_str (ea_cons ev_str (ea_cons ev_str ea_nil))) (by decide)) (rd_inL rfl rfl rfl))) (fun h3 B3 H3 x3 st => ?_) (fun h3 B3 H3 x3 st => ?_)
  · have h3' : isLeafW (word t) = true := by
      rw [← h3]
      show isLeafW (word t) = inV (.str (word t)) (([("cell" : Str), "need", "pad"]).map V.str)
      rw [in_strs]
      simp only [isLeafW, List.any_cons, List.any_nil, Bool.or_false, Bool.or_assoc]
    obtain ⟨x, fs, rfl⟩ := leaf_of ho h1 h2 (leafW_one h3')
    refine s_retL st (el_lst ea_nil (by decide)) fun pp ws B4 H4 x4 n4 w4 d4 => ?_
    exact q pp ws B4 H4 (((x1.trans x2).trans x3).trans x4) n4 w4 d4
  · have h3' : isLeafW (word t) = false := by
      rw [← h3]
      show isLeafW (word t) = inV (.str (word t)) (([("cell" : Str), "need", "pad"]).map V.str)
      rw [in_strs]
      simp only [isLeafW, List.any_cons, List.any_nil, Bool.or_false, Bool.or_assoc]
    obtain ⟨x, fs, p, rfl⟩ := one_of ho h1 h2 h3'
    refine s_retL st (el_lst (ea_cons (ev_op (ev_enc rfl) (ev_un ev_int) (rd_ixT (ds := .str (word (.one x fs p)) :: fields (.one x fs p)) (show atI ((PyData.str x :: fs) ++ [enc p]) (-1) = some (enc p) from at_last))) ea_nil) (by simp)) fun pp ws B4 H4 x4 n4 w4 d4 => ?_
    exact q pp ws B4 H4 (((x1.trans x2).trans x3).trans x4) n4 w4 d4


def R_size (h : Nat) (ds : List PyData) (d : PyData) : Prop := ∃ t, ok h t ∧ ds = [enc t] ∧ d = encN (size h t)
theorem in_none {ss : List (Option Int)} : inV .non ((ss.map encN).map fv) = decide (none ∈ ss) := by
  induction ss with
  | nil => rfl
  | cons s ss ih =>
    show (eqV (fv (encN s)) .non || inV .non ((ss.map encN).map fv)) = _
    rw [ih]
    cases s with
    | none => simp [encN, fv, eqV]
    | some n => simp [encN, fv, eqV]
theorem flat_encN {ss : List (Option Int)} : (ss.map encN).all flatD = true := by
  rw [List.all_map, List.all_eq_true]
  intro s _
  cases s <;> rfl
theorem ints_of {ss : List (Option Int)} (h : ¬ none ∈ ss) : ss.map encN = (ss.map fun s => s.getD 0).map PyData.int := by
  rw [List.map_map]
  refine List.map_congr_left fun s hs => ?_
  cases s with
  | none => exact absurd hs h
  | some n => rfl
theorem head_some {ss : List (Option Int)} (h : ¬ none ∈ ss) (hl : 0 < ss.length) : ∃ n r, ss = some n :: r := by
  cases ss with
  | nil => simp at hl
  | cons s r =>
    cases s with
    | none => simp at h
    | some n => exact ⟨n, r, rfl⟩
theorem ok_size_of {f fp : Addr} {fd fdp : FuncData} (T : Txt K mg aH) (a : At K mg "size_of" s_size_of ["part"] f fd) (ap : At K mg "parts_of" s_parts_of ["part"] fp fdp) : ∀ h, FnOk P w K mg base CX0 (h + 3) f fd ["part"] (SpR K (R_size h))
  | 0 => SpR_false fun ds d ⟨t, o, _⟩ => o
  | h + 1 => by
    have C_parts_of := ap.cal (ok_parts_of (P := P) (w := w) (base := base) T ap)
    have C_size_of := a.cal (ok_size_of T a ap h)
    refine ok_fn a.fn sc_size_of (by rintro ds d ⟨t, _, rfl, _⟩; rfl) fun cdv A outer s H0 E hr ds d ⟨t, ho, e1, e2⟩ => ?_
    subst e1
    refine ⟨_, (pss_cons (ps_set (i := 1) sc_size_of.nd rfl (Or.inl rfl) (pe_ix (ix_tupK K) (pv 0) pe_int (fun _ _ => rfl)))
    (pss_cons (ps_if (pt_cmpR op_eq (pv 1) pe_str (nomark _)) (pss_one (ps_ret pe_int)) pss_nil)
    (pss_cons (ps_if (pt_cmpR op_eq (pv 1) pe_str (nomark _)) (pss_one (ps_ret pe_int)) pss_nil)
    (pss_cons (ps_if (pt_cmpR (op_notInK K) (pv 1) (pe_tup (pa_cons pe_str (pa_cons pe_str (pa_cons pe_str pa_nil)))) (by rfl)) (pss_one (ps_ret pe_non)) pss_nil)
    (pss_cons (ps_set (i := 2) sc_size_of.nd rfl (Or.inr rfl) (pe_lc (own := [("inner", 3)]) (by rfl) sc_size_of.nd (pi_listK K (pe_cal C_parts_of hr (by omega) (by rfl) (pa_cons (pv 0) pa_nil))) (blkOk_by (own := [("inner", 3)]) (N := N_sc_size_of) (sc := defScope s_size_of) (by decide +kernel)) (fun _ _ _ _ _ => (pg_name (i := 3) sc_size_of.nd rfl (Or.inl rfl))) (fun _ _ _ _ _ => pts_nil) (fun _ _ _ _ _ => (pe_cal C_size_of hr (by omega) (by rfl) (pa_cons (pv 3) pa_nil)))))
    (pss_cons (ps_if (pt_cmpR (op_inK K) pe_non (pv 2) (by rfl)) (pss_one (ps_ret pe_non)) pss_nil)
    (pss_cons (ps_if (pt_cmpR op_eq (pv 1) pe_str (nomark _)) (pss_one (ps_ret (pe_callB (cr_sumK K rfl) (by rfl) T.b_sum (by decide +kernel) (pa_cons (pv 2) pa_nil)))) pss_nil)
    (pss_cons (ps_if (pt_cmpR op_eq (pv 1) pe_str (nomark _)) (pss_one (ps_ret (pe_op op_mul (pe_ix (ix_tupK K) (pv 0) pe_int (fun _ _ => rfl)) (pe_ix (ix_listK K) (pv 2) pe_int (fun _ _ => rfl))))) pss_nil)
    (pss_one (ps_ret (pe_ifExp (pt_val (pe_callB (cr_allK K rfl) (by rfl) T.b_all (by decide +kernel) (pa_cons (pe_lc (own := [("size", 4)]) (by rfl) sc_size_of.nd (pi_listK K (pv 2)) (blkOk_by (own := [("size", 4)]) (N := N_sc_size_of) (sc := defScope s_size_of) (by decide +kernel)) (fun _ _ _ _ _ => (pg_name (i := 4) sc_size_of.nd rfl (Or.inl rfl))) (fun _ _ _ _ _ => pts_nil) (fun _ _ _ _ _ => (pe_cmpR op_eq (pv 4) (pe_ix (ix_listK K) (pv 2) pe_int (fun _ _ => rfl)) (nomark _)))) pa_nil))) (pe_op op_add pe_int (pe_ix (ix_listK K) (pv 2) pe_int (fun _ _ => rfl))) pe_non))))))))))), fun B O σ H Q st q => ?_⟩
    have es : size (h + 1) t = sizeK (word t) (fields t) ((kids t).map (size h)) := rfl
    refine q_asg st (ev_word rfl) fun v0 B0 H0 x0 d0 st => ?_
    refine q_when st (et_test (ev_op (ev_var rfl) ev_str rd_eqStr)) (fun h1 B1 H1 x1 st => ?_) (fun h1 B1 H1 x1 st => ?_)
    · refine s_ret st ev_int fun v B2 H2 x2 w2 d2 => ?_
      rw [e2, es, sizeK, if_pos (eq_of_beq h1)] at q
      exact q v B2 H2 ((x0.trans x1).trans x2) w2 d2
    refine q_when st (et_test (ev_op (ev_var rfl) ev_str rd_eqStr)) (fun h2 B2 H2 x2 st => ?_) (fun h2 B2 H2 x2 st => ?_)
    · refine s_ret st ev_int fun v B3 H3 x3 w3 d3 => ?_
      rw [e2, es, sizeK, if_neg (by simpa using h1), if_pos (eq_of_beq h2)] at q
      exact q v B3 H3 (((x0.trans x1).trans x2).trans x3) w3 d3
    rw [es, sizeK, if_neg (by simpa using h1), if_neg (by simpa using h2)] at e2
    refine q_when st (et_test (ev_op (ev_var rfl) (ev_tup (ea_cons ev_str (ea_cons ev_str (ea_cons ev_str ea_nil))) (by decide)) (rd_inT rfl rfl rfl))) (fun h3 B3 H3 x3 st => ?_) (fun h3 B3 H3 x3 st => ?_)
    · have h3' : ¬ (word t = "row" ∨ word t = "choice" ∨ word t = "times") := by
        have z : (!inV (.str (word t)) (([("row" : Str), "choice", "times"]).map V.str)) = true := h3
        rw [in_strs] at z
        simpa using z
      rw [if_neg h3'] at e2
      subst e2
      refine s_ret st ev_non fun v B4 H4 x4 w4 d4 => ?_
      exact q v B4 H4 ((((x0.trans x1).trans x2).trans x3).trans x4) w4 d4
    have h3' : word t = "row" ∨ word t = "choice" ∨ word t = "times" := by
      have z : (!inV (.str (word t)) (([("row" : Str), "choice", "times"]).map V.str)) = false := h3
      rw [in_strs] at z
      simp at z
      exact Decidable.or_iff_not_imp_left.mpr fun u1 => Decidable.or_iff_not_imp_left.mpr fun u2 => z u1 u2
    rw [if_pos h3'] at e2
    have hk := kids_len ho.1
    refine q_asg st (d := .list (((kids t).map (size h)).map encN)) ?_ fun v4 B4 H4 x4 d4 st => ?_
    · rw [List.map_map]
      exact ev_map (kids t) enc (encN ∘ size h) (fun c => [.dat (enc t), .dat (.str (word t)), .un, .dat (enc c), .un]) (ei_list (el_call (ea_cons (ev_var rfl) ea_nil) ⟨t, ho.1, rfl, rfl⟩).d) (by omega) (fun c _ => eg_nameW (by decide))
        (fun c hc => ev_call (ea_cons (ev_var rfl) ea_nil) ⟨c, ho.2 c hc, rfl, rfl⟩)
    generalize hss : (kids t).map (size h) = ss at e2 st d4
    refine q_when st (et_test (ev_op ev_non (ev_var rfl) (rd_inL rfl flat_encN in_none))) (fun h4 B5 H5 x5 st => ?_) (fun h4 B5 H5 x5 st => ?_)
    · rw [if_pos (of_decide_eq_true h4)] at e2
      subst e2
      refine s_ret st ev_non fun v B6 H6 x6 w6 d6 => ?_
      exact q v B6 H6 ((((((x0.trans x1).trans x2).trans x3).trans x4).trans x5).trans x6) w6 d6
    have hnn := of_decide_eq_false h4
    rw [if_neg hnn] at e2
    refine q_when st (et_test (ev_op (ev_var rfl) ev_str rd_eqStr)) (fun h5 B6 H6 x6 st => ?_) (fun h5 B6 H6 x6 st => ?_)
    · rw [if_pos (eq_of_beq h5)] at e2
      subst e2
      refine s_ret st (ev_cb (ea_cons (ev_is (ev_var rfl) (congrArg PyData.list (ints_of hnn))) ea_nil) rc_sum) fun v B7 H7 x7 w7 d7 => ?_
      exact q v B7 H7 (((((((x0.trans x1).trans x2).trans x3).trans x4).trans x5).trans x6).trans x7) w7 d7
    rw [if_neg (by simpa using h5)] at e2
    refine q_when st (et_test (ev_op (ev_var rfl) ev_str rd_eqStr)) (fun h6 B7 H7 x7 st => ?_) (fun h6 B7 H7 x7 st => ?_)
    · have hw : word t = "times" := eq_of_beq h6
      rw [if_pos hw] at e2
      obtain ⟨x, fs, p, rfl⟩ := one_of ho.1 (by rw [hw]; decide) (by rw [hw]; decide) (by rw [hw]; decide)
      obtain ⟨n, rfl, hn0, hn6⟩ := ho.1.2.2.2 hw
      obtain ⟨z, r, rfl⟩ := head_some hnn (by rw [← hss]; simp [kids])
      subst e2
      refine s_ret st (ev_op (ev_op (ev_enc rfl) ev_int (rd_ixT at1)) (ev_op (ev_var rfl) ev_int (rd_ixL at0)) (rd_I (.inl ⟨by omega, by omega⟩))) fun v B8 H8 x8 w8 d8 => ?_
      exact q v B8 H8 ((((((((x0.trans x1).trans x2).trans x3).trans x4).trans x5).trans x6).trans x7).trans x8) w8 d8
    · rw [if_neg (by simpa using h6)] at e2
      have hw : word t = "choice" := by
        rcases h3' with e | e | e
        · exact absurd e (by simpa using h5)
        · exact e
        · exact absurd e (by simpa using h6)
      obtain ⟨m, os, rfl⟩ := choice_of ho.1 (by rw [hw]; decide)
      obtain ⟨z, r, rfl⟩ := head_some hnn (by rw [← hss]; simpa [kids] using ho.1.2.1)
      have e2' : d = encN (if ∀ s ∈ (some z :: r), s = some z then some (1 + z) else none) := e2
      have hb : ((some z :: r).map fun s => decide (s = some z)).all id = decide (∀ s ∈ (some z :: r), s = some z) := by
        rw [Bool.eq_iff_iff]
        simp
      have hlen : (some z :: r).length ≤ 6 := by rw [← hss, List.length_map]; exact hk
      refine s_ret (d := d) st (ev_if (b := decide (∀ s ∈ (some z :: r), s = some z)) (et_B ?_) (fun _ => ?_) (fun _ => ?_)) fun v B8 H8 x8 w8 d8 => ?_
      · rw [← hb]
        refine ev_cb (ea_cons ?_ ea_nil) rc_all
        rw [List.map_map]
        refine ev_map (some z :: r) encN (fun s => .bool (decide (s = some z))) (fun s => [.dat (enc (.choice m os)), .dat (.str (word (.choice m os))), .dat (.list ((some z :: r).map encN)), .un, .dat (encN s)]) (ei_list (ev_var rfl)) (by omega) (fun s _ => eg_nameW (by decide)) (fun s hs => ?_)
        refine ev_op (ev_var rfl) (ev_op (ev_var rfl) ev_int (rd_ixL at0)) ?_
        cases s with
        | none => exact absurd hs hnn
        | some y => exact rd_eqS rfl rfl rfl (show decide (V.int y = V.int z) = decide (some y = some z) from decide_eq_decide.mpr (by simp))
      · rename_i hall
        rw [if_pos (of_decide_eq_true hall)] at e2'
        subst e2'
        exact ev_op ev_int (ev_op (ev_var rfl) ev_int (rd_ixL at0)) rd_I0
      · rename_i hall
        rw [if_neg (of_decide_eq_false hall)] at e2'
        subst e2'
        exact ev_non
      · exact q v B8 H8 ((((((((x0.trans x1).trans x2).trans x3).trans x4).trans x5).trans x6).trans x7).trans x8) w8 d8

end
end Toy
set_option Elab.async false
set_option linter.all false
set_option maxRecDepth 100000
set_option maxHeartbeats 4000000
namespace Toy
open PySem PySem.Spec PyProof.Rows L2 StX DL PT
section
variable {P : Program} {w : World} {K : PySem.W.Frag} {mg : Str → Option Value} {base : Heap} {aH : Addr}


theorem canLay_ints : ∀ ns : List Int, PyData.canLayAll0 (ns.map .int) = true
  | [] => by simp [PyData.canLayAll0]
  | n :: ns => by
    have := canLay_ints ns
    simp only [List.map_cons, PyData.canLayAll0, this, Bool.and_true]
    simp [PyData.canLay0]
theorem depth_ints : ∀ ns : List Int, PyData.depthAll (ns.map .int) = 0
  | [] => by simp [PyData.depthAll]
  | n :: ns => by
    have := depth_ints ns
    simp [PyData.depthAll, PyData.depth, this]
theorem sh_ints {ns : List Int} : SeqAt.shaped (.list (ns.map .int)) = true := by
  unfold SeqAt.shaped
  rw [PyData.canLay0, canLay_ints, PyData.depth, depth_ints]
  rfl
theorem sh_nilL : SeqAt.shaped (.list []) = true := sh_ints (ns := [])
theorem sh_intsT {ns : List Int} : SeqAt.shaped (.tuple (ns.map .int)) = true := by
  unfold SeqAt.shaped
  rw [PyData.canLay0, canLay_ints, PyData.depth, depth_ints]
  rfl
theorem eqv_nil {ns : List Int} : PyData.eqv (.list (ns.map .int)) (.list []) = ns.isEmpty := by
  cases ns with
  | nil => rfl
  | cons n ns => simp [PyData.eqv, PyData.eqvAll]
theorem eqv_nilT {ns : List Int} : PyData.eqv (.tuple (ns.map .int)) (.tuple []) = ns.isEmpty := by
  cases ns with
  | nil => rfl
  | cons n ns => simp [PyData.eqv, PyData.eqvAll]
theorem size_of_word {h : Nat} {t : Part} (ho : ok (h + 1) t) (w1 : ¬ word t = "cell") (w3 : ¬ word t = "choice") (w4 : ¬ word t = "times") (w5 : ¬ (word t = "counted" ∨ word t = "within" ∨ word t = "fill" ∨ word t = "if left" ∨ word t = "pad")) (hn : ¬ none ∈ (kids t).map (size h)) :
    size (h + 1) t = some ((((kids t).map (size h)).map fun s => s.getD 0).sum) := by
  show sizeK (word t) (fields t) ((kids t).map (size h)) = _
  unfold sizeK
  rw [if_neg w1]
  by_cases w2 : word t = "need"
  · rw [if_pos w2]
    obtain ⟨x, fs, rfl⟩ := leaf_of ho.1 (by rw [w2]; decide) (by rw [w2]; decide) (by rw [w2]; decide)
    rfl
  · rw [if_neg w2]
    have hr : word t = "row" := by
      cases t with
      | row ps => rfl
      | choice m os => exact absurd rfl w3
      | leaf x fs =>
        have hx := ho.1.1
        simp only [isLeafW, Bool.or_eq_true] at hx
        rcases hx with (e | e) | e
        · exact absurd (eq_of_beq e) w1
        · exact absurd (eq_of_beq e) w2
        · exact absurd (.inr (.inr (.inr (.inr (eq_of_beq e))))) w5
      | one x fs p =>
        have hx := ho.1.1
        simp only [isOneW, Bool.or_eq_true] at hx
        rcases hx with (((e | e) | e) | e) | e
        · exact absurd (eq_of_beq e) w4
        · exact absurd (.inl (eq_of_beq e)) w5
        · exact absurd (.inr (.inl (eq_of_beq e))) w5
        · exact absurd (.inr (.inr (.inl (eq_of_beq e)))) w5
        · exact absurd (.inr (.inr (.inr (.inl (eq_of_beq e))))) w5
    rw [if_pos (.inl hr), if_neg hn, if_pos hr]
theorem size_none {h : Nat} {t : Part} (w5 : (word t = "counted" ∨ word t = "within" ∨ word t = "fill" ∨ word t = "if left" ∨ word t = "pad") ∨ none ∈ (kids t).map (size h)) (w1 : none ∈ (kids t).map (size h) → ¬ word t = "cell" ∧ ¬ word t = "need") : size (h + 1) t = none := by
  show sizeK (word t) (fields t) ((kids t).map (size h)) = _
  unfold sizeK
  rcases w5 with w5 | hn
  · rcases w5 with e | e | e | e | e <;> (rw [e]; rfl)
  · rw [if_neg (w1 hn).1, if_neg (w1 hn).2]
    by_cases hr : word t = "row" ∨ word t = "choice" ∨ word t = "times"
    · rw [if_pos hr, if_pos hn]
    · rw [if_neg hr]
theorem ok_law_size {f fp : Addr} {fd fdp : FuncData} (T : Txt K mg aH) (a : At K mg "_law_size" s_law_size ["part"] f fd) (ap : At K mg "_law_children" s_law_children ["part"] fp fdp) : ∀ h, FnOk P w K mg base CX0 (h + 3) f fd ["part"] (SpR K (R_size h))
  | 0 => SpR_false fun ds d ⟨t, o, _⟩ => o
  | h + 1 => by
    have C_law_children := ap.cal (ok_law_children (P := P) (w := w) (base := base) T ap)
    have C_law_size := a.cal (ok_law_size T a ap h)
    refine ok_fn a.fn sc_law_size (by rintro ds d ⟨t, _, rfl, _⟩; rfl) fun cdv A outer s H0 E hr ds d ⟨t, ho, e1, e2⟩ => ?_
    subst e1
    refine ⟨_, (pss_cons (ps_set (i := 1) sc_law_size.nd rfl (Or.inr rfl) (pe_lc (own := [("inner", 2)]) (by rfl) sc_law_size.nd (pi_listK K (pe_cal C_law_children hr (by omega) (by rfl) (pa_cons (pv 0) pa_nil))) (blkOk_by (own := [("inner", 2)]) (N := N_sc_law_size) (sc := defScope s_law_size) (by decide +kernel)) (fun _ _ _ _ _ => (pg_name (i := 2) sc_law_size.nd rfl (Or.inl rfl))) (fun _ _ _ _ _ => pts_nil) (fun _ _ _ _ _ => (pe_cal C_law_size hr (by omega) (by rfl) (pa_cons (pv 2) pa_nil)))))
    (pss_cons (ps_if (PW.pt (pw_or (pt_cmpR (op_inK K) (pe_ix (ix_tupK K) (pv 0) pe_int (fun _ _ => rfl)) (pe_lst (pa_cons pe_str (pa_cons pe_str (pa_cons pe_str (pa_cons pe_str (pa_cons pe_str pa_nil)))))) (by rfl)) (pw_or1 (pt_cmpR (op_inK K) pe_non (pv 1) (by rfl))))) (pss_one (ps_ret pe_non)) pss_nil)
    (pss_cons (ps_if (pt_cmpR op_eq (pe_ix (ix_tupK K) (pv 0) pe_int (fun _ _ => rfl)) pe_str (nomark _)) (pss_one (ps_ret pe_int)) pss_nil)
    (pss_cons (ps_if (pt_cmpR op_eq (pe_ix (ix_tupK K) (pv 0) pe_int (fun _ _ => rfl)) pe_str (nomark _)) (pss_one (ps_ret (pe_ifExp (pt_cmpR (op_eqDK K hr.units) (pe_lc (own := [("size", 3)]) (by rfl) sc_law_size.nd (pi_listK K (pv 1)) (blkOk_by (own := [("size", 3)]) (N := N_sc_law_size) (sc := defScope s_law_size) (by decide +kernel)) (fun _ _ _ _ _ => (pg_name (i := 3) sc_law_size.nd rfl (Or.inl rfl))) (fun _ _ _ _ _ => (pts_one (pt_cmpR op_ne (pv 3) (pe_ix (ix_listK K) (pv 1) pe_int (fun _ _ => rfl)) (nomark _)))) (fun _ _ _ _ _ => (pv 3))) (pe_lst pa_nil) (nomark _)) (pe_op op_add pe_int (pe_ix (ix_listK K) (pv 1) pe_int (fun _ _ => rfl))) pe_non))) pss_nil)
    (pss_cons (ps_if (pt_cmpR op_eq (pe_ix (ix_tupK K) (pv 0) pe_int (fun _ _ => rfl)) pe_str (nomark _)) (pss_one (ps_ret (pe_op op_mul (pe_ix (ix_tupK K) (pv 0) pe_int (fun _ _ => rfl)) (pe_ix (ix_listK K) (pv 1) pe_int (fun _ _ => rfl))))) pss_nil)
    (pss_one (ps_ret (pe_callB (cr_sumK K rfl) (by rfl) T.b_sum (by decide +kernel) (pa_cons (pv 1) pa_nil))))))))), fun B O σ H Q st q => ?_⟩
    have es : size (h + 1) t = sizeK (word t) (fields t) ((kids t).map (size h)) := rfl
    have hk := kids_len ho.1
    refine q_asg st (d := .list (((kids t).map (size h)).map encN)) ?_ fun v4 B4 H4 x4 d4 st => ?_
    · rw [List.map_map]
      exact ev_map (kids t) enc (encN ∘ size h) (fun c => [.dat (enc t), .un, .dat (enc c), .un]) (ei_list (el_call (ea_cons (ev_var rfl) ea_nil) ⟨t, ho.1, rfl, rfl⟩).d) (by omega) (fun c _ => eg_nameW (by decide))
        (fun c hc => ev_call (ea_cons (ev_var rfl) ea_nil) ⟨c, ho.2 c hc, rfl, rfl⟩)
    have hsz : ∀ c1 : (word t = "counted" ∨ word t = "within" ∨ word t = "fill" ∨ word t = "if left" ∨ word t = "pad") ∨ none ∈ (kids t).map (size h), size (h + 1) t = none := fun c1 => size_none c1 fun hn => by
      cases t with
      | leaf x fs => simp [kids] at hn
      | row ps => exact ⟨(by decide : ¬ (("row" : Str) = "cell")), (by decide : ¬ (("row" : Str) = "need"))⟩
      | choice m os => exact ⟨(by decide : ¬ (("choice" : Str) = "cell")), (by decide : ¬ (("choice" : Str) = "need"))⟩
      | one x fs p =>
        have hx := oneW_leaf ho.1.1
        refine ⟨fun e => ?_, fun e => ?_⟩
        · have e' : x = "cell" := e
          subst e'
          exact absurd hx (by decide)
        · have e' : x = "need" := e
          subst e'
          exact absurd hx (by decide)
    have hkid : (kids t).length = ((kids t).map (size h)).length := by rw [List.length_map]
    generalize hss : (kids t).map (size h) = ss at es st d4 hsz hkid
    refine q_when st (et_or (et_test (ev_op (ev_word rfl) (ev_lst (ea_cons ev_str (ea_cons ev_str (ea_cons ev_str (ea_cons ev_str (ea_cons ev_str ea_nil))))) (by decide)) (rd_inL rfl rfl rfl))) (fun _ => et_test (ev_op ev_non (ev_var rfl) (rd_inL rfl flat_encN in_none)))) (fun h4 B5 H5 x5 st => ?_) (fun h4 B5 H5 x5 st => ?_)
    · have z : ((inV (.str (word t)) (([("counted" : Str), "within", "fill", "if left", "pad"]).map V.str)) || decide (none ∈ ss)) = true := h4
      rw [in_strs] at z
      rw [hsz (by simpa [or_assoc] using z)] at e2
      subst e2
      refine s_ret st ev_non fun v B6 H6 x6 w6 d6 => ?_
      exact q v B6 H6 ((x4.trans x5).trans x6) w6 d6
    have hzz : ((inV (.str (word t)) (([("counted" : Str), "within", "fill", "if left", "pad"]).map V.str)) || decide (none ∈ ss)) = false := h4
    rw [in_strs, Bool.or_eq_false_iff] at hzz
    have hnn : ¬ none ∈ ss := of_decide_eq_false hzz.2
    have w5 : ¬ (word t = "counted" ∨ word t = "within" ∨ word t = "fill" ∨ word t = "if left" ∨ word t = "pad") := by
      have z1 := hzz.1
      simp at z1
      rintro (e | e | e | e | e)
      · exact z1.1 e
      · exact z1.2.1 e
      · exact z1.2.2.1 e
      · exact z1.2.2.2.1 e
      · exact z1.2.2.2.2 e
    refine q_when st (et_word rfl) (fun h1 B1 H1 x1 st => ?_) (fun h1 B1 H1 x1 st => ?_)
    · refine s_ret st ev_int fun v B2 H2 x2 w2 d2 => ?_
      rw [e2, es, sizeK, if_pos (eq_of_beq h1)] at q
      exact q v B2 H2 (((x4.trans x5).trans x1).trans x2) w2 d2
    have w1 : ¬ word t = "cell" := by simpa using h1
    refine q_when st (et_word rfl) (fun h2 B6 H6 x6 st => ?_) (fun h2 B6 H6 x6 st => ?_)
    · obtain ⟨m, os, rfl⟩ := choice_of ho.1 h2
      obtain ⟨z, r, rfl⟩ := head_some hnn (by rw [← hkid]; simpa [kids] using ho.1.2.1)
      have e2' : d = encN (if ∀ s ∈ (some z :: r), s = some z then some (1 + z) else none) := by
        rw [e2, es]
        show encN (if none ∈ (some z :: r) then _ else _) = _
        rw [if_neg hnn]
        rfl
      have hlen : (some z :: r).length ≤ 6 := by rw [← hkid]; exact hk
      have hf : ((some z :: r).filter fun s => !(decide (s = some z))).map encN = ((((some z :: r).filter fun s => !(decide (s = some z)))).map fun s => s.getD 0).map PyData.int :=
        ints_of fun hm => hnn ((List.mem_filter.mp hm).1)
      have hb : ((((some z :: r).filter fun s => !(decide (s = some z)))).map fun s => s.getD 0).isEmpty = decide (∀ s ∈ (some z :: r), s = some z) := by
        rw [Bool.eq_iff_iff, List.isEmpty_iff, List.map_eq_nil_iff, List.filter_eq_nil_iff]
        simp
      refine s_ret (d := d) st (ev_if (b := decide (∀ s ∈ (some z :: r), s = some z)) (et_test ?_) (fun hall => ?_) (fun hall => ?_)) fun v B8 H8 x8 w8 d8 => ?_
      · refine ev_op (ev_is (ev_lcT (some z :: r) encN (fun s => !(decide (s = some z))) encN (fun s => [.dat (enc (.choice m os)), .dat (.list ((some z :: r).map encN)), .un, .dat (encN s)]) (ei_list (ev_var rfl)) (by omega) (fun s _ => eg_nameW (by decide)) (fun s hs => ?_) (fun s _ _ => ev_var rfl)) (congrArg PyData.list hf))
          (ev_lst ea_nil (by decide)) (rd_eq sh_ints sh_nilL (by rw [eqv_nil, hb]))
        refine et_test (ev_op (ev_var rfl) (ev_op (ev_var rfl) ev_int (rd_ixL at0)) ?_)
        cases s with
        | none => exact absurd hs hnn
        | some y => exact rd_neS rfl rfl rfl (show (!decide (V.int y = V.int z)) = !decide (some y = some z) from congrArg _ (decide_eq_decide.mpr (by simp)))
      · rw [if_pos (of_decide_eq_true hall)] at e2'
        subst e2'
        exact ev_op ev_int (ev_op (ev_var rfl) ev_int (rd_ixL at0)) rd_I0
      · rw [if_neg (of_decide_eq_false hall)] at e2'
        subst e2'
        exact ev_non
      · exact q v B8 H8 ((((x4.trans x5).trans x1).trans x6).trans x8) w8 d8
    have w3 : ¬ word t = "choice" := by simpa using h2
    refine q_when st (et_word rfl) (fun h6 B7 H7 x7 st => ?_) (fun h6 B7 H7 x7 st => ?_)
    · have hw : word t = "times" := eq_of_beq h6
      obtain ⟨x, fs, p, rfl⟩ := one_of ho.1 (by rw [hw]; decide) (by rw [hw]; decide) (by rw [hw]; decide)
      have hx : x = "times" := hw
      subst hx
      obtain ⟨n, rfl, hn0, hn6⟩ := ho.1.2.2.2 rfl
      obtain ⟨z, r, rfl⟩ := head_some hnn (by rw [← hkid]; simp [kids])
      have e2' : d = .int (n * z) := by
        rw [e2, es]
        show encN (if none ∈ (some z :: r) then _ else _) = _
        rw [if_neg hnn]
        rfl
      subst e2'
      refine s_ret st (ev_op (ev_op (ev_enc rfl) ev_int (rd_ixT at1)) (ev_op (ev_var rfl) ev_int (rd_ixL at0)) (rd_I (.inl ⟨by omega, by omega⟩))) fun v B8 H8 x8 w8 d8 => ?_
      exact q v B8 H8 (((((x4.trans x5).trans x1).trans x6).trans x7).trans x8) w8 d8
    · have w4 : ¬ word t = "times" := by simpa using h6
      have e3 := size_of_word ho w1 w3 w4 w5 (by rw [hss]; exact hnn)
      rw [hss] at e3
      rw [e3] at e2
      subst e2
      refine s_ret st (ev_cb (ea_cons (ev_is (ev_var rfl) (congrArg PyData.list (ints_of hnn))) ea_nil) rc_sum) fun v B8 H8 x8 w8 d8 => ?_
      exact q v B8 H8 (((((x4.trans x5).trans x1).trans x6).trans x7).trans x8) w8 d8

end
end Toy
set_option Elab.async false
set_option linter.all false
set_option maxRecDepth 100000
set_option maxHeartbeats 4000000
namespace Toy
open PySem PySem.Spec PyProof.Rows L2 StX DL PT
section
variable {P : Program} {w : World} {K : PySem.W.Frag} {mg : Str → Option Value} {base : Heap} {aH : Addr}


def R_subs (h : Nat) (ds es : List PyData) : Prop := ∃ t, ok h t ∧ ds = [enc t] ∧ es = (subs h t).map encQ
theorem encP_cons {i : Int} {p : List Int} : encP (i :: p) = .tuple (.int i :: p.map .int) := rfl
theorem ok_subparts {f fp : Addr} {fd fdp : FuncData} (T : Txt K mg aH) (a : At K mg "subparts" s_subparts ["part"] f fd) (ap : At K mg "parts_of" s_parts_of ["part"] fp fdp) : ∀ h, h ≤ 7 → FnOk P w K mg base CX0 (h + 3) f fd ["part"] (SpL K (R_subs h))
  | 0, _ => SpL_false fun ds d ⟨t, o, _⟩ => o
  | h + 1, hh => by
    have C_parts_of := ap.cal (ok_parts_of (P := P) (w := w) (base := base) T ap)
    have C_subparts := a.cal (ok_subparts T a ap h (by omega))
    refine ok_fnL a.fn sc_subparts (by rintro ds d ⟨t, _, rfl, _⟩; rfl) fun cdv A outer s H0 E hr ds es ⟨t, ho, e1, e2⟩ => ?_
    subst e1 e2
    refine ⟨_, (pss_cons (ps_set (i := 1) sc_subparts.nd rfl (Or.inl rfl) (pe_lst (pa_cons (pe_tup (pa_cons (pe_tup pa_nil) (pa_cons (pv 0) pa_nil))) pa_nil)))
    (pss_cons (ps_for PassesOwn.never rfl (pi_enumK K (by rfl) T.b_enumerate (pa_cons (pe_cal C_parts_of hr (by omega) (by rfl) (pa_cons (pv 0) pa_nil)) pa_nil)) (pg_tupK K (n := 2) (by rfl) (pgs_cons (pg_name (i := 2) sc_subparts.nd rfl (Or.inr rfl)) (pgs_cons (pg_name (i := 3) sc_subparts.nd rfl (Or.inl rfl)) pgs_nil))) (pss_one (ps_expr (pe_bm PySem.F.plainAttrs_list PySem.F.slot_list_extend PySem.F.type_list_extend mt_extend (pv 1) (pa_cons (pe_lc (own := [("path", 4), ("one", 5)]) (by rfl) sc_subparts.nd (pi_listK K (pe_cal C_subparts hr (by omega) (by rfl) (pa_cons (pv 3) pa_nil))) (blkOk_by (own := [("path", 4), ("one", 5)]) (N := N_sc_subparts) (sc := defScope s_subparts) (by decide +kernel)) (fun _ _ _ _ _ => (pg_tupK K (n := 2) (by rfl) (pgs_cons (pg_name (i := 4) sc_subparts.nd rfl (Or.inl rfl)) (pgs_cons (pg_name (i := 5) sc_subparts.nd rfl (Or.inl rfl)) pgs_nil)))) (fun _ _ _ _ _ => pts_nil) (fun _ _ _ _ _ => (pe_tup (pa_cons (pe_tup (pa_cons (pv 2) (pa_starK K (pv 4) pa_nil))) (pa_cons (pv 5) pa_nil))))) pa_nil)))))
    (pss_one (ps_ret (pv 1))))), fun B O σ H Q st q => ?_⟩
    have hk := kids_len ho.1
    have hS : ∀ c, c ∈ kids t → (subs h c).length ≤ cntP h := fun c hc => subs_len (ho.2 c hc)
    refine q_asgL st (el_lst (ea_cons (ev_tup (ea_cons (ev_tup ea_nil (by simp)) (ea_cons (ev_var rfl) ea_nil)) (by simp)) ea_nil) (by simp)) fun l vs B1 H1 x1 nl dv st => ?_
    refine q_for st (ei_enum (ea_cons (el_call (ea_cons (ev_var rfl) ea_nil) ⟨t, ho.1, rfl, rfl⟩).d ea_nil))
      (fun i B' O' G' => ∃ vs, O' = upd O l (.lst vs) ∧ DtAll K B' vs ((subsTo (subs h) t i).map encQ) ∧ ∃ g2 g3, G' = [.dat (enc t), .val (.ref l), g2, g3, .un, .un])
      (fun i B1 B2 O1 G1 e ⟨vs, e1, e2, e3⟩ => ⟨vs, e1, dps_ex e _ _ e2, e3⟩) ⟨vs, rfl, dv, _, _, rfl⟩ ?_ ?_
    · rintro i e B2 O2 G2 σ2 H2 v hie x2 ⟨vs2, rfl, dv2, g2, g3, rfl⟩ st dv N hN
      obtain ⟨x, hx, rfl⟩ := enum_inv hie
      obtain ⟨c, hc, rfl⟩ := map_inv hx
      have hcm : c ∈ kids t := List.mem_of_getElem? hc
      have hi : i < (kids t).length := (List.getElem?_eq_some_iff.mp hc).1
      refine eg_pair B2 _ σ2 H2 v st dv _ fun σ3 st _ => ?_
      have hl1 := subsTo_len hS i
      have hl2 := cnt_mono (h := h) (by omega) (n := i + 1) (by omega)
      have hl3 := hS c hcm
      have hl4 := dps_len dv2
      rw [Nat.succ_mul] at hl2
      rw [List.length_map] at hl4
      refine q_extend st rfl upd_same (by rw [List.length_map]; omega) (ev_map (subs h c) encQ (fun q => encQ ((i : Int) :: q.1, q.2)) (fun q => [.dat (enc t), .val (.ref l), .dat (.int i), .dat (enc c), .dat (encP q.1), .dat (enc q.2)])
        (ei_list (el_call (ea_cons (ev_var rfl) ea_nil) ⟨c, ho.2 c hcm, rfl, rfl⟩).d) (by omega) (fun q _ => eg_pairW (by decide) (by decide)) (fun q hq => ?_)) fun ws B3 H3 x3 dw st => ?_
      · exact ev_tup (ea_cons (ev_is (ev_tup (ea_cons (ev_var rfl) (ea_star (es := q.1.map .int) (ev_var rfl) ea_nil)) (by
          have := subs_path (p := q.1) (c := q.2) hq
          simp
          omega)) (by rw [List.append_nil]; rfl)) (ea_cons (ev_var rfl) ea_nil)) (by simp)
      · rw [upd_upd] at st
        refine hN B3 _ _ _ _ x3 ⟨_, rfl, ?_, _, _, rfl⟩ st
        rw [subsTo_succ hc, List.map_append]
        refine dps_app (dps_ex x3 _ _ dv2) ?_
        rw [List.map_map]
        exact dw
    · rintro B2 O2 G2 σ2 H2 x2 ⟨vs2, rfl, dv2, g2, g3, rfl⟩ st
      rw [enumD_len, List.length_map] at dv2
      exact s_retOL st rfl rfl fun w2 => q l vs2 B2 H2 (x1.trans x2) nl w2 dv2

end
end Toy
set_option Elab.async false
set_option linter.all false
set_option maxRecDepth 100000
set_option maxHeartbeats 4000000
namespace Toy
open PySem PySem.Spec PyProof.Rows L2 StX DL PT
section
variable {P : Program} {w : World} {K : PySem.W.Frag} {mg : Str → Option Value} {base : Heap} {aH : Addr}


def R_at (ds : List PyData) (d : PyData) : Prop := ∃ h t p c, ok h t ∧ getP t p = some c ∧ ds = [enc t, encP p] ∧ d = enc c
theorem ok_part_at {f fp : Addr} {fd fdp : FuncData} (T : Txt K mg aH) (a : At K mg "part_at" s_part_at ["part", "path"] f fd) (ap : At K mg "parts_of" s_parts_of ["part"] fp fdp) : FnOk P w K mg base CX0 3 f fd ["part", "path"] (SpR K R_at) := by
  have C_parts_of := ap.cal (ok_parts_of (P := P) (w := w) (base := base) T ap)
  refine ok_fn a.fn sc_part_at (by rintro ds d ⟨h, t, p, c, _, _, rfl, _⟩; rfl) fun cdv A outer s H0 E hr ds d ⟨h, t, p, c, ho, hg, e1, e2⟩ => ?_
  subst e1 e2
  refine ⟨_, (pss_cons (ps_for PassesOwn.never rfl (pi_tupK K (pv 1)) (pg_name (i := 2) sc_part_at.nd rfl (Or.inl rfl)) (pss_one (ps_set (i := 0) sc_part_at.nd rfl (Or.inl rfl) (pe_ix (ix_listK K) (pe_cal C_parts_of hr (by omega) (by rfl) (pa_cons (pv 0) pa_nil)) (pv 2) (fun _ _ => rfl)))))
    (pss_one (ps_ret (pv 0)))), fun B O σ H Q st q => ?_⟩
  refine q_for st (es := p.map .int) (ei_tup (ev_var rfl)) (fun i B' O' G' => O' = O ∧ ∃ c' g2, ok h c' ∧ getP c' (p.drop i) = some c ∧ G' = [.dat (enc c'), .dat (encP p), g2])
    (fun i B1 B2 O1 G1 e x => x) ⟨rfl, t, _, ho, hg, rfl⟩ ?_ ?_
  · rintro i e B2 O2 G2 σ2 H2 v hie x2 ⟨rfl, c', g2, oc, gc, rfl⟩ st dv N hN
    obtain ⟨z, hz, rfl⟩ := map_inv hie
    refine eg_name B2 _ σ2 H2 v st dv _ fun σ3 st _ => ?_
    have hd : p.drop i = z :: p.drop (i + 1) := by
      rw [List.drop_eq_getElem_cons (List.getElem?_eq_some_iff.mp hz).1, (List.getElem?_eq_some_iff.mp hz).2]
    rw [hd] at gc
    have gc' : (if 0 ≤ z then (kids c')[z.toNat]?.bind (getP · (p.drop (i + 1))) else none) = some c := gc
    cases h with
    | zero => exact oc.elim
    | succ h =>
      split at gc'
      · rename_i hz0
        cases hk : (kids c')[z.toNat]? with
        | none => rw [hk] at gc'; cases gc'
        | some k =>
          rw [hk] at gc'
          have hm : k ∈ kids c' := List.mem_of_getElem? hk
          refine s_asg st (ev_op (el_call (ea_cons (ev_var rfl) ea_nil) ⟨c', oc.1, rfl, rfl⟩).d (ev_var rfl) (rd_ixL (at_nn (x := enc k) hz0 (by rw [List.getElem?_map, hk]; rfl)))) fun v3 B3 H3 x3 d3 st => ?_
          exact hN B3 _ _ _ _ x3 ⟨rfl, k, _, ok_mono (Nat.le_succ h) (oc.2 k hm), gc', rfl⟩ st
      · cases gc'
  · rintro B2 O2 G2 σ2 H2 x2 ⟨rfl, c', g2, oc, gc, rfl⟩ st
    rw [List.length_map, List.drop_length] at gc
    cases gc
    refine s_ret st (ev_var rfl) fun v B3 H3 x3 w3 d3 => ?_
    exact q v B3 H3 (x2.trans x3) w3 d3


def R_with (ds : List PyData) (d : PyData) : Prop := ∃ t ks, ok0 t ∧ 0 < (kids t).length ∧ ks.length = (kids t).length ∧ ds = [enc t, .list (ks.map enc)] ∧ d = enc (withK t ks)
theorem zip_map {os : List (Int × Part)} {ks : List Part} : ((os.map fun o => PyData.tuple [.int o.1, enc o.2]).zip (ks.map enc)).map (fun z => PyData.tuple [z.1, z.2]) = (os.zip ks).map fun z => PyData.tuple [.tuple [.int z.1.1, enc z.1.2], enc z.2] := by
  rw [List.zip_map, List.map_map]
  rfl
theorem ok_with_parts {f : Addr} {fd : FuncData} (T : Txt K mg aH) (a : At K mg "with_parts" s_with_parts ["part", "parts"] f fd) : FnOk P w K mg base CX0 2 f fd ["part", "parts"] (SpR K R_with) := by
  refine ok_fn a.fn sc_with_parts (by rintro ds d ⟨t, ks, _, _, _, rfl, _⟩; rfl) fun cdv A outer s H0 E hr ds d ⟨t, ks, ho, hn, hl, e1, e2⟩ => ?_
  subst e1
  refine ⟨_, (pss_cons (ps_if (pt_cmpR op_eq (pe_ix (ix_tupK K) (pv 0) pe_int (fun _ _ => rfl)) pe_str (nomark _)) (pss_one (ps_ret (pe_tup (pa_cons pe_str (pa_cons (pe_callTy (call_tupleK K) (by rfl) T.b_tuple (by decide +kernel) (pa_cons (pv 1) pa_nil)) pa_nil))))) pss_nil)
    (pss_cons (ps_if (pt_cmpR op_eq (pe_ix (ix_tupK K) (pv 0) pe_int (fun _ _ => rfl)) pe_str (nomark _)) (pss_cons (ps_setLc (i := 2) (own := [("option", 3), ("inner", 4)]) (by rfl) sc_with_parts.nd rfl rfl (sw_true rfl rfl rfl (by decide +kernel)) (pi_zipM K (by rfl) T.b_zip (pa_cons (pe_ix (ix_tupK K) (pv 0) pe_int (fun _ _ => rfl)) (pa_cons (pv 1) pa_nil))) (blkOk_by (own := [("option", 3), ("inner", 4)]) (N := N_sc_with_parts) (sc := defScope s_with_parts) (by decide +kernel)) (fun _ _ _ _ _ => (pg_tupK K (n := 2) (by rfl) (pgs_cons (pg_name (i := 3) sc_with_parts.nd rfl (Or.inl rfl)) (pgs_cons (pg_name (i := 4) sc_with_parts.nd rfl (Or.inl rfl)) pgs_nil)))) (fun _ _ _ _ _ => pts_nil) (fun _ _ _ _ _ => (pe_tup (pa_cons (pe_ix (ix_tupK K) (pv 3) pe_int (fun _ _ => rfl)) (pa_cons (pv 4) pa_nil)))))
    (pss_one (ps_ret (pe_tup (pa_cons pe_str (pa_cons (pe_ix (ix_tupK K) (pv 0) pe_int (fun _ _ => rfl)) (pa_cons (pe_callTy (call_tupleK K) (by rfl) T.b_tuple (by decide +kernel) (pa_cons (pv 2) pa_nil)) pa_nil))))))) pss_nil)
    (pss_one (ps_ret (pe_tup (pa_starK K (pe_slice (sl_tupAK K) (pv 0) po_none (po_some (pe_un un_neg pe_int))) (pa_cons (pe_ix (ix_listK K) (pv 1) pe_int (fun _ _ => rfl)) pa_nil))))))), fun B O σ H Q st q => ?_⟩
  have hk := kids_len ho
  refine q_when st (et_word rfl) (fun h1 B1 H1 x1 st => ?_) (fun h1 B1 H1 x1 st => ?_)
  · obtain ⟨ps, rfl⟩ := row_of ho h1
    refine s_ret st (ev_tup (ea_cons ev_str (ea_cons (ev_cb (ea_cons (ev_var rfl) ea_nil) rc_tupL) ea_nil)) (by simp)) fun v B2 H2 x2 w2 d2 => ?_
    rw [e2, enc_eq] at q
    exact q v B2 H2 (x1.trans x2) w2 d2
  refine q_when st (et_word rfl) (fun h2 B2 H2 x2 st => ?_) (fun h2 B2 H2 x2 st => ?_)
  · obtain ⟨m, os, rfl⟩ := choice_of ho h2
    have hl' : os.length = ks.length := by simpa [kids] using hl.symm
    refine q_asg st (d := .list ((os.zip ks).map fun z => .tuple [.int z.1.1, enc z.2])) (ev_map (os.zip ks) (fun z => PyData.tuple [.tuple [.int z.1.1, enc z.1.2], enc z.2]) (fun z => .tuple [.int z.1.1, enc z.2])
      (fun z => [.dat (enc (.choice m os)), .dat (.list (ks.map enc)), .un, .dat (.tuple [.int z.1.1, enc z.1.2]), .dat (enc z.2)]) (by rw [← zip_map]; exact ei_zipM (ea_cons (ev_op (ev_enc rfl) ev_int (rd_ixT at2)) (ea_cons (ev_var rfl) ea_nil)) (by simp [hl']))
      (by rw [List.length_zip]; have := ho.2.2; omega) (fun z _ => eg_pairW (by decide) (by decide)) (fun z _ => ev_tup (ea_cons (ev_op (ev_var rfl) ev_int (rd_ixT at0)) (ea_cons (ev_var rfl) ea_nil)) (by simp))) fun v3 B3 H3 x3 d3 st => ?_
    refine s_ret st (ev_tup (ea_cons ev_str (ea_cons (ev_op (ev_enc rfl) ev_int (rd_ixT at1)) (ea_cons (ev_cb (ea_cons (ev_var rfl) ea_nil) rc_tupL) ea_nil))) (by simp)) fun v B4 H4 x4 w4 d4 => ?_
    rw [e2, enc_eq] at q
    refine q v B4 H4 (((x1.trans x2).trans x3).trans x4) w4 ?_
    show Dt K B4 v (.tuple [.str "choice", m, .tuple (((os.zip ks).map fun z => (z.1.1, z.2)).map fun o => .tuple [.int o.1, enc o.2])])
    rw [List.map_map]
    exact d4
  obtain ⟨x, fs, p, rfl⟩ : ∃ x fs p, t = .one x fs p := by
    cases t with
    | one x fs p => exact ⟨x, fs, p, rfl⟩
    | leaf x fs => exact absurd hn (by simp [kids])
    | row ps => exact absurd h1 (by show ¬ (("row" : Str) == "row") = false; decide)
    | choice m os => exact absurd h2 (by show ¬ (("choice" : Str) == "choice") = false; decide)
  obtain ⟨k, rfl⟩ : ∃ k, ks = [k] := by
    match ks, hl with
    | [k], _ => exact ⟨k, rfl⟩
  have hcut : cutX (.str (word (.one x fs p)) :: fields (.one x fs p)) none (some (-1)) = .str x :: fs := cut_init (xs := .str x :: fs) (x := enc p)
  have he : EvD K B2 O (gOf [enc (.one x fs p), .list ([k].map enc)] (N_sc_with_parts.length - ["part", "parts"].length)) (tSl (rSlA K) (tVar 0) tNoPart (tPart (tUn (rU fun i => V.int (-i)) (tC (.int 1))))) (.tuple (.str x :: fs)) :=
    ev_is (ev_slT (ev_enc rfl) eo_none (eo_some (ev_un ev_int))) (congrArg PyData.tuple hcut)
  refine s_ret st (ev_tup (ea_star he (ea_cons (ev_op (ev_var rfl) ev_int (rd_ixL at0)) ea_nil)) (by have := ho.2.1; simp; omega)) fun v B3 H3 x3 w3 d3 => ?_
  rw [e2, enc_eq] at q
  exact q v B3 H3 ((x1.trans x2).trans x3) w3 d3

end
end Toy
set_option Elab.async false
set_option linter.all false
set_option maxRecDepth 100000
set_option maxHeartbeats 4000000
namespace Toy
open PySem PySem.Spec PyProof.Rows L2 StX DL PT
section
variable {P : Program} {w : World} {K : PySem.W.Frag} {mg : Str → Option Value} {base : Heap} {aH : Addr}


theorem slots_upd {K : PySem.W.Frag} {B : Hp} {g g' : SD} (h : ∀ s, SlotOk K B s g → SlotOk K B s g') : ∀ {σ : L2.St} {G : List SD} {i : Nat}, Slots K B σ G → G[i]? = some g → Slots K B σ (G.set i g')
  | [], [], _, _, e => by simp at e
  | s :: _, x :: _, 0, q, e => by
    simp at e
    subst e
    exact ⟨h s q.1, q.2⟩
  | _ :: _, _ :: _, i + 1, q, e => by
    simp at e
    exact ⟨q.1, slots_upd h q.2 e⟩
  | [], _ :: _, _, q, _ => q.elim
  | _ :: _, [], _, q, _ => q.elim
theorem Sta.give {K : PySem.W.Frag} {B O0 : Hp} {G : List SD} {σ : L2.St} {H : Hp} {l : Addr} {vs : List V} {ds : List PyData} {i : Nat} (s : Sta K B (upd O0 l (.lst vs)) G σ H) (hg : G[i]? = some (.val (.ref l))) (hn : O0 l = none) (hv : DtAll K B vs ds) :
    Ex B (upd B l (.lst vs)) ∧ Sta K (upd B l (.lst vs)) O0 (G.set i (.dat (.list ds))) σ H := by
  have hb := s.w.bnone upd_same
  refine ⟨Ex.new hb, s.w.give hn, slots_upd (g := .val (.ref l)) (g' := .dat (.list ds)) (fun s' (e : s' = some (.ref l)) => ⟨.ref l, e, .lst upd_same (dps_ex (Ex.new hb) _ _ hv)⟩) (s.s.ex (Ex.new hb)) hg⟩
def R_rep (h : Nat) (ds : List PyData) (d : PyData) : Prop := ∃ t p o c r, ok h t ∧ getP t p = some c ∧ repP t p o = some r ∧ ds = [enc t, encP p, enc o] ∧ d = enc r
theorem rep_step {t o r c : Part} {i : Int} {p : List Int} (hg : getP t (i :: p) = some c) (hr : repP t (i :: p) o = some r) : ∃ k r', 0 ≤ i ∧ (kids t)[i.toNat]? = some k ∧ getP k p = some c ∧ repP k p o = some r' ∧ r = withK t ((kids t).set i.toNat r') := by
  have hg' : (if 0 ≤ i then (kids t)[i.toNat]?.bind (getP · p) else none) = some c := hg
  have hr' : (if 0 ≤ i then (kids t)[i.toNat]?.bind fun c => (repP c p o).map fun c' => withK t ((kids t).set i.toNat c') else none) = some r := hr
  by_cases hi : 0 ≤ i
  · rw [if_pos hi] at hg' hr'
    cases hk : (kids t)[i.toNat]? with
    | none => rw [hk] at hg'; cases hg'
    | some k =>
      rw [hk] at hg' hr'
      have hr2 : (repP k p o).map (fun c' => withK t ((kids t).set i.toNat c')) = some r := hr'
      cases hq : repP k p o with
      | none => rw [hq] at hr2; cases hr2
      | some r' =>
        rw [hq] at hr2
        exact ⟨k, r', hi, rfl, hg', hq, (Option.some.inj hr2).symm⟩
  · rw [if_neg hi] at hg'
    cases hg'
theorem map_set_enc {ks : List Part} {i : Nat} {x : Part} : (ks.set i x).map enc = (ks.map enc).set i (enc x) := by
  rw [List.map_set]
theorem ok_replaced {f fp fw : Addr} {fd fdp fdw : FuncData} (T : Txt K mg aH) (a : At K mg "replaced" s_replaced ["part", "path", "other"] f fd) (ap : At K mg "parts_of" s_parts_of ["part"] fp fdp) (aw : At K mg "with_parts" s_with_parts ["part", "parts"] fw fdw) : ∀ h, FnOk P w K mg base CX0 (h + 3) f fd ["part", "path", "other"] (SpR K (R_rep h))
  | 0 => SpR_false fun ds d ⟨t, _, _, _, _, o, _⟩ => o
  | h + 1 => by
    have C_parts_of := ap.cal (ok_parts_of (P := P) (w := w) (base := base) T ap)
    have C_with_parts := aw.cal (ok_with_parts (P := P) (w := w) (base := base) T aw)
    have C_replaced := a.cal (ok_replaced T a ap aw h)
    refine ok_fn a.fn sc_replaced (by rintro ds d ⟨t, p, o, c, r, _, _, _, rfl, _⟩; rfl) fun cdv A outer s H0 E hr ds d ⟨t, p, o, c, r, ho, hg, hp, e1, e2⟩ => ?_
    subst e1 e2
    refine ⟨_, (pss_cons (ps_if (pt_cmpR op_eq (pe_callB (call_lenK K) (by rfl) T.b_len PySem.boot_len (pa_cons (pv 1) pa_nil)) pe_int (nomark _)) (pss_one (ps_ret (pv 2))) pss_nil)
    (pss_cons (ps_set (i := 3) sc_replaced.nd rfl (Or.inl rfl) (pe_cal C_parts_of hr (by omega) (by rfl) (pa_cons (pv 0) pa_nil)))
    (pss_cons (ps_asg (pe_cal C_replaced hr (by omega) (by rfl) (pa_cons (pe_ix (ix_listK K) (pv 3) (pe_ix (ix_tupK K) (pv 1) pe_int (fun _ _ => rfl)) (fun _ _ => rfl)) (pa_cons (pe_slice (sl_tupAK K) (pv 1) (po_some pe_int) po_none) (pa_cons (pv 2) pa_nil)))) (pg_sub (pv 3) (pe_ix (ix_tupK K) (pv 1) pe_int (fun _ _ => rfl)) set_list))
    (pss_one (ps_ret (pe_cal C_with_parts hr (by omega) (by rfl) (pa_cons (pv 0) (pa_cons (pv 3) pa_nil)))))))), fun B O σ H Q st q => ?_⟩
    refine q_when st (et_test (ev_op (ev_cb (ea_cons (ev_var (d := .tuple (p.map .int)) rfl) ea_nil) rc_lenT) ev_int rd_eqInt)) (fun h1 B1 H1 x1 st => ?_) (fun h1 B1 H1 x1 st => ?_)
    · have : p = [] := by
        cases p with
        | nil => rfl
        | cons i p =>
          simp at h1
          omega
      subst this
      cases hp
      refine s_ret st (ev_var rfl) fun v B2 H2 x2 w2 d2 => ?_
      exact q v B2 H2 (x1.trans x2) w2 d2
    obtain ⟨i, p, rfl⟩ : ∃ i p', p = i :: p' := by
      cases p with
      | nil => simp at h1
      | cons i p => exact ⟨i, p, rfl⟩
    obtain ⟨k, r', hi, hk, gk, rk, rfl⟩ := rep_step hg hp
    have hkm : k ∈ kids t := List.mem_of_getElem? hk
    have hkl : i.toNat < (kids t).length := (List.getElem?_eq_some_iff.mp hk).1
    refine q_asgL st (el_call (ea_cons (ev_var rfl) ea_nil) ⟨t, ho.1, rfl, rfl⟩) fun l vs B2 H2 x2 nl dv st => ?_
    have hvl := dps_len dv
    rw [List.length_map] at hvl
    have hpi : ∀ {B' O' : Hp} {g3 : SD}, EvD K B' O' [.dat (enc t), .dat (encP (i :: p)), .dat (enc o), g3] (tOp (rIxT K) (tVar 1) (tC (.int 0))) (.int i) := fun {B' O' g3} =>
      ev_op (ev_var (d := .tuple (.int i :: p.map .int)) rfl) ev_int (rd_ixT at0)
    refine q_setO st rfl upd_same (ev_call (ea_cons (ev_ixO rfl upd_same dv hpi (at_nn (x := enc k) hi (by rw [List.getElem?_map, hk]; rfl)))
      (ea_cons (ev_is (ev_slT (ev_var (d := .tuple (.int i :: p.map .int)) rfl) (eo_some ev_int) eo_none) (congrArg PyData.tuple cut_tail)) (ea_cons (ev_var rfl) ea_nil))) ⟨k, p, o, c, r', ho.2 k hkm, gk, rk, rfl, rfl⟩) hpi (ix_nn hi (by omega)) fun v3 B3 H3 x3 d3 st => ?_
    rw [upd_upd] at st
    have dv3 : DtAll K B3 (vs.set i.toNat v3) (((kids t).set i.toNat r').map enc) := by
      rw [map_set_enc]
      exact dps_set _ (dps_ex x3 _ _ dv) d3
    obtain ⟨x4, st⟩ := Sta.give (i := 3) st rfl nl dv3
    refine s_ret st (ev_call (ea_cons (ev_var rfl) (ea_cons (ev_var rfl) ea_nil)) ⟨t, (kids t).set i.toNat r', ho.1, by omega, by rw [List.length_set], rfl, rfl⟩) fun v B5 H5 x5 w5 d5 => ?_
    exact q v B5 H5 ((((x1.trans x2).trans x3).trans x4).trans x5) w5 d5


theorem ok_law_changed {f fp : Addr} {fd fdp : FuncData} (T : Txt K mg aH) (a : At K mg "_law_changed" s_law_changed ["part", "path", "other"] f fd) (ap : At K mg "_law_children" s_law_children ["part"] fp fdp) : ∀ h, FnOk P w K mg base CX0 (h + 3) f fd ["part", "path", "other"] (SpR K (R_rep h))
  | 0 => SpR_false fun ds d ⟨t, _, _, _, _, o, _⟩ => o
  | h + 1 => by
    have C_law_children := ap.cal (ok_law_children (P := P) (w := w) (base := base) T ap)
    have C_law_changed := a.cal (ok_law_changed T a ap h)
    refine ok_fn a.fn sc_law_changed (by rintro ds d ⟨t, p, o, c, r, _, _, _, rfl, _⟩; rfl) fun cdv A outer s H0 E hr ds d ⟨t, p, o, c, r, ho, hg, hp, e1, e2⟩ => ?_
    subst e1 e2
    refine ⟨_, (pss_cons (ps_if (pt_cmpR (op_eqDK K hr.units) (pv 1) (pe_tup pa_nil) (nomark _)) (pss_one (ps_ret (pv 2))) pss_nil)
    (pss_cons (ps_set (i := 3) sc_law_changed.nd rfl (Or.inl rfl) (pe_cal C_law_children hr (by omega) (by rfl) (pa_cons (pv 0) pa_nil)))
    (pss_cons (ps_asg (pe_cal C_law_changed hr (by omega) (by rfl) (pa_cons (pe_ix (ix_listK K) (pv 3) (pe_ix (ix_tupK K) (pv 1) pe_int (fun _ _ => rfl)) (fun _ _ => rfl)) (pa_cons (pe_slice (sl_tupAK K) (pv 1) (po_some pe_int) po_none) (pa_cons (pv 2) pa_nil)))) (pg_sub (pv 3) (pe_ix (ix_tupK K) (pv 1) pe_int (fun _ _ => rfl)) set_list))
    (pss_cons (ps_if (pt_cmpR op_eq (pe_ix (ix_tupK K) (pv 0) pe_int (fun _ _ => rfl)) pe_str (nomark _)) (pss_one (ps_ret (pe_tup (pa_cons pe_str (pa_cons (pe_callTy (call_tupleK K) (by rfl) T.b_tuple (by decide +kernel) (pa_cons (pv 3) pa_nil)) pa_nil))))) pss_nil)
    (pss_cons (ps_if (pt_cmpR op_eq (pe_ix (ix_tupK K) (pv 0) pe_int (fun _ _ => rfl)) pe_str (nomark _)) (pss_one (ps_ret (pe_tup (pa_cons pe_str (pa_cons (pe_ix (ix_tupK K) (pv 0) pe_int (fun _ _ => rfl)) (pa_cons (pe_callTy (call_tupleK K) (by rfl) T.b_tuple (by decide +kernel) (pa_cons (pe_lc (own := [("option", 4), ("below", 5)]) (by rfl) sc_law_changed.nd (pi_zipM K (by rfl) T.b_zip (pa_cons (pe_ix (ix_tupK K) (pv 0) pe_int (fun _ _ => rfl)) (pa_cons (pv 3) pa_nil))) (blkOk_by (own := [("option", 4), ("below", 5)]) (N := N_sc_law_changed) (sc := defScope s_law_changed) (by decide +kernel)) (fun _ _ _ _ _ => (pg_tupK K (n := 2) (by rfl) (pgs_cons (pg_name (i := 4) sc_law_changed.nd rfl (Or.inl rfl)) (pgs_cons (pg_name (i := 5) sc_law_changed.nd rfl (Or.inl rfl)) pgs_nil)))) (fun _ _ _ _ _ => pts_nil) (fun _ _ _ _ _ => (pe_tup (pa_cons (pe_ix (ix_tupK K) (pv 4) pe_int (fun _ _ => rfl)) (pa_cons (pv 5) pa_nil))))) pa_nil)) pa_nil)))))) pss_nil)
    (pss_one (ps_ret (pe_op (op_catAK K) (pe_slice (sl_tupAK K) (pv 0) po_none (po_some (pe_un un_neg pe_int))) (pe_tup (pa_cons (pe_ix (ix_listK K) (pv 3) pe_int (fun _ _ => rfl)) pa_nil)))))))))), fun B O σ H Q st q => ?_⟩
    refine q_when st (et_test (ev_op (ev_var (d := .tuple (p.map .int)) rfl) (ev_tup ea_nil (by simp)) (rd_eq sh_intsT (sh_intsT (ns := [])) eqv_nilT))) (fun h1 B1 H1 x1 st => ?_) (fun h1 B1 H1 x1 st => ?_)
    · have : p = [] := List.isEmpty_iff.mp h1
      subst this
      cases hp
      refine s_ret st (ev_var rfl) fun v B2 H2 x2 w2 d2 => ?_
      exact q v B2 H2 (x1.trans x2) w2 d2
    obtain ⟨i, p, rfl⟩ : ∃ i p', p = i :: p' := by
      cases p with
      | nil => simp at h1
      | cons i p => exact ⟨i, p, rfl⟩
    obtain ⟨k, r', hi, hk, gk, rk, rfl⟩ := rep_step hg hp
    have hkm : k ∈ kids t := List.mem_of_getElem? hk
    have hkl : i.toNat < (kids t).length := (List.getElem?_eq_some_iff.mp hk).1
    have hk6 := kids_len ho.1
    refine q_asgL st (el_call (ea_cons (ev_var rfl) ea_nil) ⟨t, ho.1, rfl, rfl⟩) fun l vs B2 H2 x2 nl dv st => ?_
    have hvl := dps_len dv
    rw [List.length_map] at hvl
    have hpi : ∀ {B' O' : Hp} {g3 g4 g5 : SD}, EvD K B' O' [.dat (enc t), .dat (encP (i :: p)), .dat (enc o), g3, g4, g5] (tOp (rIxT K) (tVar 1) (tC (.int 0))) (.int i) := fun {B' O' g3 g4 g5} =>
      ev_op (ev_var (d := .tuple (.int i :: p.map .int)) rfl) ev_int (rd_ixT at0)
    refine q_setO st rfl upd_same (ev_call (ea_cons (ev_ixO rfl upd_same dv hpi (at_nn (x := enc k) hi (by rw [List.getElem?_map, hk]; rfl)))
      (ea_cons (ev_is (ev_slT (ev_var (d := .tuple (.int i :: p.map .int)) rfl) (eo_some ev_int) eo_none) (congrArg PyData.tuple cut_tail)) (ea_cons (ev_var rfl) ea_nil))) ⟨k, p, o, c, r', ho.2 k hkm, gk, rk, rfl, rfl⟩) hpi (ix_nn hi (by omega)) fun v3 B3 H3 x3 d3 st => ?_
    rw [upd_upd] at st
    have dv3 : DtAll K B3 (vs.set i.toNat v3) (((kids t).set i.toNat r').map enc) := by
      rw [map_set_enc]
      exact dps_set _ (dps_ex x3 _ _ dv) d3
    obtain ⟨x4, st⟩ := Sta.give (i := 3) st rfl nl dv3
    have hsl : ((kids t).set i.toNat r').length = (kids t).length := List.length_set
    generalize (kids t).set i.toNat r' = ks at dv3 st q hsl hp
    refine q_when st (et_word rfl) (fun h2 B5 H5 x5 st => ?_) (fun h2 B5 H5 x5 st => ?_)
    · obtain ⟨ps, rfl⟩ := row_of ho.1 h2
      refine s_ret st (ev_tup (ea_cons ev_str (ea_cons (ev_cb (ea_cons (ev_var rfl) ea_nil) rc_tupL) ea_nil)) (by simp)) fun v B6 H6 x6 w6 d6 => ?_
      rw [enc_eq] at q
      exact q v B6 H6 (((((x1.trans x2).trans x3).trans x4).trans x5).trans x6) w6 d6
    refine q_when st (et_word rfl) (fun h3 B6 H6 x6 st => ?_) (fun h3 B6 H6 x6 st => ?_)
    · obtain ⟨m, os, rfl⟩ := choice_of ho.1 h3
      have hl' : os.length = ks.length := by rw [hsl]; simp [kids]
      refine s_ret st (ev_tup (ea_cons ev_str (ea_cons (ev_op (ev_enc rfl) ev_int (rd_ixT at1)) (ea_cons (ev_cb (ea_cons (ev_map (os.zip ks) (fun z => PyData.tuple [.tuple [.int z.1.1, enc z.1.2], enc z.2]) (fun z => .tuple [.int z.1.1, enc z.2])
        (fun z => [.dat (enc (.choice m os)), .dat (encP (i :: p)), .dat (enc o), .dat (.list (ks.map enc)), .dat (.tuple [.int z.1.1, enc z.1.2]), .dat (enc z.2)]) (by rw [← zip_map]; exact ei_zipM (ea_cons (ev_op (ev_enc rfl) ev_int (rd_ixT at2)) (ea_cons (ev_var rfl) ea_nil)) (by simp [hl']))
        (by rw [List.length_zip]; omega) (fun z _ => eg_pairW (by decide) (by decide)) (fun z _ => ev_tup (ea_cons (ev_op (ev_var rfl) ev_int (rd_ixT at0)) (ea_cons (ev_var rfl) ea_nil)) (by simp))) ea_nil) rc_tupL) ea_nil))) (by simp)) fun v B7 H7 x7 w7 d7 => ?_
      rw [enc_eq] at q
      refine q v B7 H7 ((((((x1.trans x2).trans x3).trans x4).trans x5).trans x6).trans x7) w7 ?_
      show Dt K B7 v (.tuple [.str "choice", m, .tuple (((os.zip ks).map fun z => (z.1.1, z.2)).map fun o => .tuple [.int o.1, enc o.2])])
      rw [List.map_map]
      exact d7
    obtain ⟨x, fs, pp, rfl⟩ : ∃ x fs p, t = .one x fs p := by
      cases t with
      | one x fs p => exact ⟨x, fs, p, rfl⟩
      | leaf x fs => exact absurd hkl (by simp [kids])
      | row ps => exact absurd h2 (by show ¬ (("row" : Str) == "row") = false; decide)
      | choice m os => exact absurd h3 (by show ¬ (("choice" : Str) == "choice") = false; decide)
    obtain ⟨k', rfl⟩ : ∃ k', ks = [k'] := by
      match ks, hsl with
      | [k'], _ => exact ⟨k', rfl⟩
    have hcut : cutX (.str (word (.one x fs pp)) :: fields (.one x fs pp)) none (some (-1)) = .str x :: fs := cut_init (xs := .str x :: fs) (x := enc pp)
    refine s_ret st (ev_op (ev_is (ev_slT (ev_enc rfl) eo_none (eo_some (ev_un ev_int))) (congrArg PyData.tuple hcut)) (ev_tup (ea_cons (ev_op (ev_var rfl) ev_int (rd_ixL at0)) ea_nil) (by simp)) (rd_catT (by have := ho.1.2.1; simp; omega))) fun v B7 H7 x7 w7 d7 => ?_
    rw [enc_eq] at q
    exact q v B7 H7 ((((((x1.trans x2).trans x3).trans x4).trans x5).trans x6).trans x7) w7 d7

end
end Toy
set_option Elab.async false
set_option linter.all false
set_option maxRecDepth 100000
set_option maxHeartbeats 4000000
namespace Toy
open PySem PySem.Spec PyProof.Rows L2 StX DL PT
section
variable {P : Program} {w : World} {K : PySem.W.Frag} {mg : Str → Option Value} {base : Heap} {aH : Addr}


def R_paths (h : Nat) (ds : List PyData) (d : PyData) : Prop := ∃ t, ok h t ∧ ds = [enc t] ∧ d = .list ((subs h t).map encQ)
theorem ok_law_paths {f fp : Addr} {fd fdp : FuncData} (T : Txt K mg aH) (a : At K mg "_law_paths" s_law_paths ["part"] f fd) (ap : At K mg "_law_children" s_law_children ["part"] fp fdp) : ∀ h, h ≤ 7 → FnOk P w K mg base CX0 (h + 3) f fd ["part"] (SpR K (R_paths h))
  | 0, _ => SpR_false fun ds d ⟨t, o, _⟩ => o
  | h + 1, hh => by
    have C_law_children := ap.cal (ok_law_children (P := P) (w := w) (base := base) T ap)
    have C_law_paths := a.cal (ok_law_paths T a ap h (by omega))
    refine ok_fn a.fn sc_law_paths (by rintro ds d ⟨t, _, rfl, _⟩; rfl) fun cdv A outer s H0 E hr ds d ⟨t, ho, e1, e2⟩ => ?_
    subst e1 e2
    refine ⟨_, (pss_cons (ps_set (i := 1) sc_law_paths.nd rfl (Or.inl rfl) (pe_lst (pa_cons (pe_tup (pa_cons (pe_tup pa_nil) (pa_cons (pv 0) pa_nil))) pa_nil)))
    (pss_cons (ps_set (i := 2) sc_law_paths.nd rfl (Or.inl rfl) (pe_cal C_law_children hr (by omega) (by rfl) (pa_cons (pv 0) pa_nil)))
    (pss_cons (ps_for PassesOwn.never rfl (pi_range1 (by rfl) T.b_range (pa_cons (pe_callB (call_lenK K) (by rfl) T.b_len PySem.boot_len (pa_cons (pv 2) pa_nil)) pa_nil)) (pg_name (i := 3) sc_law_paths.nd rfl (Or.inr rfl)) (pss_one (ps_set (i := 1) sc_law_paths.nd rfl (Or.inl rfl) (pe_op op_cat (pv 1) (pe_lc (own := [("path", 4), ("below", 5)]) (by rfl) sc_law_paths.nd (pi_listK K (pe_cal C_law_paths hr (by omega) (by rfl) (pa_cons (pe_ix (ix_listK K) (pv 2) (pv 3) (fun _ _ => rfl)) pa_nil))) (blkOk_by (own := [("path", 4), ("below", 5)]) (N := N_sc_law_paths) (sc := defScope s_law_paths) (by decide +kernel)) (fun _ _ _ _ _ => (pg_tupK K (n := 2) (by rfl) (pgs_cons (pg_name (i := 4) sc_law_paths.nd rfl (Or.inl rfl)) (pgs_cons (pg_name (i := 5) sc_law_paths.nd rfl (Or.inl rfl)) pgs_nil)))) (fun _ _ _ _ _ => pts_nil) (fun _ _ _ _ _ => (pe_tup (pa_cons (pe_op (op_catAK K) (pe_tup (pa_cons (pv 3) pa_nil)) (pv 4)) (pa_cons (pv 5) pa_nil)))))))))
    (pss_one (ps_ret (pv 1)))))), fun B O σ H Q st q => ?_⟩
    have hk := kids_len ho.1
    have hS : ∀ c, c ∈ kids t → (subs h c).length ≤ cntP h := fun c hc => subs_len (ho.2 c hc)
    refine q_asg st (ev_lst (ea_cons (ev_tup (ea_cons (ev_tup ea_nil (by simp)) (ea_cons (ev_var rfl) ea_nil)) (by simp)) ea_nil) (by simp)) fun v1 B1 H1 x1 d1 st => ?_
    refine q_asg st (el_call (ea_cons (ev_var rfl) ea_nil) ⟨t, ho.1, rfl, rfl⟩).d fun v2 B2 H2 x2 d2 st => ?_
    refine q_for st (ei_range1 (ea_cons (ev_cb (ea_cons (ev_var rfl) ea_nil) rc_lenL) ea_nil) (by rw [List.length_map]; omega))
      (fun i B' O' G' => O' = O ∧ ∃ g3, G' = [.dat (enc t), .dat (.list ((subsTo (subs h) t i).map encQ)), .dat (.list ((kids t).map enc)), g3, .un, .un])
      (fun i B1 B2 O1 G1 e x => x) ⟨rfl, _, rfl⟩ ?_ ?_
    · rintro i e B3 O3 G3 σ3 H3 v hie x3 ⟨rfl, g3, rfl⟩ st dv N hN
      obtain ⟨hi, rfl⟩ := range_inv hie
      have hi' : i < (kids t).length := by simpa using hi
      have hc : (kids t)[i]? = some (kids t)[i] := List.getElem?_eq_getElem hi'
      generalize (kids t)[i] = c at hc
      have hcm : c ∈ kids t := List.mem_of_getElem? hc
      refine eg_name B3 _ σ3 H3 v st dv _ fun σ4 st _ => ?_
      have hl1 := subsTo_len hS i
      have hl2 := cnt_mono (h := h) (by omega) (n := i + 1) (by omega)
      have hl3 := hS c hcm
      rw [Nat.succ_mul] at hl2
      refine s_asg st (ev_op (ev_var rfl) (ev_map (subs h c) encQ (fun q => encQ ((i : Int) :: q.1, q.2)) (fun q => [.dat (enc t), .dat (.list ((subsTo (subs h) t i).map encQ)), .dat (.list ((kids t).map enc)), .dat (.int (0 + (i : Int))), .dat (encP q.1), .dat (enc q.2)])
        (ei_list (ev_call (ea_cons (ev_op (ev_var rfl) (ev_var rfl) (rd_ixL (at_nn (x := enc c) (by omega) (by rw [List.getElem?_map, show ((0 : Int) + (i : Int)).toNat = i by omega, hc]; rfl)))) ea_nil) ⟨c, ho.2 c hcm, rfl, rfl⟩)) (by omega) (fun q _ => eg_pairW (by decide) (by decide)) (fun q hq => ?_))
        (rd_cat (by rw [List.length_map, List.length_map]; omega))) fun v5 B5 H5 x5 d5 st => ?_
      · refine ev_tup (ea_cons (ev_is (ev_op (ev_tup (ea_cons (ev_var rfl) ea_nil) (by simp)) (ev_var (d := .tuple (q.1.map .int)) rfl) (rd_catT (by
          have := subs_path (p := q.1) (c := q.2) hq
          simp
          omega))) ?_) (ea_cons (ev_var rfl) ea_nil)) (by simp)
        show PyData.tuple ([.int (0 + (i : Int))] ++ q.1.map .int) = encP ((i : Int) :: q.1)
        rw [Int.zero_add]
        rfl
      · refine hN B5 _ _ _ _ x5 ⟨rfl, .dat (.int (0 + (i : Int))), ?_⟩ st
        rw [subsTo_succ hc, List.map_append, List.map_map]
        rfl
    · rintro B3 O3 G3 σ3 H3 x3 ⟨rfl, g3, rfl⟩ st
      rw [rangeD_len, Int.toNat_natCast, List.length_map] at st
      refine s_ret st (ev_var rfl) fun v B4 H4 x4 w4 d4 => ?_
      exact q v B4 H4 (((x1.trans x2).trans x3).trans x4) w4 d4

end
end Toy
set_option Elab.async false
set_option linter.all false
set_option maxRecDepth 100000
set_option maxHeartbeats 4000000
namespace Toy
open PySem PySem.Spec PyProof.Rows L2 StX DL PT
section
variable {P : Program} {w : World} {K : PySem.W.Frag} {mg : Str → Option Value} {base : Heap} {aH : Addr}


/-- a draw: any number below the count, the pool goes on -/
def PreDraw (gs : List SD) (_ O : Hp) (R : PyData → Hp → Prop) : Prop := ∃ p n, gs = [.val (.ref p), .dat (.int n)] ∧ PoolAt O p ∧ 0 < n ∧ n < 1000000 ∧ R = fun d O' => ∃ r, d = .int r ∧ 0 ≤ r ∧ r < n ∧ Mv p O O'
theorem ok_law_draw {f : Addr} {fd : FuncData} (T : Txt K mg aH) (a : At K mg "_law_draw" s_law_draw ["pool", "count"] f fd) : FnOk P w K mg base CX0 2 f fd ["pool", "count"] (SpX K PreDraw) := by
  refine ok_fnX a.fn sc_law_draw (by rintro gs B O R ⟨p, n, rfl, _⟩; rfl) fun cdv A outer s H0 E hr => ?_
  refine ⟨_, (pss_cons (ps_if (pt_cmpR op_gt (pe_ix (ix_listK K) (pv 0) pe_int (fun _ _ => rfl)) pe_int (nomark _)) (pss_cons (ps_set (i := 2) sc_law_draw.nd rfl (Or.inl rfl) (pe_op op_mod (pe_callTy call_int1 (by rfl) T.b_int (by decide +kernel) (pa_cons (pe_ix (ix_listK K) (pv 0) pe_int (fun _ _ => rfl)) pa_nil)) (pv 1)))
    (pss_cons (ps_asg (pe_op op_fdiv (pe_callTy call_int1 (by rfl) T.b_int (by decide +kernel) (pa_cons (pe_ix (ix_listK K) (pv 0) pe_int (fun _ _ => rfl)) pa_nil)) (pv 1)) (pg_sub (pv 0) pe_int set_list))
    (pss_one (ps_ret (pv 2))))) pss_nil)
    (pss_cons (ps_asg (pe_op op_mod (pe_callTy call_int1 (by rfl) T.b_int (by decide +kernel) (pa_cons (pe_op op_add (pe_op op_mul (pe_ix (ix_listK K) (pv 0) pe_int (fun _ _ => rfl)) pe_int) pe_int) pa_nil)) pe_int) (pg_sub (pv 0) pe_int set_list))
    (pss_one (ps_ret (pe_op op_mod (pe_callTy call_int1 (by rfl) T.b_int (by decide +kernel) (pa_cons (pe_op op_fdiv (pe_op op_mod (pe_callTy call_int1 (by rfl) T.b_int (by decide +kernel) (pa_cons (pe_op op_mul (pe_ix (ix_listK K) (pv 0) pe_int (fun _ _ => rfl)) (pe_ix (ix_listK K) (pv 0) pe_int (fun _ _ => rfl))) pa_nil)) pe_int) pe_int) pa_nil)) (pv 1)))))), ?_⟩
  rintro gs B O R σ H Q ⟨p, n, rfl, ⟨x, y, ep, hy0, hy1⟩, hn0, hn1, rfl⟩ st q
  have dv : ∀ {B' : Hp}, DtAll K B' [V.int x, V.int y] [.int x, .int y] := fun {B'} => ints_dps [x, y]
  refine q_when st (et_test (ev_op (ev_ixO rfl ep dv ev_int at0) ev_int rd_B0)) (fun h1 B1 H1 x1 st => ?_) (fun h1 B1 H1 x1 st => ?_)
  · have hx : 0 < x := by simpa using h1
    refine q_asg st (ev_op (ev_cb (ea_cons (ev_ixO rfl ep dv ev_int at0) ea_nil) rc_intI) (ev_var rfl) (rd_I hn0)) fun v2 B2 H2 x2 d2 st => ?_
    refine q_setO st rfl ep (ev_op (ev_cb (ea_cons (ev_ixO rfl ep dv ev_int at0) ea_nil) rc_intI) (ev_var rfl) (rd_I ⟨hn0, by omega⟩)) ev_int (j := 0) (by rfl) fun v3 B3 H3 x3 d3 st => ?_
    rw [dp_int d3] at st
    refine s_ret st (ev_var rfl) fun v4 B4 H4 x4 w4 d4 => ?_
    refine q v4 _ B4 _ H4 (((x1.trans x2).trans x3).trans x4) ⟨x % n, rfl, Int.emod_nonneg _ (by omega), Int.emod_lt_of_pos _ hn0, ⟨x / n, y, upd_same, hy0, hy1⟩, fun a ha => upd_ne ha⟩ w4 d4
  · refine q_setO st rfl ep (ev_op (ev_cb (ea_cons (ev_op (ev_op (ev_ixO rfl ep dv ev_int at1) ev_int (rd_I (.inr ⟨by decide, by decide⟩))) ev_int rd_I0) ea_nil) rc_intI) ev_int (rd_I (by decide))) ev_int (j := 1) (by rfl) fun v3 B3 H3 x3 d3 st => ?_
    rw [dp_int d3] at st
    have hz0 : 0 ≤ (y * 48271 + 11) % 2147483647 := Int.emod_nonneg _ (by decide)
    have hz1 : (y * 48271 + 11) % 2147483647 < 2147483647 := Int.emod_lt_of_pos _ (by decide)
    generalize (y * 48271 + 11) % 2147483647 = z at st hz0 hz1
    have st' : Sta K B3 (upd O p (.lst [.int x, .int z])) _ _ _ := st
    have dz : ∀ {B' : Hp}, DtAll K B' [V.int x, V.int z] [.int x, .int z] := fun {B'} => ints_dps [x, z]
    refine s_ret st' (ev_op (ev_cb (ea_cons (ev_op (ev_op (ev_cb (ea_cons (ev_op (ev_ixO rfl upd_same dz ev_int at1) (ev_ixO rfl upd_same dz ev_int at1) (rd_I (.inl ⟨by omega, by omega⟩))) ea_nil) rc_intI) ev_int (rd_I (by decide))) ev_int (rd_I ⟨by decide, by decide⟩)) ea_nil) rc_intI) (ev_var rfl) (rd_I hn0)) fun v4 B4 H4 x4 w4 d4 => ?_
    exact q v4 _ B4 _ H4 ((x1.trans x3).trans x4) ⟨_, rfl, Int.emod_nonneg _ (by omega), Int.emod_lt_of_pos _ hn0, ⟨x, z, upd_same, hz0, hz1⟩, fun a ha => upd_ne ha⟩ w4 d4

end
end Toy
set_option Elab.async false
set_option linter.all false
set_option maxRecDepth 100000
set_option maxHeartbeats 4000000
namespace Toy
open PySem PySem.Spec PyProof.Rows L2 StX DL PT
section
variable {P : Program} {w : World} {K : PySem.W.Frag} {mg : Str → Option Value} {base : Heap} {aH : Addr}


theorem ev_lenS {B O : Hp} {G : List SD} {i : Nat} {a : Addr} {xs : List V} (hg : G[i]? = some (.val (.ref a))) (hs : SqL K B a xs) : EvD K B O G (tCB (fun xs H Q => ∃ p ys, xs = [.ref p] ∧ (SqL K H p ys ∨ SqT K H p ys) ∧ Q (.int ys.length) H) (tCons (tVar i) tNil)) (.int xs.length) := fun B1 O1 σ H e o s Q q => by
  obtain ⟨sv, h1, h2⟩ := s.s.get hg
  have h3 : sv = some (.ref a) := h2
  subst h3
  exact ⟨_, h1, a, xs, rfl, .inl (sl_ex (e.trans s.w.b) hs), q _ B1 H (Ex.refl _) s.w (.int _)⟩
theorem ev_ixS {B O : Hp} {G : List SD} {i : Nat} {a : Addr} {ns : List Int} {tb : TE} {k z : Int} (hg : G[i]? = some (.val (.ref a))) (hs : SqL K B a (ns.map V.int)) (hb : EvD K B O G tb (.int k)) (h : atI ns k = some z) : EvD K B O G (tOp (rIxL K) (tVar i) tb) (.int z) := fun B1 O1 σ H e o s Q q => by
  obtain ⟨sv, h1, h2⟩ := s.s.get hg
  have h3 : sv = some (.ref a) := h2
  subst h3
  refine ⟨_, h1, ?_⟩
  refine hb B1 O1 σ H e o s _ fun v B2 H2 e2 w2 d2 => ?_
  rw [dp_int d2]
  refine ⟨a, ns.map V.int, k, .int z, rfl, rfl, sl_ex ((e.trans e2).trans w2.b) hs, ?_, q _ B2 H2 e2 w2 (.int _)⟩
  unfold atI at h ⊢
  rw [List.length_map]
  cases hj : ixN ns.length k with
  | none => rw [hj] at h; cases h
  | some j =>
    rw [hj] at h
    have h' : ns[j]? = some z := h
    show (ns.map V.int)[j]? = _
    rw [List.getElem?_map, h']
    rfl
def SpPool (K : PySem.W.Frag) : Sp := fun vs H Q _ => ∃ (B O : Hp) (a : Addr) (ns : List Int) (k : Int), W B O H ∧ vs = [.ref a, .int k] ∧ SqL K B a (ns.map V.int) ∧ ns.length ≤ 63 ∧ 0 ≤ k ∧ k ≤ 63 ∧
  ∀ (p : Addr) (x y : Int) (B' H' : Hp), Ex B B' → O p = none → 0 ≤ y → y < 2147483647 → W B' (upd O p (.lst [.int x, .int y])) H' → Q (.ref p) H'
theorem ok_law_pool {f : Addr} {fd : FuncData} (T : Txt K mg aH) (a : At K mg "_law_pool" s_law_pool ["script", "k"] f fd) : FnOk P w K mg base CX0 2 f fd ["script", "k"] (SpPool K) := by
  refine a.fn.ok sc_law_pool (fun vs H Q E h => ?_) (fun cdv A outer s H vs Q E hr h => ?_)
  · obtain ⟨B, O, a, ns, k, _, rfl, _⟩ := h
    rfl
  · obtain ⟨B, O, a, ns, k, hw, rfl, hs, hl, hk0, hk1, q⟩ := h
    refine ⟨_, (pss_cons (ps_set (i := 2) sc_law_pool.nd rfl (Or.inl rfl) pe_int)
    (Evl.pss_cut (ps_if (pt_cmpR op_lt (pv 1) (pe_callB (call_lenK K) (by rfl) T.b_len PySem.boot_len (pa_cons (pv 0) pa_nil)) (nomark _)) (pss_one (ps_set (i := 2) sc_law_pool.nd rfl (Or.inl rfl) (pe_ix (ix_listK K) (pv 0) (pv 1) (fun _ _ => rfl)))) pss_nil)
    (pss_cons (ps_set (i := 3) sc_law_pool.nd rfl (Or.inl rfl) (pe_callB call_abs (by rfl) T.b_abs (by decide +kernel) (pa_cons (pv 2) pa_nil)))
    (pss_cons (ps_set (i := 4) sc_law_pool.nd rfl (Or.inl rfl) (pe_op op_mod (pe_op op_mul (pe_op op_add (pe_op op_add (pe_op op_mod (pv 3) pe_int) (pe_op op_mul pe_int (pv 1))) pe_int) pe_int) pe_int))
    (pss_one (ps_ret (pe_lst (pa_cons (pe_op op_mul (pv 3) (pe_callTy call_int1 (by rfl) T.b_int (by decide +kernel) (pa_cons (pe_cmpR op_ge (pv 3) (pe_op op_pow pe_int pe_int) (nomark _)) pa_nil))) (pa_cons (pv 4) pa_nil))))))))), ?_⟩
    have st : Sta K B O [.val (.ref a), .dat (.int k), .un, .un, .un] (L2.start N_sc_law_pool [.ref a, .int k]) H := ⟨hw, ⟨rfl, ⟨_, rfl, .int k⟩, trivial, trivial, trivial, trivial⟩⟩
    refine q_asg st ev_int fun v1 B1 H1 x1 d1 st => ?_
    refine ⟨fun σ' H' => ∃ B' c, Ex B B' ∧ Sta K B' O [.val (.ref a), .dat (.int k), .dat (.int c), .un, .un] σ' H', ?_, ?_⟩
    · refine s_if st (et_test (ev_op (ev_var rfl) (ev_lenS rfl (sl_ex x1 hs)) rd_B0)) (fun h B2 H2 x2 st => ?_) (fun h B2 H2 x2 st => ?_)
      · have hlt : k < ns.length := by simpa using h
        have hk : ns[k.toNat]? = some ns[k.toNat] := List.getElem?_eq_getElem (by omega)
        refine s_asg st (ev_ixS rfl (sl_ex (x1.trans x2) hs) (ev_var rfl) (at_nn hk0 hk)) fun v3 B3 H3 x3 d3 st => ?_
        exact ⟨B3, _, (x1.trans x2).trans x3, st⟩
      · exact ⟨B2, 0, x1.trans x2, st⟩
    rintro σ2 H2 ⟨B2, c, x2, st⟩
    refine q_asg st (ev_cb (ea_cons (ev_var rfl) ea_nil) rc_abs) fun v3 B3 H3 x3 d3 st => ?_
    generalize (if c < 0 then -c else c) = z at st
    refine q_asg st (ev_op (ev_op (ev_op (ev_op (ev_op (ev_var rfl) ev_int (rd_I (by decide))) (ev_op ev_int (ev_var rfl) (rd_I (.inl ⟨by decide, by decide⟩))) rd_I0) ev_int rd_I0) ev_int (rd_I (.inr ⟨by decide, by decide⟩))) ev_int (rd_I (by decide))) fun v4 B4 H4 x4 d4 st => ?_
    have hy0 : 0 ≤ (z % 2147483629 + 7919 * k + 31) * 48271 % 2147483647 := Int.emod_nonneg _ (by decide)
    have hy1 : (z % 2147483629 + 7919 * k + 31) * 48271 % 2147483647 < 2147483647 := Int.emod_lt_of_pos _ (by decide)
    generalize (z % 2147483629 + 7919 * k + 31) * 48271 % 2147483647 = y at st hy0 hy1
    refine s_retL st (el_lst (ds := [.int _, .int y]) (ea_cons (ev_op (ev_var rfl) (ev_cb (ea_cons (ev_op (ev_var rfl) (ev_op ev_int ev_int (rd_I ⟨by decide, by decide, by decide⟩)) rd_B0) ea_nil) rc_intB) (rd_I (.inr (by split <;> decide)))) (ea_cons (ev_var rfl) ea_nil)) (by simp)) fun p ws B5 H5 x5 np w5 d5 => ?_
    have e := dps_ints (ns := [_, y]) d5
    subst e
    exact q p _ y B5 H5 (((x2.trans x3).trans x4).trans x5) np hy0 hy1 w5

end
end Toy
set_option Elab.async false
set_option linter.all false
set_option maxRecDepth 100000
set_option maxHeartbeats 4000000
namespace Toy
open PySem PySem.Spec PyProof.Rows L2 StX DL PT
section
variable {P : Program} {w : World} {K : PySem.W.Frag} {mg : Str → Option Value} {base : Heap} {aH : Addr}


section
variable {B O : Hp} {G : List SD} {te ta : TE} {i : Nat} {p r : Addr} {n : Int} {E : XK}
theorem ex_draw (hg : G[i]? = some (.val (.ref p))) (hp : PoolAt O p) (h0 : 0 < n) (h1 : n < 1000000) : EvX K B O G (tCall (SpX K PreDraw) [] E (tCons (tVar i) (tCons (tC (.int n)) tNil))) (fun d O' => ∃ r, d = .int r ∧ 0 ≤ r ∧ r < n ∧ Mv p O O') :=
  ex_call (as_val (evV_var hg) (as_dat ev_int as_nil)) fun B' _ => ⟨p, n, rfl, hp, h0, h1, rfl⟩
theorem at_some {ds : List PyData} {r : Int} (h0 : 0 ≤ r) (h1 : r < ds.length) : ∃ z, z ∈ ds ∧ atI ds r = some z := by
  have hk : ds[r.toNat]? = some ds[r.toNat] := List.getElem?_eq_getElem (by omega)
  exact ⟨_, List.mem_of_getElem? hk, at_nn h0 hk⟩
/-- an item of a list, by a draw -/
theorem ex_pick {P : List PyData → Prop} (h : EvX K B O G ta (fun d O' => ∃ ds, d = .list ds ∧ P ds ∧ Mv p O O')) (hP : ∀ ds, P ds → (ds.length : Int) = n) (hg : G[i]? = some (.val (.ref p))) (h0 : 0 < n) (h1 : n < 1000000) :
    EvX K B O G (tOp (rIxL K) ta (tCall (SpX K PreDraw) [] E (tCons (tVar i) (tCons (tC (.int n)) tNil)))) (fun z O' => (∃ ds, P ds ∧ z ∈ ds) ∧ Mv p O O') :=
  ex_op h (R2' := fun _ O' d2 O'' => ∃ r, d2 = .int r ∧ 0 ≤ r ∧ r < n ∧ Mv p O' O'') (fun d1 B' O' _ ⟨ds, _, _, m⟩ => ex_draw hg m.pool h0 h1) fun d1 O' d2 O'' ⟨ds, e1, hp, m1⟩ ⟨r, e2, r0, r1, m2⟩ => by
    subst e1 e2
    obtain ⟨z, hz, ha⟩ := at_some (ds := ds) r0 (by rw [hP ds hp]; exact r1)
    exact ⟨z, rd_ixL ha, ⟨ds, hp, hz⟩, m1.trans m2⟩
theorem ex_lst0 {ds : List PyData} (hp : PoolAt O p) (h : EvD K B O G te (.list ds)) : EvX K B O G te (fun d O' => ∃ ds', d = .list ds' ∧ ds' = ds ∧ Mv p O O') := ex_imp (ex_pure h) fun d O' ⟨e1, e2⟩ => ⟨ds, e1, rfl, by rw [e2]; exact .refl hp⟩
end
def PreLeaf (gs : List SD) (_ O : Hp) (R : PyData → Hp → Prop) : Prop := ∃ p hw told, gs = [.val (.ref p), .dat hw, .dat (.bool told)] ∧ PoolAt O p ∧ good hw = true ∧ R = fun d O' => ∃ t, ok 1 t ∧ d = enc t ∧ Mv p O O'
theorem leaf_ok {w : Str} {fs : List PyData} (h : isLeafW w = true) (h1 : fs.length ≤ 3) (h2 : fs.all good = true) : ok 1 (.leaf w fs) := ⟨⟨h, h1, h2⟩, fun p hp => by simp [kids] at hp⟩
theorem ok_law_leaf {f fr : Addr} {fd fdr : FuncData} (T : Txt K mg aH) (a : At K mg "_law_leaf" s_law_leaf ["pool", "how", "told"] f fd) (ad : At K mg "_law_draw" s_law_draw ["pool", "count"] fr fdr) : FnOk P w K mg base CX0 3 f fd ["pool", "how", "told"] (SpX K PreLeaf) := by
  have C_law_draw := ad.cal (ok_law_draw (P := P) (w := w) (base := base) T ad)
  refine ok_fnX a.fn sc_law_leaf (by rintro gs B O R ⟨p, hw, told, rfl, _⟩; rfl) fun cdv A outer s H0 E hr => ?_
  refine ⟨_, (pss_cons (ps_set (i := 3) sc_law_leaf.nd rfl (Or.inl rfl) (pe_cal C_law_draw hr (by omega) (by rfl) (pa_cons (pv 0) (pa_cons pe_int pa_nil))))
    (pss_cons (ps_if (PW.pt (pw_and (pt_cmpR op_eq (pv 3) pe_int (nomark _)) (pw_and1 (pt_not (pt_val (pv 2)))))) (pss_one (ps_ret (pe_tup (pa_cons pe_str (pa_cons (pe_op op_add pe_int (pe_cal C_law_draw hr (by omega) (by rfl) (pa_cons (pv 0) (pa_cons pe_int pa_nil)))) pa_nil))))) pss_nil)
    (pss_cons (ps_if (pt_cmpR op_eq (pv 3) pe_int (nomark _)) (pss_one (ps_ret (pe_tup (pa_cons pe_str (pa_cons (pe_ix (ix_listK K) (pe_lst (pa_cons pe_int (pa_cons pe_int (pa_cons pe_int pa_nil)))) (pe_cal C_law_draw hr (by omega) (by rfl) (pa_cons (pv 0) (pa_cons pe_int pa_nil))) (fun _ _ => rfl)) (pa_cons (pv 1) pa_nil)))))) pss_nil)
    (pss_cons (ps_set (i := 4) sc_law_leaf.nd rfl (Or.inl rfl) (pe_ix (ix_listK K) (pe_lst (pa_cons pe_int (pa_cons pe_int (pa_cons pe_int pa_nil)))) (pe_cal C_law_draw hr (by omega) (by rfl) (pa_cons (pv 0) (pa_cons pe_int pa_nil))) (fun _ _ => rfl)))
    (pss_one (ps_ret (pe_tup (pa_cons pe_str (pa_cons (pv 4) (pa_cons (pe_ix (ix_listK K) (pe_lst (pa_cons pe_non (pa_cons pe_non (pa_cons pe_int pa_nil)))) (pe_cal C_law_draw hr (by omega) (by rfl) (pa_cons (pv 0) (pa_cons pe_int pa_nil))) (fun _ _ => rfl)) (pa_cons (pv 1) pa_nil))))))))))), ?_⟩
  rintro gs B O R σ H Q ⟨p, hw, told, rfl, hp, hgood, rfl⟩ st q
  refine qx_asg st (ex_draw rfl hp (by decide) (by decide)) fun v1 d1 B1 O1 H1 x1 ⟨k, e1, k0, k1, m1⟩ dv1 st => ?_
  subst e1
  refine q_when st (et_and (et_test (ev_op (ev_var rfl) ev_int rd_eqInt)) fun _ => et_not (et_B (ev_var rfl))) (fun h1 B2 H2 x2 st => ?_) (fun h1 B2 H2 x2 st => ?_)
  · refine sx_ret st (ex_tup (exs_cons (S := fun _ O' ds O'' => ∃ z, ds = [.int z] ∧ Mv p O' O'') (T := fun ds O'' => ∃ z, ds = [.str "need", .int z] ∧ Mv p O1 O'') (ex_pure ev_str) (fun d B' O' _ e => ?_) ?_) ?_) fun v d B3 O3 H3 x3 hR w3 d3 => ?_
    · obtain ⟨rfl, rfl⟩ := e
      refine exs_cons (S := fun _ O' ds O'' => ds = [] ∧ O'' = O') (ex_op (R3 := fun z O'' => ∃ y, z = .int y ∧ Mv p O' O'') (ex_pure ev_int) (R2' := fun _ O' d2 O'' => ∃ r, d2 = .int r ∧ 0 ≤ r ∧ r < 3 ∧ Mv p O' O'') (fun d1 B'' O'' _ e2 => ?_) ?_) (fun d B'' O'' _ _ => exs_nil) ?_
      · obtain ⟨rfl, rfl⟩ := e2
        exact ex_draw rfl m1.pool (by decide) (by decide)
      · rintro d1 O2 d2 O3 ⟨rfl, rfl⟩ ⟨r, rfl, _, _, m⟩
        exact ⟨_, rd_I0, _, rfl, m⟩
      · rintro d O2 ds O3 ⟨y, rfl, m⟩ ⟨rfl, rfl⟩
        exact ⟨y, rfl, m⟩
    · rintro d O2 ds O3 ⟨rfl, rfl⟩ ⟨z, rfl, m⟩
      exact ⟨z, rfl, m⟩
    · rintro ds O2 ⟨z, rfl, _⟩
      simp
    · obtain ⟨ds, rfl, z, rfl, m⟩ := hR
      exact q v _ B3 O3 H3 ((x1.trans x2).trans x3) ⟨.leaf "need" [.int z], leaf_ok (by decide) (by simp) (by simp [PT.good_int]), rfl, m1.trans m⟩ w3 d3
  refine q_when st (et_test (ev_op (ev_var rfl) ev_int rd_eqInt)) (fun h2 B3 H3 x3 st => ?_) (fun h2 B3 H3 x3 st => ?_)
  · refine sx_ret st (ex_tup (exs_cons (S := fun _ O' ds O'' => ∃ z, good z = true ∧ ds = [z, hw] ∧ Mv p O' O'') (T := fun ds O'' => ∃ z, good z = true ∧ ds = [.str "pad", z, hw] ∧ Mv p O1 O'') (ex_pure ev_str) (fun d B' O' _ e => ?_) ?_) ?_) fun v d B4 O4 H4 x4 hR w4 d4 => ?_
    · obtain ⟨rfl, rfl⟩ := e
      refine exs_cons (S := fun _ O' ds O'' => ds = [hw] ∧ O'' = O') (ex_pick (p := p) (P := fun ds => ds = [.int 2, .int 2, .int 3]) (ex_lst0 m1.pool (ev_lst (ea_cons ev_int (ea_cons ev_int (ea_cons ev_int ea_nil))) (by simp))) (by rintro ds rfl; rfl) rfl (by decide) (by decide)) (fun d B'' O'' _ _ => exs_cons (S := fun _ O' ds O'' => ds = [] ∧ O'' = O') (ex_pure (ev_var rfl)) (fun d B'' O'' _ _ => exs_nil) ?_) ?_
      · rintro d O2 ds O3 ⟨rfl, rfl⟩ ⟨rfl, rfl⟩
        exact ⟨rfl, rfl⟩
      · rintro d O2 ds O3 ⟨⟨ds', rfl, hz⟩, m⟩ ⟨rfl, rfl⟩
        refine ⟨d, ?_, rfl, m⟩
        have e : d = .int 2 ∨ d = .int 2 ∨ d = .int 3 := by simpa using hz
        rcases e with e | e | e <;> (subst e; exact PT.good_int)
    · rintro d O2 ds O3 ⟨rfl, rfl⟩ ⟨z, g, rfl, m⟩
      exact ⟨z, g, rfl, m⟩
    · rintro ds O2 ⟨z, _, rfl, _⟩
      simp
    · obtain ⟨ds, rfl, z, g, rfl, m⟩ := hR
      exact q v _ B4 O4 H4 (((x1.trans x2).trans x3).trans x4) ⟨.leaf "pad" [z, hw], leaf_ok (by decide) (by simp) (by simp [g, hgood]), rfl, m1.trans m⟩ w4 d4
  refine qx_asg st (ex_pick (p := p) (P := fun ds => ds = [.int 0, .int 0, .int 1]) (ex_lst0 m1.pool (ev_lst (ea_cons ev_int (ea_cons ev_int (ea_cons ev_int ea_nil))) (by simp))) (by rintro ds rfl; rfl) rfl (by decide) (by decide)) fun v4 d4 B4 O4 H4 x4 hR4 dv4 st => ?_
  obtain ⟨⟨ds4, e4, hz4⟩, m4⟩ := hR4
  subst e4
  have g4 : good d4 = true := by
    have e : d4 = .int 0 ∨ d4 = .int 0 ∨ d4 = .int 1 := by simpa using hz4
    rcases e with e | e | e <;> (subst e; exact PT.good_int)
  refine sx_ret st (ex_tup (exs_cons (S := fun _ O' ds O'' => ∃ z, good z = true ∧ ds = [d4, z, hw] ∧ Mv p O' O'') (T := fun ds O'' => ∃ z, good z = true ∧ ds = [.str "cell", d4, z, hw] ∧ Mv p O4 O'') (ex_pure ev_str) (fun d B' O' _ e => ?_) ?_) ?_) fun v d B5 O5 H5 x5 hR w5 d5 => ?_
  · obtain ⟨rfl, rfl⟩ := e
    refine exs_cons (S := fun _ O' ds O'' => ∃ z, good z = true ∧ ds = [z, hw] ∧ Mv p O' O'') (ex_pure (ev_var rfl)) (fun d B' O' _ e => ?_) ?_
    · obtain ⟨rfl, rfl⟩ := e
      refine exs_cons (S := fun _ O' ds O'' => ds = [hw] ∧ O'' = O') (ex_pick (p := p) (P := fun ds => ds = [.none, .none, .int 2]) (ex_lst0 m4.pool (ev_lst (ea_cons ev_non (ea_cons ev_non (ea_cons ev_int ea_nil))) (by simp))) (by rintro ds rfl; rfl) rfl (by decide) (by decide)) (fun d B'' O'' _ _ => exs_cons (S := fun _ O' ds O'' => ds = [] ∧ O'' = O') (ex_pure (ev_var rfl)) (fun d B'' O'' _ _ => exs_nil) ?_) ?_
      · rintro d O2 ds O3 ⟨rfl, rfl⟩ ⟨rfl, rfl⟩
        exact ⟨rfl, rfl⟩
      · rintro d O2 ds O3 ⟨⟨ds', rfl, hz⟩, m⟩ ⟨rfl, rfl⟩
        refine ⟨d, ?_, rfl, m⟩
        have e : d = .none ∨ d = .none ∨ d = .int 2 := by simpa using hz
        rcases e with e | e | e
        · subst e; exact PT.good_none
        · subst e; exact PT.good_none
        · subst e; exact PT.good_int
    · rintro d O2 ds O3 ⟨rfl, rfl⟩ ⟨z, g, rfl, m⟩
      exact ⟨z, g, rfl, m⟩
  · rintro d O2 ds O3 ⟨rfl, rfl⟩ ⟨z, g, rfl, m⟩
    exact ⟨z, g, rfl, m⟩
  · rintro ds O2 ⟨z, _, rfl, _⟩
    simp
  · obtain ⟨ds, rfl, z, g, rfl, m⟩ := hR
    exact q v _ B5 O5 H5 ((((x1.trans x2).trans x3).trans x4).trans x5) ⟨.leaf "cell" [d4, z, hw], leaf_ok (by decide) (by simp) (by simp [g, g4, hgood]), rfl, (m1.trans m4).trans m⟩ w5 d5

end
end Toy
set_option Elab.async false
set_option linter.all false
set_option maxRecDepth 100000
set_option maxHeartbeats 4000000
namespace Toy
open PySem PySem.Spec PyProof.Rows L2 StX DL PT
section
variable {P : Program} {w : World} {K : PySem.W.Frag} {mg : Str → Option Value} {base : Heap} {aH : Addr}


def del (O : Hp) (l : Addr) : Hp := fun a => if a = l then none else O a
theorem del_same {O : Hp} {l : Addr} : del O l l = none := if_pos rfl
theorem del_ne {O : Hp} {l a : Addr} (h : a ≠ l) : del O l a = O a := if_neg h
theorem del_ex {O : Hp} {l : Addr} : Ex (del O l) O := fun a o e => by
  unfold del at e
  split at e
  · cases e
  · exact e
theorem W.sub {B O O' H : Hp} (w : W B O H) (e : Ex O' O) : W B O' H := ⟨w.b, fun a o h => w.o a o (e a o h), fun a => by
  rcases w.d a with q | q
  · exact .inl q
  · refine .inr ?_
    cases h : O' a with
    | none => rfl
    | some o => rw [e a o h] at q; cases q⟩
theorem upd_del {O : Hp} {l : Addr} {u : HO} (h : O l = some u) : O = upd (del O l) l u := by
  funext a
  by_cases e : a = l
  · subst e
    rw [h, upd_same]
  · rw [upd_ne e, del_ne e]
def psP : List Str := ["pool", "room", "depth", "limits", "told"]
def PreP (h : Nat) (gs : List SD) (_ O : Hp) (R : PyData → Hp → Prop) : Prop := ∃ p r limits told, (0 < h ∧ h ≤ 7) ∧ gs = [.val (.ref p), .val (.ref r), .dat (.int (7 - (h : Int))), .dat (.int limits), .dat (.bool told)] ∧ PoolAt O p ∧ RoomAt O r ∧ R = fun d O' => ∃ t, ok h t ∧ d = enc t ∧ Mv2 p r O O'
abbrev CalPart (P : Program) (w : World) (K : PySem.W.Frag) (mg : Str → Option Value) (base : Heap) (h : Nat) : Prop := Cal P w K mg base (2 * h + 12) "_law_part" ["pool", "room", "depth", "limits", "told"] (SpX K (PreP h))
def encO (o : Int × Part) : PyData := .tuple [.int o.1, enc o.2]
def PreO (h : Nat) (gs : List SD) (_ O : Hp) (R : PyData → Hp → Prop) : Prop := ∃ p r limits told, (0 < h ∧ h ≤ 7) ∧ gs = [.val (.ref p), .val (.ref r), .dat (.int (7 - (h : Int))), .dat (.int limits), .dat (.bool told)] ∧ PoolAt O p ∧ RoomAt O r ∧
  R = fun d O' => ∃ os : List (Int × Part), d = .tuple (os.map encO) ∧ 0 < os.length ∧ os.length ≤ 6 ∧ (∀ o, o ∈ os → ok h o.2) ∧ Mv2 p r O O'
theorem cut_to {ds : List PyData} {r : Int} (h : 0 ≤ r) : cutX ds none (some r) = ds.take r.toNat := by
  have e : HT.sIx ds.length ds.length (some r) = min r.toNat ds.length := by
    have := HT.sIx_nat ds.length ds.length r.toNat
    rwa [show ((r.toNat : Nat) : Int) = r by omega] at this
  unfold cutX
  rw [e, HT.sIx_none, List.drop_zero, Nat.sub_zero]
  by_cases hl : r.toNat ≤ ds.length
  · rw [Nat.min_eq_left hl]
  · rw [Nat.min_eq_right (by omega), List.take_length, List.take_of_length_le (by omega)]
theorem eqv_nilO {os : List (Int × Part)} : PyData.eqv (.list (os.map encO)) (.list []) = os.isEmpty := by
  cases os with
  | nil => rfl
  | cons n ns => simp [PyData.eqv, PyData.eqvAll]
def nums6 : List PyData := [.int 0, .int 2, .int 3, .int 7, .int 8, .int 99]
theorem ok_law_options {h : Nat} {f fr : Addr} {fd fdr : FuncData} (T : Txt K mg aH) (a : At K mg "_law_options" s_law_options ["pool", "room", "depth", "limits", "told"] f fd) (ad : At K mg "_law_draw" s_law_draw ["pool", "count"] fr fdr) (C_law_part : CalPart P w K mg base h) :
    FnOk P w K mg base CX0 (2 * h + 13) f fd ["pool", "room", "depth", "limits", "told"] (SpX K (PreO h)) := by
  have C_law_draw := ad.cal (ok_law_draw (P := P) (w := w) (base := base) T ad)
  refine ok_fnX a.fn sc_law_options (by rintro gs B O R ⟨p, r, lm, told, _, rfl, _⟩; rfl) fun cdv A outer s H0 E hr => ?_
  refine ⟨_, (pss_cons (ps_set (i := 5) sc_law_options.nd rfl (Or.inl rfl) (pe_lst pa_nil))
    (pss_cons (ps_for PassesOwn.never rfl (pi_listK K (pe_slice (sl_listK K) (pe_lst (pa_cons pe_int (pa_cons pe_int (pa_cons pe_int (pa_cons pe_int (pa_cons pe_int (pa_cons pe_int pa_nil))))))) po_none (po_some (pe_op op_add pe_int (pe_cal C_law_draw hr (by omega) (by rfl) (pa_cons (pv 0) (pa_cons pe_int pa_nil))))))) (pg_name (i := 6) sc_law_options.nd rfl (Or.inl rfl)) (pss_one (ps_if (PW.pt (pw_or (pt_cmpR (op_eqDK K hr.units) (pv 5) (pe_lst pa_nil) (nomark _)) (pw_or1 (pt_cmpR op_gt (pe_ix (ix_listK K) (pv 1) pe_int (fun _ _ => rfl)) pe_int (nomark _))))) (pss_one (ps_expr (pe_bm PySem.F.plainAttrs_list PySem.F.slot_list_append PySem.F.type_list_append mt_append (pv 5) (pa_cons (pe_tup (pa_cons (pv 6) (pa_cons (pe_cal C_law_part hr (by omega) (by rfl) (pa_cons (pv 0) (pa_cons (pv 1) (pa_cons (pv 2) (pa_cons (pv 3) (pa_cons (pv 4) pa_nil)))))) pa_nil))) pa_nil)))) pss_nil)))
    (pss_one (ps_ret (pe_callTy (call_tupleK K) (by rfl) T.b_tuple (by decide +kernel) (pa_cons (pv 5) pa_nil)))))), ?_⟩
  rintro gs B O R σ H Q ⟨p, r, lm, told, hh, rfl, hp, hrm, rfl⟩ st q
  refine q_asgL st (el_lst ea_nil (by simp)) fun l vs0 B1 H1 x1 nl dv0 st => ?_
  have e0 : vs0 = [] := by cases dv0; rfl
  subst e0
  have lp : l ≠ p := by
    obtain ⟨_, _, e, _⟩ := hp
    intro z
    subst z
    rw [nl] at e
    cases e
  have lr : l ≠ r := by
    obtain ⟨_, e⟩ := hrm
    intro z
    subst z
    rw [nl] at e
    cases e
  have hp1 : PoolAt (upd O l (.lst [])) p := by
    obtain ⟨x, y, e, hy⟩ := hp
    exact ⟨x, y, by rw [upd_ne lp.symm]; exact e, hy⟩
  have hr1 : RoomAt (upd O l (.lst [])) r := by
    obtain ⟨z, e⟩ := hrm
    exact ⟨z, by rw [upd_ne lr.symm]; exact e⟩
  refine qx_for st (T := fun es O' => (∃ m : Nat, 0 < m ∧ es = nums6.take m) ∧ Mv p (upd O l (.lst [])) O') (eix_list (ex_imp (ex_slL (P := fun rr O' => 0 < rr ∧ Mv p (upd O l (.lst [])) O') (ev_lst (ea_cons ev_int (ea_cons ev_int (ea_cons ev_int (ea_cons ev_int (ea_cons ev_int (ea_cons ev_int ea_nil)))))) (by simp))
      (ex_op (ex_pure ev_int) (R2' := fun _ O' d2 O'' => ∃ r, d2 = .int r ∧ 0 ≤ r ∧ r < 6 ∧ Mv p O' O'') (fun d1 B' O' _ e => ?_) ?_)) ?_))
    (fun es i B' O' G' => (∃ m : Nat, 0 < m ∧ es = nums6.take m) ∧ ∃ (vs : List V) (os : List (Int × Part)), O' l = some (.lst vs) ∧ DtAll K B' vs (os.map encO) ∧ (∀ o, o ∈ os → ok h o.2) ∧ os.length ≤ i ∧ (0 < i → 0 < os.length) ∧ PoolAt O' p ∧ RoomAt O' r ∧ (∀ a, a ≠ p → a ≠ r → a ≠ l → O' a = O a) ∧
      ∃ g6 : SD, G' = [.val (.ref p), .val (.ref r), .dat (.int (7 - (h : Int))), .dat (.int lm), .dat (.bool told), .val (.ref l), g6])
    ?_ ?_ ?_ ?_
  · obtain ⟨rfl, rfl⟩ := e
    exact ex_draw rfl hp1 (by decide) (by decide)
  · rintro d1 O2 d2 O3 ⟨rfl, rfl⟩ ⟨rr, rfl, r0, r1, m⟩
    exact ⟨_, rd_I0, _, rfl, by omega, m⟩
  · rintro d O' ⟨rr, rfl, r0, m⟩
    exact ⟨_, rfl, ⟨rr.toNat, by omega, cut_to (by omega)⟩, m⟩
  · rintro es i B2 B3 O2 G2 e ⟨hm, vs, os, a1, a2, a3⟩
    exact ⟨hm, vs, os, a1, dps_ex e _ _ a2, a3⟩
  · rintro es O' B2 e ⟨hm, m⟩
    refine ⟨hm, [], [], ?_, .nil, by simp, by simp, by simp, m.pool, (m.two hp1 hr1).room, fun a h1 h2 h3 => ?_, _, rfl⟩
    · rw [m.fr l lp, upd_same]
    · rw [m.fr a h1, upd_ne h3]
  · rintro es i e B2 O2 G2 σ2 H2 v hie x2 ⟨⟨m, hm0, rfl⟩, vs, os, hl, dvs, hok, hlen, hpos, hp2, hr2, hfr, g6, rfl⟩ st dv N hN
    have hmem : e ∈ nums6 := List.mem_of_mem_take (List.mem_of_getElem? hie)
    have hi6 : i < 6 := by
      have := (List.getElem?_eq_some_iff.mp hie).1
      rw [List.length_take] at this
      have h6 : nums6.length = 6 := rfl
      omega
    obtain ⟨n, rfl⟩ : ∃ n, e = .int n := by
      have e' : e = .int 0 ∨ e = .int 2 ∨ e = .int 3 ∨ e = .int 7 ∨ e = .int 8 ∨ e = .int 99 := by simpa [nums6] using hmem
      rcases e' with e' | e' | e' | e' | e' | e' <;> exact ⟨_, e'⟩
    obtain ⟨z, hz⟩ := id hr2
    refine eg_name B2 _ σ2 H2 v st dv _ fun σ3 st _ => ?_
    have hvl := dps_len dvs
    rw [List.length_map] at hvl
    refine s_if st (et_or (et_test (ev_eqO rfl hl dvs (ev_lst ea_nil (by simp)) ((lay_opts hok).sh (by omega)) sh_nilL eqv_nilO)) fun _ => et_test (ev_op (ev_ixO rfl hz (ints_dps [z]) ev_int at0) ev_int rd_B0)) (fun h1 B3 H3 x3 st => ?_) (fun h1 B3 H3 x3 st => ?_)
    · refine sx_app st rfl hl (by omega) (ex_tup (T := fun ds O'' => ∃ t, ok h t ∧ ds = [.int n, enc t] ∧ Mv2 p r O2 O'') (exs_cons (S := fun _ O' ds O'' => ∃ t, ok h t ∧ ds = [enc t] ∧ Mv2 p r O' O'') (ex_pure (ev_var rfl)) (fun d B' O' _ e => ?_) ?_) ?_) ?_ fun v4 d4 B4 O4 H4 x4 hR d4' st => ?_
      · obtain ⟨rfl, rfl⟩ := e
        refine exs_cons (R := fun d O'' => ∃ t, ok h t ∧ d = enc t ∧ Mv2 p r O' O'') (S := fun _ O' ds O'' => ds = [] ∧ O'' = O') (ex_call (as_val (evV_var rfl) (as_val (evV_var rfl) (as_dat (ev_var rfl) (as_dat (ev_var rfl) (as_dat (ev_var rfl) as_nil))))) fun B'' _ => ⟨p, r, lm, told, hh, rfl, hp2, hr2, rfl⟩) (fun d B'' O'' _ _ => exs_nil) ?_
        rintro d O3 ds O4 ⟨t, ht, rfl, m2⟩ ⟨rfl, rfl⟩
        exact ⟨t, ht, rfl, m2⟩
      · rintro d O3 ds O4 ⟨rfl, rfl⟩ ⟨t, ht, rfl, m2⟩
        exact ⟨t, ht, rfl, m2⟩
      · rintro ds O3 ⟨t, _, rfl, _⟩
        simp
      · rintro d O3 ⟨ds, _, t, _, _, m2⟩
        rw [m2.fr l lp lr]
        exact hl
      · obtain ⟨ds, rfl, t, ht, rfl, m2⟩ := hR
        refine hN B4 _ _ _ _ (x3.trans x4) ⟨⟨m, hm0, rfl⟩, vs ++ [v4], os ++ [(n, t)], upd_same, ?_, fun o ho => ?_, ?_, ?_, ?_, ?_, fun a h1 h2 h3 => ?_, _, rfl⟩ st
        · rw [List.map_append]
          exact dps_app (dps_ex (x3.trans x4) _ _ dvs) (dps_one d4')
        · rcases List.mem_append.mp ho with ho | ho
          · exact hok o ho
          · have : o = (n, t) := by simpa using ho
            subst this
            exact ht
        · simp
          omega
        · simp
        · obtain ⟨x, y, e, hy⟩ := m2.pool
          exact ⟨x, y, by rw [upd_ne lp.symm]; exact e, hy⟩
        · obtain ⟨zz, e⟩ := m2.room
          exact ⟨zz, by rw [upd_ne lr.symm]; exact e⟩
        · rw [upd_ne h3, m2.fr a h1 h2]
          exact hfr a h1 h2 h3
    · have hne : os ≠ [] := by
        intro e
        subst e
        simp at h1
      exact hN B3 _ _ _ _ x3 ⟨⟨m, hm0, rfl⟩, vs, os, hl, dps_ex x3 _ _ dvs, hok, by omega, fun _ => List.length_pos_iff.mpr hne, hp2, hr2, hfr, _, rfl⟩ st
  · rintro es B2 O2 G2 σ2 H2 x2 ⟨⟨m, hm0, rfl⟩, vs, os, hl, dvs, hok, hlen, hpos, hp2, hr2, hfr, g6, rfl⟩ st
    have h6 : (nums6.take m).length ≤ 6 := List.length_take_le' m nums6
    have h1 : 0 < (nums6.take m).length := by
      rw [List.length_take]
      have : nums6.length = 6 := rfl
      omega
    refine s_ret st (ev_tupO rfl hl dvs) fun v B3 H3 x3 w3 d3 => ?_
    refine q v _ B3 (del O2 l) H3 ((x1.trans x2).trans x3) ⟨os, rfl, hpos h1, by omega, hok, ?_, ?_, fun a h1 h2 => ?_⟩ (W.sub w3 del_ex) d3
    · obtain ⟨x, y, e, hy⟩ := hp2
      exact ⟨x, y, by rw [del_ne lp.symm]; exact e, hy⟩
    · obtain ⟨zz, e⟩ := hr2
      exact ⟨zz, by rw [del_ne lr.symm]; exact e⟩
    · by_cases h3 : a = l
      · subst h3
        rw [del_same, nl]
      · rw [del_ne h3]
        exact hfr a h1 h2 h3

end
end Toy
set_option Elab.async false
set_option linter.all false
set_option maxRecDepth 100000
set_option maxHeartbeats 4000000
namespace Toy
open PySem PySem.Spec PyProof.Rows L2 StX DL PT
section
variable {P : Program} {w : World} {K : PySem.W.Frag} {mg : Str → Option Value} {base : Heap} {aH : Addr}


section
variable {B O : Hp} {G : List SD} {i : Nat} {p r : Addr} {n : Int} {E : XK}
theorem ex_nnd (hg : G[i]? = some (.val (.ref p))) (hp : PoolAt O p) (h0 : 0 < n) (h1 : n < 1000000) : EvX K B O G (tLst (tCons (tC .non) (tCons (tC .non) (tCons (tCall (SpX K PreDraw) [] E (tCons (tVar i) (tCons (tC (.int n)) tNil))) tNil)))) (fun d O' => ∃ ds, d = .list ds ∧ (∃ x, ds = [.none, .none, .int x]) ∧ Mv p O O') := by
  refine ex_imp (ex_lst (T := fun ds O' => ∃ x, ds = [.none, .none, .int x] ∧ Mv p O O') (exs_cons (S := fun _ O' ds O'' => ∃ x, ds = [.none, .int x] ∧ Mv p O' O'') (ex_pure ev_non) (fun d B' O' _ e => ?_) ?_) ?_) ?_
  · obtain ⟨rfl, rfl⟩ := e
    refine exs_cons (S := fun _ O' ds O'' => ∃ x, ds = [.int x] ∧ Mv p O' O'') (ex_pure ev_non) (fun d B' O' _ e => ?_) ?_
    · obtain ⟨rfl, rfl⟩ := e
      refine exs_cons (S := fun _ O' ds O'' => ds = [] ∧ O'' = O') (ex_draw hg hp h0 h1) (fun d B'' O'' _ _ => exs_nil) ?_
      rintro d O2 ds O3 ⟨x, rfl, _, _, m⟩ ⟨rfl, rfl⟩
      exact ⟨x, rfl, m⟩
    · rintro d O2 ds O3 ⟨rfl, rfl⟩ ⟨x, rfl, m⟩
      exact ⟨x, rfl, m⟩
  · rintro d O2 ds O3 ⟨rfl, rfl⟩ ⟨x, rfl, m⟩
    exact ⟨x, rfl, m⟩
  · rintro ds O2 ⟨x, rfl, _⟩
    simp
  · rintro d O2 ⟨ds, rfl, x, rfl, m⟩
    exact ⟨_, rfl, ⟨x, rfl⟩, m⟩
theorem ex_nd (hg : G[i]? = some (.val (.ref p))) (hp : PoolAt O p) (h0 : 0 < n) (h1 : n < 1000000) : EvX K B O G (tLst (tCons (tC .non) (tCons (tCall (SpX K PreDraw) [] E (tCons (tVar i) (tCons (tC (.int n)) tNil))) tNil))) (fun d O' => ∃ ds, d = .list ds ∧ (∃ x, ds = [.none, .int x]) ∧ Mv p O O') := by
  refine ex_imp (ex_lst (T := fun ds O' => ∃ x, ds = [.none, .int x] ∧ Mv p O O') (exs_cons (S := fun _ O' ds O'' => ∃ x, ds = [.int x] ∧ Mv p O' O'') (ex_pure ev_non) (fun d B' O' _ e => ?_) ?_) ?_) ?_
  · obtain ⟨rfl, rfl⟩ := e
    refine exs_cons (S := fun _ O' ds O'' => ds = [] ∧ O'' = O') (ex_draw hg hp h0 h1) (fun d B'' O'' _ _ => exs_nil) ?_
    rintro d O2 ds O3 ⟨x, rfl, _, _, m⟩ ⟨rfl, rfl⟩
    exact ⟨x, rfl, m⟩
  · rintro d O2 ds O3 ⟨rfl, rfl⟩ ⟨x, rfl, m⟩
    exact ⟨x, rfl, m⟩
  · rintro ds O2 ⟨x, rfl, _⟩
    simp
  · rintro d O2 ⟨ds, rfl, x, rfl, m⟩
    exact ⟨_, rfl, ⟨x, rfl⟩, m⟩
theorem ex_most (hg : G[i]? = some (.val (.ref p))) (hp : PoolAt O p) (h0 : 0 < n) (h1 : n < 1000000) : EvX K B O G (tOp (rIxL K) (tLst (tCons (tC .non) (tCons (tC .non) (tCons (tCall (SpX K PreDraw) [] E (tCons (tVar i) (tCons (tC (.int n)) tNil))) tNil)))) (tCall (SpX K PreDraw) [] E (tCons (tVar i) (tCons (tC (.int 3)) tNil)))) (fun d O' => good d = true ∧ Mv p O O') :=
  ex_imp (ex_pick (p := p) (P := fun ds => ∃ x, ds = [.none, .none, .int x]) (ex_nnd hg hp h0 h1) (by rintro ds ⟨x, rfl⟩; rfl) hg (by decide) (by decide)) fun d O' ⟨⟨ds, ⟨x, e⟩, hz⟩, m⟩ => by
    subst e
    have e : d = .none ∨ d = .none ∨ d = .int x := by simpa using hz
    rcases e with e | e | e
    · subst e; exact ⟨PT.good_none, m⟩
    · subst e; exact ⟨PT.good_none, m⟩
    · subst e; exact ⟨PT.good_int, m⟩
theorem ex_ahead (hg : G[i]? = some (.val (.ref p))) (hp : PoolAt O p) (h0 : 0 < n) (h1 : n < 1000000) : EvX K B O G (tOp (rIxL K) (tLst (tCons (tC .non) (tCons (tCall (SpX K PreDraw) [] E (tCons (tVar i) (tCons (tC (.int n)) tNil))) tNil))) (tCall (SpX K PreDraw) [] E (tCons (tVar i) (tCons (tC (.int 2)) tNil)))) (fun d O' => good d = true ∧ Mv p O O') :=
  ex_imp (ex_pick (p := p) (P := fun ds => ∃ x, ds = [.none, .int x]) (ex_nd hg hp h0 h1) (by rintro ds ⟨x, rfl⟩; rfl) hg (by decide) (by decide)) fun d O' ⟨⟨ds, ⟨x, e⟩, hz⟩, m⟩ => by
    subst e
    have e : d = .none ∨ d = .int x := by simpa using hz
    rcases e with e | e
    · subst e; exact ⟨PT.good_none, m⟩
    · subst e; exact ⟨PT.good_int, m⟩
/-- a word of a list, by a draw -/
theorem ex_word {ta : TE} {ws : List Str} (hp : PoolAt O p) (h : EvD K B O G ta (.list (ws.map .str))) (hl : (ws.length : Int) = n) (hw : ∀ w, w ∈ ws → PyData.strOk w = true) (hg : G[i]? = some (.val (.ref p))) (h0 : 0 < n) (h1 : n < 1000000) :
    EvX K B O G (tOp (rIxL K) ta (tCall (SpX K PreDraw) [] E (tCons (tVar i) (tCons (tC (.int n)) tNil)))) (fun d O' => ∃ w, w ∈ ws ∧ d = .str w ∧ Mv p O O') :=
  ex_imp (ex_pick (p := p) (P := fun ds => ds = ws.map .str) (ex_lst0 hp h) (by rintro ds rfl; rw [List.length_map]; exact hl) hg h0 h1) fun d O' ⟨⟨ds, e, hz⟩, m⟩ => by
    subst e
    obtain ⟨w, hw, rfl⟩ := List.mem_map.mp hz
    exact ⟨w, hw, rfl, m⟩
end
theorem Mv2.of {p r : Addr} {O O1 O2 : Hp} (a : Mv p O O1) (h : PoolAt O p) (h2 : RoomAt O r) (b : Mv2 p r O1 O2) : Mv2 p r O O2 := (a.two h h2).trans b
theorem ok_one {h : Nat} {w : Str} {fs : List PyData} {t : Part} (hw : isOneW w = true) (h1 : fs.length ≤ 4) (h2 : fs.all good = true) (h3 : w = "times" → ∃ n, fs = [.int n] ∧ 0 ≤ n ∧ n ≤ 6) (ht : ok h t) : ok (h + 1) (.one w fs t) := ⟨⟨hw, h1, h2, h3⟩, fun p hp => by
  have : p = t := by simpa [kids] using hp
  subst this
  exact ht⟩
def PreC (h : Nat) (gs : List SD) (_ O : Hp) (R : PyData → Hp → Prop) : Prop := ∃ p hw r limits told, (0 < h ∧ h ≤ 7) ∧ gs = [.val (.ref p), .dat hw, .val (.ref r), .dat (.int (7 - (h : Int))), .dat (.int limits), .dat (.bool told)] ∧ PoolAt O p ∧ RoomAt O r ∧ good hw = true ∧
  R = fun d O' => ∃ t, ok (h + 1) t ∧ d = enc t ∧ Mv2 p r O O'
theorem ok_law_counted {h : Nat} {f fr fs fp : Addr} {fd fdr fds fdp : FuncData} (T : Txt K mg aH) (a : At K mg "_law_counted" s_law_counted ["pool", "how", "room", "depth", "limits", "told"] f fd) (ad : At K mg "_law_draw" s_law_draw ["pool", "count"] fr fdr)
    (as : At K mg "_law_size" s_law_size ["part"] fs fds) (ap : At K mg "_law_children" s_law_children ["part"] fp fdp) (C_law_part : CalPart P w K mg base h) :
    FnOk P w K mg base CX0 (2 * h + 13) f fd ["pool", "how", "room", "depth", "limits", "told"] (SpX K (PreC h)) := by
  have C_law_draw := ad.cal (ok_law_draw (P := P) (w := w) (base := base) T ad)
  have C_law_size := as.cal (ok_law_size (P := P) (w := w) (base := base) T as ap h)
  refine ok_fnX a.fn sc_law_counted (by rintro gs B O R ⟨p, hw, r, lm, told, _, rfl, _⟩; rfl) fun cdv A outer s H0 E hr => ?_
  refine ⟨_, (pss_cons (ps_set (i := 6) sc_law_counted.nd rfl (Or.inl rfl) (pe_ix (ix_listK K) (pe_lst (pa_cons pe_non (pa_cons pe_non (pa_cons (pe_cal C_law_draw hr (by omega) (by rfl) (pa_cons (pv 0) (pa_cons pe_int pa_nil))) pa_nil)))) (pe_cal C_law_draw hr (by omega) (by rfl) (pa_cons (pv 0) (pa_cons pe_int pa_nil))) (fun _ _ => rfl)))
    (pss_cons (ps_set (i := 7) sc_law_counted.nd rfl (Or.inl rfl) (pe_ix (ix_listK K) (pe_lst (pa_cons pe_non (pa_cons (pe_cal C_law_draw hr (by omega) (by rfl) (pa_cons (pv 0) (pa_cons pe_int pa_nil))) pa_nil))) (pe_cal C_law_draw hr (by omega) (by rfl) (pa_cons (pv 0) (pa_cons pe_int pa_nil))) (fun _ _ => rfl)))
    (pss_cons (ps_set (i := 8) sc_law_counted.nd rfl (Or.inl rfl) (pe_cal C_law_part hr (by omega) (by rfl) (pa_cons (pv 0) (pa_cons (pv 2) (pa_cons (pv 3) (pa_cons (pv 4) (pa_cons (pv 5) pa_nil)))))))
    (Evl.pss_cut (ps_if (PW.pt (pw_or (pt_val (pv 5)) (pw_or1 (pt_cmpR op_isN (pe_cal C_law_size hr (by omega) (by rfl) (pa_cons (pv 8) pa_nil)) pe_non (nomark _))))) (pss_one (ps_set (i := 7) sc_law_counted.nd rfl (Or.inl rfl) pe_non)) pss_nil)
    (pss_one (ps_ret (pe_tup (pa_cons pe_str (pa_cons (pv 1) (pa_cons (pv 6) (pa_cons (pv 7) (pa_cons (pv 8) pa_nil)))))))))))), ?_⟩
  rintro gs B O R σ H Q ⟨p, hw, r, lm, told, hh, rfl, hp, hrm, hgood, rfl⟩ st q
  refine qx_asg st (ex_most rfl hp (by decide) (by decide)) fun v1 d1 B1 O1 H1 x1 ⟨g1, m1⟩ dv1 st => ?_
  have hr1 := (m1.two hp hrm).room
  refine qx_asg st (ex_ahead rfl m1.pool (by decide) (by decide)) fun v2 d2 B2 O2 H2 x2 ⟨g2, m2⟩ dv2 st => ?_
  have hr2 := (m2.two m1.pool hr1).room
  refine qx_asg st (R := fun d O' => ∃ t, ok h t ∧ d = enc t ∧ Mv2 p r O2 O') (ex_call (as_val (evV_var rfl) (as_val (evV_var rfl) (as_dat (ev_var rfl) (as_dat (ev_var rfl) (as_dat (ev_var rfl) as_nil))))) fun B'' _ => ⟨p, r, lm, told, hh, rfl, m2.pool, hr2, rfl⟩) fun v3 d3 B3 O3 H3 x3 ⟨t, ht, e3, m3⟩ dv3 st => ?_
  subst e3
  refine ⟨fun σ' H' => ∃ B' a', Ex B3 B' ∧ good a' = true ∧ Sta K B' O3 [.val (.ref p), .dat hw, .val (.ref r), .dat (.int (7 - (h : Int))), .dat (.int lm), .dat (.bool told), .dat d1, .dat a', .dat (enc t)] σ' H', ?_, ?_⟩
  · refine s_if st (et_or (et_B (ev_var rfl)) fun _ => et_test (ev_isNone (ev_call (ea_cons (ev_var rfl) ea_nil) ⟨t, ht, rfl, rfl⟩) ev_non rfl)) (fun _ B4 H4 x4 st => ?_) (fun _ B4 H4 x4 st => ?_)
    · refine s_asg st ev_non fun v5 B5 H5 x5 d5 st => ?_
      exact ⟨B5, _, x4.trans x5, PT.good_none, st⟩
    · exact ⟨B4, d2, x4, g2, st⟩
  rintro σ4 H4 ⟨B4, a', x4, ga, st⟩
  refine s_ret st (ev_tup (ea_cons ev_str (ea_cons (ev_var rfl) (ea_cons (ev_var rfl) (ea_cons (ev_var rfl) (ea_cons (ev_var rfl) ea_nil))))) (by simp)) fun v B5 H5 x5 w5 d5 => ?_
  exact q v _ B5 O3 H5 ((((x1.trans x2).trans x3).trans x4).trans x5) ⟨.one "counted" [hw, d1, a'] t, ok_one (by decide) (by simp) (by simp [hgood, g1, ga]) (fun e => absurd e (by decide)) ht, rfl, Mv2.of m1 hp hrm (Mv2.of m2 m1.pool hr1 m3)⟩ w5 d5
def PreW (h : Nat) (gs : List SD) (_ O : Hp) (R : PyData → Hp → Prop) : Prop := ∃ p hw r limits, (0 < h ∧ h ≤ 7) ∧ gs = [.val (.ref p), .dat hw, .val (.ref r), .dat (.int (7 - (h : Int))), .dat (.int limits)] ∧ PoolAt O p ∧ RoomAt O r ∧ good hw = true ∧
  R = fun d O' => ∃ t, ok (h + 1) t ∧ d = enc t ∧ Mv2 p r O O'
theorem ok_law_within {h : Nat} {f fr : Addr} {fd fdr : FuncData} (T : Txt K mg aH) (a : At K mg "_law_within" s_law_within ["pool", "how", "room", "depth", "limits"] f fd) (ad : At K mg "_law_draw" s_law_draw ["pool", "count"] fr fdr) (C_law_part : CalPart P w K mg base h) :
    FnOk P w K mg base CX0 (2 * h + 13) f fd ["pool", "how", "room", "depth", "limits"] (SpX K (PreW h)) := by
  have C_law_draw := ad.cal (ok_law_draw (P := P) (w := w) (base := base) T ad)
  refine ok_fnX a.fn sc_law_within (by rintro gs B O R ⟨p, hw, r, lm, _, rfl, _⟩; rfl) fun cdv A outer s H0 E hr => ?_
  refine ⟨_, (pss_cons (ps_set (i := 5) sc_law_within.nd rfl (Or.inl rfl) (pe_ix (ix_listK K) (pe_lst (pa_cons pe_non (pa_cons pe_non (pa_cons (pe_cal C_law_draw hr (by omega) (by rfl) (pa_cons (pv 0) (pa_cons pe_int pa_nil))) pa_nil)))) (pe_cal C_law_draw hr (by omega) (by rfl) (pa_cons (pv 0) (pa_cons pe_int pa_nil))) (fun _ _ => rfl)))
    (pss_cons (ps_set (i := 6) sc_law_within.nd rfl (Or.inl rfl) (pe_ix (ix_listK K) (pe_lst (pa_cons pe_str (pa_cons pe_str (pa_cons pe_str (pa_cons pe_str pa_nil))))) (pe_cal C_law_draw hr (by omega) (by rfl) (pa_cons (pv 0) (pa_cons pe_int pa_nil))) (fun _ _ => rfl)))
    (pss_cons (ps_set (i := 7) sc_law_within.nd rfl (Or.inl rfl) (pe_ix (ix_listK K) (pe_lst (pa_cons pe_str (pa_cons pe_str pa_nil))) (pe_cal C_law_draw hr (by omega) (by rfl) (pa_cons (pv 0) (pa_cons pe_int pa_nil))) (fun _ _ => rfl)))
    (pss_one (ps_ret (pe_tup (pa_cons pe_str (pa_cons (pv 1) (pa_cons (pv 5) (pa_cons (pv 6) (pa_cons (pv 7) (pa_cons (pe_cal C_law_part hr (by omega) (by rfl) (pa_cons (pv 0) (pa_cons (pv 2) (pa_cons (pv 3) (pa_cons (pe_op op_add (pv 4) pe_int) (pa_cons (pe_cmpR op_eq (pv 6) pe_str (nomark _)) pa_nil)))))) pa_nil)))))))))))), ?_⟩
  rintro gs B O R σ H Q ⟨p, hw, r, lm, hh, rfl, hp, hrm, hgood, rfl⟩ st q
  refine qx_asg st (ex_most rfl hp (by decide) (by decide)) fun v1 d1 B1 O1 H1 x1 ⟨g1, m1⟩ dv1 st => ?_
  have hr1 := (m1.two hp hrm).room
  refine qx_asg st (ex_word (ws := ["nested", "nested", "cut", "told"]) m1.pool (ev_lst (ea_cons ev_str (ea_cons ev_str (ea_cons ev_str (ea_cons ev_str ea_nil)))) (by simp)) rfl (by decide +kernel) rfl (by decide) (by decide)) fun v2 d2 B2 O2 H2 x2 ⟨w2, hw2, e2, m2⟩ dv2 st => ?_
  subst e2
  have g2 : good (.str w2) = true := PT.good_str ((by decide +kernel : ∀ w, w ∈ (["nested", "nested", "cut", "told"] : List Str) → PyData.strOk w = true) w2 hw2)
  have hr2 := (m2.two m1.pool hr1).room
  refine qx_asg st (ex_word (ws := ["skip", "exact"]) m2.pool (ev_lst (ea_cons ev_str (ea_cons ev_str ea_nil)) (by simp)) rfl (by decide +kernel) rfl (by decide) (by decide)) fun v3 d3 B3 O3 H3 x3 ⟨w3, hw3, e3, m3⟩ dv3 st => ?_
  subst e3
  have g3 : good (.str w3) = true := PT.good_str ((by decide +kernel : ∀ w, w ∈ (["skip", "exact"] : List Str) → PyData.strOk w = true) w3 hw3)
  have hr3 := (m3.two m2.pool hr2).room
  have hc : EvX K B3 O3 [.val (.ref p), .dat hw, .val (.ref r), .dat (.int (7 - (h : Int))), .dat (.int lm), .dat d1, .dat (.str w2), .dat (.str w3)] (tCall (SpX K (PreP h)) [] E0 (tCons (tVar 0) (tCons (tVar 2) (tCons (tVar 3) (tCons (tOp (rI0 fun i j => .int (i + j)) (tVar 4) (tC (.int 1))) (tCons (tOp rEq (tVar 6) (tC (.str "told"))) tNil)))))) (fun d O' => ∃ t, ok h t ∧ d = enc t ∧ Mv2 p r O3 O') :=
    ex_call (as_val (evV_var rfl) (as_val (evV_var rfl) (as_dat (ev_var rfl) (as_dat (ev_op (ev_var rfl) ev_int rd_I0) (as_dat (ev_op (ev_var rfl) ev_str rd_eqStr) as_nil))))) fun B'' _ => ⟨p, r, lm + 1, w2 == "told", hh, rfl, m3.pool, hr3, rfl⟩
  refine sx_ret st (ex_tup (T := fun ds O' => ∃ t, ok h t ∧ ds = [.str "within", hw, d1, .str w2, .str w3, enc t] ∧ Mv2 p r O3 O') (exs_cons (S := fun _ O' ds O'' => ∃ t, ok h t ∧ ds = [hw, d1, .str w2, .str w3, enc t] ∧ Mv2 p r O' O'') (ex_pure ev_str) (fun d B' O' xb e => ?_) ?_) ?_) fun v d B5 O5 H5 x5 hR w5 d5 => ?_
  · obtain ⟨e1, e2⟩ := e
    subst e2
    refine exs_cons (S := fun _ O' ds O'' => ∃ t, ok h t ∧ ds = [d1, .str w2, .str w3, enc t] ∧ Mv2 p r O' O'') (ex_pure (ev_var rfl)) (fun d B'' O'' xb2 e => ?_) ?_
    · obtain ⟨e1, e2⟩ := e
      subst e2
      refine exs_cons (S := fun _ O' ds O'' => ∃ t, ok h t ∧ ds = [.str w2, .str w3, enc t] ∧ Mv2 p r O' O'') (ex_pure (ev_var rfl)) (fun d B3' O'' xb3 e => ?_) ?_
      · obtain ⟨e1, e2⟩ := e
        subst e2
        refine exs_cons (S := fun _ O' ds O'' => ∃ t, ok h t ∧ ds = [.str w3, enc t] ∧ Mv2 p r O' O'') (ex_pure (ev_var rfl)) (fun d B4' O'' xb4 e => ?_) ?_
        · obtain ⟨e1, e2⟩ := e
          subst e2
          refine exs_cons (S := fun _ O' ds O'' => ∃ t, ok h t ∧ ds = [enc t] ∧ Mv2 p r O' O'') (ex_pure (ev_var rfl)) (fun d B5' O'' xb5 e => ?_) ?_
          · obtain ⟨e1, e2⟩ := e
            subst e2
            refine exs_cons (S := fun _ O' ds O'' => ds = [] ∧ O'' = O') (hc.ex ((((xb.trans xb2).trans xb3).trans xb4).trans xb5)) (fun d B'' O'' _ _ => exs_nil) ?_
            rintro d O4 ds O5 ⟨t, ht, rfl, m⟩ ⟨rfl, rfl⟩
            exact ⟨t, ht, rfl, m⟩
          · rintro d O4 ds O5 ⟨rfl, rfl⟩ ⟨t, ht, rfl, m⟩
            exact ⟨t, ht, rfl, m⟩
        · rintro d O4 ds O5 ⟨rfl, rfl⟩ ⟨t, ht, rfl, m⟩
          exact ⟨t, ht, rfl, m⟩
      · rintro d O4 ds O5 ⟨rfl, rfl⟩ ⟨t, ht, rfl, m⟩
        exact ⟨t, ht, rfl, m⟩
    · rintro d O4 ds O5 ⟨rfl, rfl⟩ ⟨t, ht, rfl, m⟩
      exact ⟨t, ht, rfl, m⟩
  · rintro d O4 ds O5 ⟨rfl, rfl⟩ ⟨t, ht, rfl, m⟩
    exact ⟨t, ht, rfl, m⟩
  · rintro ds O4 ⟨t, _, rfl, _⟩
    simp
  · obtain ⟨ds, rfl, t, ht, rfl, m⟩ := hR
    exact q v _ B5 O5 H5 (((x1.trans x2).trans x3).trans x5) ⟨.one "within" [hw, d1, .str w2, .str w3] t, ok_one (by decide) (by simp) (by simp [hgood, g1, g2, g3]) (fun e => absurd e (by decide)) ht, rfl, Mv2.of m1 hp hrm (Mv2.of m2 m1.pool hr1 (Mv2.of m3 m2.pool hr2 m))⟩ w5 d5

end
end Toy
set_option Elab.async false
set_option linter.all false
set_option maxRecDepth 100000
set_option maxHeartbeats 4000000
namespace Toy
open PySem PySem.Spec PyProof.Rows L2 StX DL PT
section
variable {P : Program} {w : World} {K : PySem.W.Frag} {mg : Str → Option Value} {base : Heap} {aH : Addr}


theorem dep_eq {h : Nat} : (7 : Int) - ((h + 1 : Nat) : Int) + 1 = 7 - (h : Int) := by omega
/-- where the defs of the generator stand -/
structure Gens (K : PySem.W.Frag) (mg : Str → Option Value) (f1 f2 f3 f4 f5 f6 f7 f8 : Addr) (d1 d2 d3 d4 d5 d6 d7 d8 : FuncData) : Prop where
  dr : At K mg "_law_draw" s_law_draw ["pool", "count"] f1 d1
  ch : At K mg "_law_children" s_law_children ["part"] f2 d2
  sz : At K mg "_law_size" s_law_size ["part"] f3 d3
  lf : At K mg "_law_leaf" s_law_leaf ["pool", "how", "told"] f4 d4
  op : At K mg "_law_options" s_law_options ["pool", "room", "depth", "limits", "told"] f5 d5
  co : At K mg "_law_counted" s_law_counted ["pool", "how", "room", "depth", "limits", "told"] f6 d6
  wi : At K mg "_law_within" s_law_within ["pool", "how", "room", "depth", "limits"] f7 d7
  pa : At K mg "_law_part" s_law_part ["pool", "room", "depth", "limits", "told"] f8 d8
theorem ok_law_part {f1 f2 f3 f4 f5 f6 f7 f8 : Addr} {d1 d2 d3 d4 d5 d6 d7 d8 : FuncData} (T : Txt K mg aH) (Gn : Gens K mg f1 f2 f3 f4 f5 f6 f7 f8 d1 d2 d3 d4 d5 d6 d7 d8) : ∀ h, FnOk P w K mg base CX0 (2 * h + 12) f8 d8 ["pool", "room", "depth", "limits", "told"] (SpX K (PreP h))
  | 0 => SpX_false fun gs B O R ⟨p, r, lm, told, hh, _⟩ => absurd hh.1 (by decide)
  | h + 1 => by
    have C_law_part : CalPart P w K mg base h := Gn.pa.cal (ok_law_part T Gn h)
    have C_law_draw := Gn.dr.cal (ok_law_draw (P := P) (w := w) (base := base) T Gn.dr)
    have C_law_leaf := Gn.lf.cal (ok_law_leaf (P := P) (w := w) (base := base) T Gn.lf Gn.dr)
    have C_law_options := Gn.op.cal (ok_law_options (h := h) T Gn.op Gn.dr C_law_part)
    have C_law_counted := Gn.co.cal (ok_law_counted (h := h) T Gn.co Gn.dr Gn.sz Gn.ch C_law_part)
    have C_law_within := Gn.wi.cal (ok_law_within (h := h) T Gn.wi Gn.dr C_law_part)
    refine ok_fnX (k := 2 * h + 13) Gn.pa.fn sc_law_part (by rintro gs B O R ⟨p, r, lm, told, _, rfl, _⟩; rfl) fun cdv A outer s H0 E hr => ?_
    refine ⟨_, (pss_cons (ps_asg (pe_op op_sub (pe_ix (ix_listK K) (pv 1) pe_int (fun _ _ => rfl)) pe_int) (pg_sub (pv 1) pe_int set_list))
    (pss_cons (ps_set (i := 5) sc_law_part.nd rfl (Or.inl rfl) (pe_ix (ix_listK K) (pe_lst (pa_cons pe_str (pa_cons pe_str (pa_cons pe_str pa_nil)))) (pe_cal C_law_draw hr (by omega) (by rfl) (pa_cons (pv 0) (pa_cons pe_int pa_nil))) (fun _ _ => rfl)))
    (pss_cons (ps_set (i := 6) sc_law_part.nd rfl (Or.inl rfl) (pe_cal C_law_draw hr (by omega) (by rfl) (pa_cons (pv 0) (pa_cons pe_int pa_nil))))
    (pss_cons (ps_if (PW.pt (pw_or (pt_cmpR op_lt (pv 6) pe_int (nomark _)) (pw_or (pt_cmpR op_lt (pe_ix (ix_listK K) (pv 1) pe_int (fun _ _ => rfl)) pe_int (nomark _)) (pw_or1 (pt_cmpR op_gt (pv 2) pe_int (nomark _)))))) (pss_one (ps_ret (pe_cal C_law_leaf hr (by omega) (by rfl) (pa_cons (pv 0) (pa_cons (pv 5) (pa_cons (pv 4) pa_nil)))))) pss_nil)
    (pss_cons (ps_if (pt_cmpR op_lt (pv 6) pe_int (nomark _)) (pss_cons (ps_set (i := 7) sc_law_part.nd rfl (Or.inl rfl) (pe_lst pa_nil))
    (pss_cons (ps_for PassesOwn.never rfl (pi_range1 (by rfl) T.b_range (pa_cons (pe_cal C_law_draw hr (by omega) (by rfl) (pa_cons (pv 0) (pa_cons pe_int pa_nil))) pa_nil)) (pg_name (i := 8) sc_law_part.nd rfl (Or.inl rfl)) (pss_one (ps_if (pt_cmpR op_gt (pe_ix (ix_listK K) (pv 1) pe_int (fun _ _ => rfl)) pe_int (nomark _)) (pss_one (ps_expr (pe_bm PySem.F.plainAttrs_list PySem.F.slot_list_append PySem.F.type_list_append mt_append (pv 7) (pa_cons (pe_cal C_law_part hr (by omega) (by rfl) (pa_cons (pv 0) (pa_cons (pv 1) (pa_cons (pe_op op_add (pv 2) pe_int) (pa_cons (pv 3) (pa_cons (pv 4) pa_nil)))))) pa_nil)))) pss_nil)))
    (pss_one (ps_ret (pe_tup (pa_cons pe_str (pa_cons (pe_callTy (call_tupleK K) (by rfl) T.b_tuple (by decide +kernel) (pa_cons (pv 7) pa_nil)) pa_nil))))))) pss_nil)
    (pss_cons (ps_if (pt_cmpR op_eq (pv 6) pe_int (nomark _)) (pss_one (ps_ret (pe_tup (pa_cons pe_str (pa_cons (pv 5) (pa_cons (pe_cal C_law_options hr (by omega) (by rfl) (pa_cons (pv 0) (pa_cons (pv 1) (pa_cons (pe_op op_add (pv 2) pe_int) (pa_cons (pv 3) (pa_cons (pv 4) pa_nil)))))) pa_nil)))))) pss_nil)
    (pss_cons (ps_if (pt_cmpR op_eq (pv 6) pe_int (nomark _)) (pss_one (ps_ret (pe_tup (pa_cons pe_str (pa_cons (pe_cal C_law_draw hr (by omega) (by rfl) (pa_cons (pv 0) (pa_cons pe_int pa_nil))) (pa_cons (pe_cal C_law_part hr (by omega) (by rfl) (pa_cons (pv 0) (pa_cons (pv 1) (pa_cons (pe_op op_add (pv 2) pe_int) (pa_cons (pv 3) (pa_cons (pv 4) pa_nil)))))) pa_nil)))))) pss_nil)
    (pss_cons (ps_if (PW.pt (pw_or (pt_cmpR op_eq (pv 6) pe_int (nomark _)) (pw_or1 (PW.pt (pw_and (pt_cmpR op_eq (pv 6) pe_int (nomark _)) (pw_and1 (PW.pt (pw_or (pt_val (pv 4)) (pw_or1 (pt_cmpR op_gt (pv 3) pe_int (nomark _))))))))))) (pss_one (ps_ret (pe_cal C_law_counted hr (by omega) (by rfl) (pa_cons (pv 0) (pa_cons (pv 5) (pa_cons (pv 1) (pa_cons (pe_op op_add (pv 2) pe_int) (pa_cons (pv 3) (pa_cons (pv 4) pa_nil))))))))) pss_nil)
    (pss_cons (ps_if (pt_cmpR op_eq (pv 6) pe_int (nomark _)) (pss_one (ps_ret (pe_cal C_law_within hr (by omega) (by rfl) (pa_cons (pv 0) (pa_cons (pv 5) (pa_cons (pv 1) (pa_cons (pe_op op_add (pv 2) pe_int) (pa_cons (pv 3) pa_nil)))))))) pss_nil)
    (pss_one (ps_ret (pe_tup (pa_cons (pe_ix (ix_listK K) (pe_lst (pa_cons pe_str (pa_cons pe_str pa_nil))) (pe_op op_sub (pv 6) pe_int) (fun _ _ => rfl)) (pa_cons (pe_cal C_law_part hr (by omega) (by rfl) (pa_cons (pv 0) (pa_cons (pv 1) (pa_cons (pe_op op_add (pv 2) pe_int) (pa_cons (pv 3) (pa_cons (pv 4) pa_nil)))))) pa_nil)))))))))))))), ?_⟩
    rintro gs B O R σ H Q ⟨p, r, lm, told, hh, rfl, hp, ⟨z0, hz0⟩, rfl⟩ st q
    have rp : r ≠ p := hp.ne ⟨z0, hz0⟩
    -- room[0] = room[0] - 1
    refine q_setO st rfl hz0 (ev_op (ev_ixO rfl hz0 (ints_dps [z0]) ev_int at0) ev_int rd_I0) ev_int (j := 0) (by rfl) fun v0 B0 H0' x0 d0 st => ?_
    rw [dp_int d0] at st
    have st0 : Sta K B0 (upd O r (.lst [.int (z0 - 1)])) _ _ _ := st
    have hp0 : PoolAt (upd O r (.lst [.int (z0 - 1)])) p := by
      obtain ⟨x, y, e, hy⟩ := hp
      exact ⟨x, y, by rw [upd_ne rp.symm]; exact e, hy⟩
    have hr0 : RoomAt (upd O r (.lst [.int (z0 - 1)])) r := ⟨z0 - 1, upd_same⟩
    have M0 : Mv2 p r O (upd O r (.lst [.int (z0 - 1)])) := ⟨hp0, hr0, fun a h1 h2 => upd_ne h2⟩
    generalize upd O r (.lst [.int (z0 - 1)]) = Oa at st0 hp0 hr0 M0
    refine qx_asg st0 (ex_word (ws := ["checked", "checked", "bare"]) hp0 (ev_lst (ea_cons ev_str (ea_cons ev_str (ea_cons ev_str ea_nil))) (by simp)) rfl (by decide +kernel) rfl (by decide) (by decide)) fun v1 d1 B1 O1 H1 x1 ⟨w1, hw1, e1, m1⟩ dv1 st => ?_
    subst e1
    have g1 : good (.str w1) = true := PT.good_str ((by decide +kernel : ∀ w, w ∈ (["checked", "checked", "bare"] : List Str) → PyData.strOk w = true) w1 hw1)
    have hr1 := (m1.two hp0 hr0).room
    refine qx_asg st (ex_draw rfl m1.pool (by decide) (by decide)) fun v2 d2 B2 O2 H2 x2 ⟨k, e2, k0, k1, m2⟩ dv2 st => ?_
    subst e2
    obtain ⟨z2, hz2⟩ := (m2.two m1.pool hr1).room
    have hr2 : RoomAt O2 r := ⟨z2, hz2⟩
    have M2 : Mv2 p r O O2 := M0.trans (Mv2.of m1 hp0 hr0 (m2.two m1.pool hr1))
    have st2 : Sta K B2 O2 [.val (.ref p), .val (.ref r), .dat (.int (7 - ((h + 1 : Nat) : Int))), .dat (.int lm), .dat (.bool told), .dat (.str w1), .dat (.int k), .un, .un] _ _ := st
    have X2 : Ex B B2 := (x0.trans x1).trans x2
    clear dv1 dv2 st
    refine q_when st2 (et_or (et_test (ev_op (ev_var rfl) ev_int rd_B0)) fun _ => et_or (et_test (ev_op (ev_ixO rfl hz2 (ints_dps [z2]) ev_int at0) ev_int rd_B0)) fun _ => et_test (ev_op (ev_var rfl) ev_int rd_B0)) (fun h3 B3 H3 x3 st => ?_) (fun h3 B3 H3 x3 st => ?_)
    · refine sx_ret st (R := fun d O' => ∃ t, ok 1 t ∧ d = enc t ∧ Mv p O2 O') (ex_call (as_val (evV_var rfl) (as_dat (ev_var rfl) (as_dat (ev_var rfl) as_nil))) fun B'' _ => ⟨p, .str w1, told, rfl, m2.pool, g1, rfl⟩) fun v d B4 O4 H4 x4 ⟨t, ht, ed, m⟩ w4 d4 => ?_
      subst ed
      exact q v _ B4 O4 H4 ((X2.trans x3).trans x4) ⟨t, ok_mono (by omega) ht, rfl, M2.trans (m.two m2.pool hr2)⟩ w4 d4
    have hh1 : 0 < h ∧ h ≤ 7 := by
      simp only [Bool.or_eq_false_iff, decide_eq_false_iff_not] at h3
      omega
    have hdep : ∀ {B' O' : Hp} {g5 g6 g7 g8 : SD}, EvD K B' O' [.val (.ref p), .val (.ref r), .dat (.int (7 - ((h + 1 : Nat) : Int))), .dat (.int lm), .dat (.bool told), g5, g6, g7, g8] (tOp (rI0 fun i j => .int (i + j)) (tVar 2) (tC (.int 1))) (.int (7 - (h : Int))) :=
      fun {B' O' g5 g6 g7 g8} => ev_is (ev_op (ev_var rfl) ev_int rd_I0) (congrArg PyData.int dep_eq)
    have hpart : ∀ {B' O' : Hp} {g5 g6 g7 g8 : SD}, PoolAt O' p → RoomAt O' r → EvX K B' O' [.val (.ref p), .val (.ref r), .dat (.int (7 - ((h + 1 : Nat) : Int))), .dat (.int lm), .dat (.bool told), g5, g6, g7, g8]
        (tCall (SpX K (PreP h)) [] E0 (tCons (tVar 0) (tCons (tVar 1) (tCons (tOp (rI0 fun i j => .int (i + j)) (tVar 2) (tC (.int 1))) (tCons (tVar 3) (tCons (tVar 4) tNil)))))) (fun d O'' => ∃ t, ok h t ∧ d = enc t ∧ Mv2 p r O' O'') :=
      fun {B' O' g5 g6 g7 g8} hp' hr' => ex_call (as_val (evV_var rfl) (as_val (evV_var rfl) (as_dat hdep (as_dat (ev_var rfl) (as_dat (ev_var rfl) as_nil))))) fun B'' _ => ⟨p, r, lm, told, hh1, rfl, hp', hr', rfl⟩
    refine q_when st (et_test (ev_op (ev_var rfl) ev_int rd_B0)) (fun h4 B4 H4 x4 st => ?_) (fun h4 B4 H4 x4 st => ?_)
    · -- a row
      refine q_asgL st (el_lst ea_nil (by simp)) fun l vs0 B5 H5 x5 nl dv0 st => ?_
      have e0 : vs0 = [] := by cases dv0; rfl
      subst e0
      have lp : l ≠ p := by
        obtain ⟨_, _, e, _⟩ := m2.pool
        intro z
        subst z
        rw [nl] at e
        cases e
      have lr : l ≠ r := by
        intro z
        subst z
        rw [nl] at hz2
        cases hz2
      have hp5 : PoolAt (upd O2 l (.lst [])) p := by
        obtain ⟨x, y, e, hy⟩ := m2.pool
        exact ⟨x, y, by rw [upd_ne lp.symm]; exact e, hy⟩
      have hr5 : RoomAt (upd O2 l (.lst [])) r := ⟨z2, by rw [upd_ne lr.symm]; exact hz2⟩
      refine qx_for st (T := fun es O' => (∃ m : Nat, m ≤ 3 ∧ es = rangeD 0 m) ∧ Mv p (upd O2 l (.lst [])) O') (eix_range (exs_cons (S := fun _ O' ds O'' => ds = [] ∧ O'' = O') (ex_draw rfl hp5 (by decide) (by decide)) (fun d B'' O'' _ _ => exs_nil) ?_))
        (fun es i B' O' G' => (∃ m : Nat, m ≤ 3 ∧ es = rangeD 0 m) ∧ ∃ (vs : List V) (ts : List Part), O' l = some (.lst vs) ∧ DtAll K B' vs (ts.map enc) ∧ (∀ t, t ∈ ts → ok h t) ∧ ts.length ≤ i ∧ PoolAt O' p ∧ RoomAt O' r ∧ (∀ a, a ≠ p → a ≠ r → a ≠ l → O' a = O2 a) ∧
          ∃ g8 : SD, G' = [.val (.ref p), .val (.ref r), .dat (.int (7 - ((h + 1 : Nat) : Int))), .dat (.int lm), .dat (.bool told), .dat (.str w1), .dat (.int k), .val (.ref l), g8])
        ?_ ?_ ?_ ?_
      · rintro d O' ds O'' ⟨j, rfl, j0, j1, m⟩ ⟨rfl, rfl⟩
        exact ⟨j, rfl, by omega, ⟨j.toNat, by omega, rfl⟩, m⟩
      · rintro es i Ba Bb Oc Gc e ⟨hm, vs, ts, a1, a2, a3⟩
        exact ⟨hm, vs, ts, a1, dps_ex e _ _ a2, a3⟩
      · rintro es O' Ba e ⟨hm, m⟩
        refine ⟨hm, [], [], ?_, .nil, by simp, by simp, m.pool, (m.two hp5 hr5).room, fun a h1 h2 h3 => ?_, _, rfl⟩
        · rw [m.fr l lp, upd_same]
        · rw [m.fr a h1, upd_ne h3]
      · rintro es i e Ba Oa' Ga σa Ha v hie xa ⟨⟨m, hm3, rfl⟩, vs, ts, hl, dvs, hok, hlen, hpa, hra, hfr, g8, rfl⟩ st dv N hN
        obtain ⟨hi, rfl⟩ := range_inv hie
        obtain ⟨za, hza⟩ := id hra
        refine eg_name Ba _ σa Ha v st dv _ fun σb st _ => ?_
        have hvl := dps_len dvs
        rw [List.length_map] at hvl
        refine s_if st (et_test (ev_op (ev_ixO rfl hza (ints_dps [za]) ev_int at0) ev_int rd_B0)) (fun h1 Bb Hb xb st => ?_) (fun h1 Bb Hb xb st => ?_)
        · refine sx_app st rfl hl (by omega) (hpart hpa hra) ?_ fun v4 d4 Bc Oc Hc xc hR d4' st => ?_
          · rintro d Od ⟨t, _, _, m2⟩
            rw [m2.fr l lp lr]
            exact hl
          · obtain ⟨t, ht, ed, m4⟩ := hR
            subst ed
            refine hN Bc _ _ _ _ (xb.trans xc) ⟨⟨m, hm3, rfl⟩, vs ++ [v4], ts ++ [t], upd_same, ?_, fun o ho => ?_, ?_, ?_, ?_, fun a h1 h2 h3 => ?_, _, rfl⟩ st
            · rw [List.map_append]
              exact dps_app (dps_ex (xb.trans xc) _ _ dvs) (dps_one d4')
            · rcases List.mem_append.mp ho with ho | ho
              · exact hok o ho
              · have : o = t := by simpa using ho
                subst this
                exact ht
            · simp
              omega
            · obtain ⟨x, y, e, hy⟩ := m4.pool
              exact ⟨x, y, by rw [upd_ne lp.symm]; exact e, hy⟩
            · obtain ⟨zz, e⟩ := m4.room
              exact ⟨zz, by rw [upd_ne lr.symm]; exact e⟩
            · rw [upd_ne h3, m4.fr a h1 h2]
              exact hfr a h1 h2 h3
        · exact hN Bb _ _ _ _ xb ⟨⟨m, hm3, rfl⟩, vs, ts, hl, dps_ex xb _ _ dvs, hok, by omega, hpa, hra, hfr, _, rfl⟩ st
      · rintro es Ba Oa' Ga σa Ha xa ⟨⟨m, hm3, rfl⟩, vs, ts, hl, dvs, hok, hlen, hpa, hra, hfr, g8, rfl⟩ st
        rw [rangeD_len] at hlen
        refine s_ret st (ev_tup (ea_cons ev_str (ea_cons (ev_tupO rfl hl dvs) ea_nil)) (by simp)) fun v Bb Hb xb wb db => ?_
        have M : Mv2 p r O2 (del Oa' l) := by
          refine ⟨?_, ?_, fun a h1 h2 => ?_⟩
          · obtain ⟨x, y, e, hy⟩ := hpa
            exact ⟨x, y, by rw [del_ne lp.symm]; exact e, hy⟩
          · obtain ⟨zz, e⟩ := hra
            exact ⟨zz, by rw [del_ne lr.symm]; exact e⟩
          · by_cases h3 : a = l
            · subst h3
              rw [del_same, nl]
            · rw [del_ne h3]
              exact hfr a h1 h2 h3
        refine q v _ Bb (del Oa' l) Hb (((((X2.trans x3).trans x4).trans x5).trans xa).trans xb) ⟨.row ts, ⟨(by show ts.length ≤ 6; omega), hok⟩, rfl, M2.trans M⟩ (W.sub wb del_ex) ?_
        show Dt K Bb v (.tuple [.str "row", .tuple (encs ts)])
        rw [encs_eq]
        exact db
    refine q_when st (et_test (ev_op (ev_var rfl) ev_int rd_eqInt)) (fun h5 B5 H5 x5 st => ?_) (fun h5 B5 H5 x5 st => ?_)
    · -- a choice
      refine sx_ret st (ex_tup (T := fun ds O' => ∃ os : List (Int × Part), 0 < os.length ∧ os.length ≤ 6 ∧ (∀ o, o ∈ os → ok h o.2) ∧ ds = [.str "choice", .str w1, .tuple (os.map encO)] ∧ Mv2 p r O2 O') (exs_cons (S := fun _ O' ds O'' => ∃ os : List (Int × Part), 0 < os.length ∧ os.length ≤ 6 ∧ (∀ o, o ∈ os → ok h o.2) ∧ ds = [.str w1, .tuple (os.map encO)] ∧ Mv2 p r O' O'') (ex_pure ev_str) (fun d B' O' xb e => ?_) ?_) ?_) fun v d B6 O6 H6 x6 hR w6 d6 => ?_
      · obtain ⟨e1, e2⟩ := e
        subst e2
        refine exs_cons (S := fun _ O' ds O'' => ∃ os : List (Int × Part), 0 < os.length ∧ os.length ≤ 6 ∧ (∀ o, o ∈ os → ok h o.2) ∧ ds = [.tuple (os.map encO)] ∧ Mv2 p r O' O'') (ex_pure (ev_var rfl)) (fun d B' O' xb e => ?_) ?_
        · obtain ⟨e1, e2⟩ := e
          subst e2
          refine exs_cons (R := fun d O'' => ∃ os : List (Int × Part), d = .tuple (os.map encO) ∧ 0 < os.length ∧ os.length ≤ 6 ∧ (∀ o, o ∈ os → ok h o.2) ∧ Mv2 p r O' O'') (S := fun _ O' ds O'' => ds = [] ∧ O'' = O') (ex_call (as_val (evV_var rfl) (as_val (evV_var rfl) (as_dat hdep (as_dat (ev_var rfl) (as_dat (ev_var rfl) as_nil))))) fun B'' _ => ⟨p, r, lm, told, hh1, rfl, m2.pool, hr2, rfl⟩) (fun d B'' O'' _ _ => exs_nil) ?_
          rintro d O4 ds O5 ⟨os, rfl, a1, a2, a3, m⟩ ⟨rfl, rfl⟩
          exact ⟨os, a1, a2, a3, rfl, m⟩
        · rintro d O4 ds O5 ⟨rfl, rfl⟩ ⟨os, a1, a2, a3, rfl, m⟩
          exact ⟨os, a1, a2, a3, rfl, m⟩
      · rintro d O4 ds O5 ⟨rfl, rfl⟩ ⟨os, a1, a2, a3, rfl, m⟩
        exact ⟨os, a1, a2, a3, rfl, m⟩
      · rintro ds O4 ⟨os, _, _, _, rfl, _⟩
        simp
      · obtain ⟨ds, rfl, os, a1, a2, a3, rfl, m⟩ := hR
        refine q v _ B6 O6 H6 ((((X2.trans x3).trans x4).trans x5).trans x6) ⟨.choice (.str w1) os, ⟨⟨g1, a1, a2⟩, fun t ht => ?_⟩, rfl, M2.trans m⟩ w6 ?_
        · obtain ⟨o, ho, rfl⟩ := List.mem_map.mp ht
          exact a3 o ho
        · show Dt K B6 v (.tuple [.str "choice", .str w1, .tuple (enco os)])
          rw [enco_eq]
          exact d6
    refine q_when st (et_test (ev_op (ev_var rfl) ev_int rd_eqInt)) (fun h6 B6 H6 x6 st => ?_) (fun h6 B6 H6 x6 st => ?_)
    · -- times
      refine sx_ret st (ex_tup (T := fun ds O' => ∃ n t, 0 ≤ n ∧ n < 3 ∧ ok h t ∧ ds = [.str "times", .int n, enc t] ∧ Mv2 p r O2 O') (exs_cons (S := fun _ O' ds O'' => ∃ n t, 0 ≤ n ∧ n < 3 ∧ ok h t ∧ ds = [.int n, enc t] ∧ Mv2 p r O' O'') (ex_pure ev_str) (fun d B' O' xb e => ?_) ?_) ?_) fun v d B7 O7 H7 x7 hR w7 d7 => ?_
      · obtain ⟨e1, e2⟩ := e
        subst e2
        refine exs_cons (S := fun _ O' ds O'' => ∃ t, ok h t ∧ ds = [enc t] ∧ Mv2 p r O' O'') (ex_draw rfl m2.pool (by decide) (by decide)) (fun d B'' O'' xb e => ?_) ?_
        · obtain ⟨n, e1, n0, n1, mn⟩ := e
          refine exs_cons (S := fun _ O' ds O'' => ds = [] ∧ O'' = O') (hpart mn.pool (mn.two m2.pool hr2).room) (fun d B'' O'' _ _ => exs_nil) ?_
          rintro d O4 ds O5 ⟨t, ht, rfl, m⟩ ⟨rfl, rfl⟩
          exact ⟨t, ht, rfl, m⟩
        · rintro d O4 ds O5 ⟨n, rfl, n0, n1, mn⟩ ⟨t, ht, rfl, m⟩
          exact ⟨n, t, n0, n1, ht, rfl, Mv2.of mn m2.pool hr2 m⟩
      · rintro d O4 ds O5 ⟨rfl, rfl⟩ ⟨n, t, n0, n1, ht, rfl, m⟩
        exact ⟨n, t, n0, n1, ht, rfl, m⟩
      · rintro ds O4 ⟨n, t, _, _, _, rfl, _⟩
        simp
      · obtain ⟨ds, rfl, n, t, n0, n1, ht, rfl, m⟩ := hR
        exact q v _ B7 O7 H7 (((((X2.trans x3).trans x4).trans x5).trans x6).trans x7) ⟨.one "times" [.int n] t, ok_one (by decide) (by simp) (by simp [PT.good_int]) (fun _ => ⟨n, rfl, n0, by omega⟩) ht, rfl, M2.trans m⟩ w7 d7
    refine q_when st (et_or (et_test (ev_op (ev_var rfl) ev_int rd_eqInt)) fun _ => et_and (et_test (ev_op (ev_var rfl) ev_int rd_eqInt)) fun _ => et_or (et_B (ev_var rfl)) fun _ => et_test (ev_op (ev_var rfl) ev_int rd_B0)) (fun h7 B7 H7 x7 st => ?_) (fun h7 B7 H7 x7 st => ?_)
    · refine sx_ret st (R := fun d O' => ∃ t, ok (h + 1) t ∧ d = enc t ∧ Mv2 p r O2 O') (ex_call (as_val (evV_var rfl) (as_dat (ev_var rfl) (as_val (evV_var rfl) (as_dat hdep (as_dat (ev_var rfl) (as_dat (ev_var rfl) as_nil)))))) fun B'' _ => ⟨p, .str w1, r, lm, told, hh1, rfl, m2.pool, hr2, g1, rfl⟩) fun v d B8 O8 H8 x8 ⟨t, ht, ed, m⟩ w8 d8 => ?_
      subst ed
      exact q v _ B8 O8 H8 ((((((X2.trans x3).trans x4).trans x5).trans x6).trans x7).trans x8) ⟨t, ht, rfl, M2.trans m⟩ w8 d8
    refine q_when st (et_test (ev_op (ev_var rfl) ev_int rd_eqInt)) (fun h8 B8 H8 x8 st => ?_) (fun h8 B8 H8 x8 st => ?_)
    · refine sx_ret st (R := fun d O' => ∃ t, ok (h + 1) t ∧ d = enc t ∧ Mv2 p r O2 O') (ex_call (as_val (evV_var rfl) (as_dat (ev_var rfl) (as_val (evV_var rfl) (as_dat hdep (as_dat (ev_var rfl) as_nil))))) fun B'' _ => ⟨p, .str w1, r, lm, hh1, rfl, m2.pool, hr2, g1, rfl⟩) fun v d B9 O9 H9 x9 ⟨t, ht, ed, m⟩ w9 d9 => ?_
      subst ed
      exact q v _ B9 O9 H9 (((((((X2.trans x3).trans x4).trans x5).trans x6).trans x7).trans x8).trans x9) ⟨t, ht, rfl, M2.trans m⟩ w9 d9
    have hk9 : k = 9 ∨ k = 10 := by
      simp only [Bool.or_eq_false_iff, decide_eq_false_iff_not, beq_eq_false_iff_ne] at h3 h4 h5 h6 h7 h8
      omega
    obtain ⟨wd, hwd, hat⟩ : ∃ wd : Str, (wd = "fill" ∨ wd = "if left") ∧ atI [PyData.str "fill", PyData.str "if left"] (k - 9) = some (.str wd) := by
      rcases hk9 with e | e
      · subst e; exact ⟨"fill", .inl rfl, at0⟩
      · subst e; exact ⟨"if left", .inr rfl, at1⟩
    refine sx_ret st (ex_tup (T := fun ds O' => ∃ t, ok h t ∧ ds = [.str wd, enc t] ∧ Mv2 p r O2 O') (exs_cons (S := fun _ O' ds O'' => ∃ t, ok h t ∧ ds = [enc t] ∧ Mv2 p r O' O'') (ex_pure (ev_op (ev_lst (ea_cons ev_str (ea_cons ev_str ea_nil)) (by simp)) (ev_op (ev_var rfl) ev_int rd_I0) (rd_ixL hat))) (fun d B' O' xb e => ?_) ?_) ?_) fun v d B9 O9 H9 x9 hR w9 d9 => ?_
    · obtain ⟨e1, e2⟩ := e
      subst e2
      refine exs_cons (S := fun _ O' ds O'' => ds = [] ∧ O'' = O') (hpart m2.pool hr2) (fun d B'' O'' _ _ => exs_nil) ?_
      rintro d O4 ds O5 ⟨t, ht, rfl, m⟩ ⟨rfl, rfl⟩
      exact ⟨t, ht, rfl, m⟩
    · rintro d O4 ds O5 ⟨rfl, rfl⟩ ⟨t, ht, rfl, m⟩
      exact ⟨t, ht, rfl, m⟩
    · rintro ds O4 ⟨t, _, rfl, _⟩
      simp
    · obtain ⟨ds, rfl, t, ht, rfl, m⟩ := hR
      refine q v _ B9 O9 H9 (((((((X2.trans x3).trans x4).trans x5).trans x6).trans x7).trans x8).trans x9) ⟨.one wd [] t, ok_one ?_ (by simp) (by simp) ?_ ht, rfl, M2.trans m⟩ w9 d9
      · rcases hwd with e | e <;> (subst e; decide)
      · rcases hwd with e | e <;> (subst e; exact fun z => absurd z (by decide))

end
end Toy
set_option Elab.async false
set_option linter.all false
set_option maxRecDepth 100000
set_option maxHeartbeats 4000000
namespace Toy
open PySem PySem.Spec PyProof.Rows L2 StX DL PT
section
variable {P : Program} {w : World} {K : PySem.W.Frag} {mg : Str → Option Value} {base : Heap} {aH : Addr}


theorem call_isiK0 (K : PySem.W.Frag) {X : Cx} (h : X.K = K := by rfl) : CallR X (.builtin "isinstance") (rIsi K) := h ▸ call_isi
def tyD : PyData → String
  | .none => "NoneType"
  | .bool _ => "bool"
  | .int _ => "int"
  | .str _ => "str"
  | .list _ => "list"
  | .tuple _ => "tuple"
  | .dict _ => "dict"
theorem tyX_of {B H : Hp} {v : V} {d : PyData} (e : Ex B H) (h : Dt K B v d) : TyX K H v (.type (tyD d)) := by
  cases h with
  | non => exact .base .non
  | bl b => exact .base (.bl b)
  | int i => exact .base (.int i)
  | str x => exact .base (.str x)
  | lst h1 _ => exact .base (.lst (e _ _ h1))
  | tup h1 _ =>
    rcases h1 with (h1 | ⟨o, h1⟩) | ⟨o, its, n, h1, h2, _⟩
    · exact .base (.tup (e _ _ h1))
    · exact .fTuple (e _ _ h1)
    · exact .kTuple h1 h2
section
variable {B O : Hp} {G : List SD} {te : TE} {d : PyData} {b : Bool} {c : String} {i : Nat}
theorem ev_isi (h : EvD K B O G te d) (hb : kitB (tyD d) c = some b) : EvD K B O G (tCB (rIsi K) (tCons te (tCons (tC (.ty c)) tNil))) (.bool b) := fun B1 O1 σ H e o s Q q =>
  h B1 O1 σ H e o s _ fun v B2 H2 e2 w2 d2 => ⟨v, .ty c, .type (tyD d), .type c, b, rfl, .ty c, tyX_of w2.b d2, kit_ty hb, q _ B2 H2 e2 w2 (.bl b)⟩
theorem ev_isiO {l : Addr} {vs : List V} (hg : G[i]? = some (.val (.ref l))) (ho : O l = some (.lst vs)) (hb : kitB "list" c = some b) : EvD K B O G (tCB (rIsi K) (tCons (tVar i) (tCons (tC (.ty c)) tNil))) (.bool b) := fun B1 O1 σ H e o s Q q => by
  obtain ⟨sv, h1, h2⟩ := s.s.get hg
  have h3 : sv = some (.ref l) := h2
  subst h3
  exact ⟨_, h1, .ref l, .ty c, .type "list", .type c, b, rfl, .ty c, .base (.lst (s.w.o _ _ (o _ _ ho))), kit_ty hb, q _ B1 H (Ex.refl _) s.w (.bl b)⟩
theorem Sta.sub {σ : L2.St} {H O' : Hp} (s : Sta K B O G σ H) (e : Ex O' O) : Sta K B O' G σ H := ⟨W.sub s.w e, s.s⟩
theorem ex_drawE {tn : TE} {p : Addr} {n : Int} {E : XK} (hg : G[i]? = some (.val (.ref p))) (hp : PoolAt O p) (hn : EvD K B O G tn (.int n)) (h0 : 0 < n) (h1 : n < 1000000) : EvX K B O G (tCall (SpX K PreDraw) [] E (tCons (tVar i) (tCons tn tNil))) (fun d O' => ∃ r, d = .int r ∧ 0 ≤ r ∧ r < n ∧ Mv p O O') :=
  ex_call (as_val (evV_var hg) (as_dat hn as_nil)) fun B' _ => ⟨p, n, rfl, hp, h0, h1, rfl⟩
/-- _law_part(pool, [n], 0, 0, False) -/
theorem ex_part0 {p : Addr} {n : Int} {E : XK} (hg : G[i]? = some (.val (.ref p))) (hp : PoolAt O p) : EvX K B O G (tCall (SpX K (PreP 7)) [] E (tCons (tVar i) (tCons (tLst (tCons (tC (.int n)) tNil)) (tCons (tC (.int 0)) (tCons (tC (.int 0)) (tCons (tC (.bl false)) tNil)))))) (fun d O' => ∃ t, ok 7 t ∧ d = enc t ∧ Mv p O O') := fun B1 σ H e s Q q => by
  obtain ⟨sv, h1, h2⟩ := s.s.get hg
  have h3 : sv = some (.ref p) := h2
  subst h3
  refine ⟨_, h1, (by show 1 ≤ sizeLine; decide), fun r hr => ?_⟩
  have or_ : O r = none := s.w.fo hr
  have rp : r ≠ p := by
    obtain ⟨_, _, ep, _⟩ := hp
    intro z
    subst z
    rw [or_] at ep
    cases ep
  have w2 := s.w.newO (u := .lst [V.int n]) hr
  have hp2 : PoolAt (upd O r (.lst [V.int n])) p := by
    obtain ⟨x, y, ep, hy⟩ := hp
    exact ⟨x, y, by rw [upd_ne rp.symm]; exact ep, hy⟩
  refine ⟨B1, upd O r (.lst [V.int n]), [.val (.ref p), .val (.ref r), .dat (.int (7 - ((7 : Nat) : Int))), .dat (.int 0), .dat (.bool false)], _, w2, ⟨rfl, rfl, ⟨_, rfl, .int 0⟩, ⟨_, rfl, .int 0⟩, ⟨_, rfl, .bl false⟩, trivial⟩, ⟨p, r, 0, false, by decide, rfl, hp2, ⟨n, upd_same⟩, rfl⟩, fun v d B' O' H' e' hR w' dv => ?_⟩
  obtain ⟨t, ht, ed, m⟩ := hR
  refine q v d B' (del O' r) H' e' ⟨t, ht, ed, ?_, fun a ha => ?_⟩ (W.sub w' del_ex) dv
  · obtain ⟨x, y, ep, hy⟩ := m.pool
    exact ⟨x, y, by rw [del_ne rp.symm]; exact ep, hy⟩
  · by_cases har : a = r
    · subst har
      rw [del_same, or_]
    · rw [del_ne har, m.fr a ha har, upd_ne har]
theorem q_pool {σ : L2.St} {H : Hp} {D : Ends} {tz : TS} {j m : Nat} {a : Addr} {ns : List Int} {k : Int} {E : XK} (s : Sta K B O G σ H) (hg : G[i]? = some (.val (.ref a))) (hs : SqL K B a (ns.map V.int)) (hl : ns.length ≤ 63) (hk : EvD K B O G (tVar j) (.int k)) (h0 : 0 ≤ k) (h1 : k ≤ 63)
    (q : ∀ p O' B' H', Ex B B' → O p = none → PoolAt O' p → (∀ x, x ≠ p → O' x = O x) → Sta K B' O' (G.set m (.val (.ref p))) (σ.set m (some (.ref p))) H' → tz D (σ.set m (some (.ref p))) H') : tSeq (tAsg (tCall (SpPool K) [] E (tCons (tVar i) (tCons (tVar j) tNil))) (gName m)) tz D σ H := by
  obtain ⟨sv, g1, g2⟩ := s.s.get hg
  have h3 : sv = some (.ref a) := g2
  subst h3
  refine ⟨_, g1, ?_⟩
  refine hk B O σ H (Ex.refl _) (Ex.refl _) s _ fun v B2 H2 e2 w2 d2 => ?_
  rw [dp_int d2]
  refine ⟨B2, O, a, ns, k, w2, rfl, sl_ex e2 hs, hl, h0, h1, fun p x y B' H' e' hp hy0 hy1 w' => ?_⟩
  exact q p _ B' H' (e2.trans e') hp ⟨x, y, upd_same, hy0, hy1⟩ (fun z hz => upd_ne hz) ⟨w', (s.s.ex (e2.trans e')).set m rfl⟩
end
theorem neD_refl {n : Nat} {d : PyData} (h : Lay n d) (hn : n ≤ 64) : RD K (rNeD K) d d (.bool false) := rd_ne (h.sh hn) (h.sh hn) (by rw [PySem.SeqAt.eqv_refl d h.1]; rfl)
theorem ne_encN {s : Option Int} : RD K rNe (encN s) (encN s) (.bool false) := by
  cases s with
  | none => exact rd_neS rfl rfl rfl (by simp)
  | some n => exact rd_neS rfl rfl rfl (by simp)
theorem kit_encN {s : Option Int} : kitB (tyD (encN s)) "bool" = some false := by
  cases s with
  | none => exact (by decide +kernel : kitB "NoneType" "bool" = some false)
  | some n => exact (by decide +kernel : kitB "int" "bool" = some false)
theorem kids_with {t : Part} {ks : List Part} (hl : ks.length = (kids t).length) : kids (withK t ks) = ks := by
  cases t with
  | leaf x fs =>
    have : ks = [] := List.length_eq_zero_iff.mp hl
    subst this
    rfl
  | row ps => rfl
  | choice m os =>
    show ((os.zip ks).map fun z => (z.1.1, z.2)).map (·.2) = ks
    rw [List.map_map]
    have hl' : os.length = ks.length := by simpa [kids] using hl.symm
    clear hl
    induction os generalizing ks with
    | nil =>
      have : ks = [] := List.length_eq_zero_iff.mp hl'.symm
      subst this
      rfl
    | cons o os ih =>
      cases ks with
      | nil => simp at hl'
      | cons k ks =>
        have := ih (ks := ks) (by simpa using hl')
        show k :: List.map ((fun x => x.snd) ∘ fun z => (z.fst.fst, z.snd)) (os.zip ks) = k :: ks
        rw [this]
  | one x fs p =>
    match ks, hl with
    | [k], _ => rfl
theorem ok0_with {t : Part} {ks : List Part} (h : ok0 t) (hl : ks.length = (kids t).length) : ok0 (withK t ks) := by
  cases t with
  | leaf x fs => exact h
  | row ps =>
    show ks.length ≤ 6
    rw [hl]
    exact h
  | choice m os =>
    have hl' : ks.length = os.length := by simpa [kids] using hl
    obtain ⟨h1, h2, h3⟩ := h
    refine ⟨h1, ?_, ?_⟩
    · rw [List.length_map, List.length_zip]
      omega
    · rw [List.length_map, List.length_zip]
      omega
  | one x fs p => exact h
theorem ok_rep {j : Nat} {o : Part} (ho : ok j o) : ∀ {p : List Int} {h : Nat} {t r : Part}, ok h t → repP t p o = some r → ok (h + j) r
  | [], h, t, r, _, e => by
    cases e
    exact ok_mono (by omega) ho
  | i :: p, 0, t, r, ot, _ => ot.elim
  | i :: p, h + 1, t, r, ot, e => by
    have e' : (if 0 ≤ i then (kids t)[i.toNat]?.bind fun c => (repP c p o).map fun c' => withK t ((kids t).set i.toNat c') else none) = some r := e
    by_cases hi : 0 ≤ i
    · rw [if_pos hi] at e'
      cases hk : (kids t)[i.toNat]? with
      | none => rw [hk] at e'; cases e'
      | some k =>
        rw [hk] at e'
        have e2 : (repP k p o).map (fun c' => withK t ((kids t).set i.toNat c')) = some r := e'
        cases hq : repP k p o with
        | none => rw [hq] at e2; cases e2
        | some k' =>
          rw [hq] at e2
          have e3 : withK t ((kids t).set i.toNat k') = r := Option.some.inj e2
          have hl : ((kids t).set i.toNat k').length = (kids t).length := List.length_set
          have hk' := ok_rep ho (ot.2 k (List.mem_of_getElem? hk)) hq
          rw [show h + 1 + j = (h + j) + 1 by omega, ← e3]
          refine ⟨ok0_with ot.1 hl, fun x hx => ?_⟩
          rw [kids_with hl] at hx
          rcases List.mem_or_eq_of_mem_set hx with hx | hx
          · exact ok_mono (by omega) (ot.2 x hx)
          · subst hx
            exact hk'
    · rw [if_neg hi] at e'
      cases e'

end
end Toy
set_option Elab.async false
set_option linter.all false
set_option maxRecDepth 100000
set_option maxHeartbeats 4000000
namespace Toy
open PySem PySem.Spec PyProof.Rows L2 StX DL PT
section
variable {P : Program} {w : World} {K : PySem.W.Frag} {mg : Str → Option Value} {base : Heap} {aH : Addr}


structure Alls (K : PySem.W.Frag) (mg : Str → Option Value) (f1 f2 f3 f4 f5 f6 f7 f8 g1 g2 g3 g4 g5 g6 g7 g8 g9 : Addr) (d1 d2 d3 d4 d5 d6 d7 d8 c1 c2 c3 c4 c5 c6 c7 c8 c9 : FuncData) : Prop where
  gn : Gens K mg f1 f2 f3 f4 f5 f6 f7 f8 d1 d2 d3 d4 d5 d6 d7 d8
  po : At K mg "_law_pool" s_law_pool ["script", "k"] g1 c1
  pt : At K mg "_law_paths" s_law_paths ["part"] g2 c2
  lc : At K mg "_law_changed" s_law_changed ["part", "path", "other"] g3 c3
  so : At K mg "size_of" s_size_of ["part"] g4 c4
  pf : At K mg "parts_of" s_parts_of ["part"] g5 c5
  wp : At K mg "with_parts" s_with_parts ["part", "parts"] g6 c6
  sp : At K mg "subparts" s_subparts ["part"] g7 c7
  pa : At K mg "part_at" s_part_at ["part", "path"] g8 c8
  re : At K mg "replaced" s_replaced ["part", "path", "other"] g9 c9
def spLaw (K : PySem.W.Frag) : Sp := fun vs H Q _ => ∃ (a : Addr) (ns : List Int), vs = [.ref a] ∧ SqL K H a (ns.map V.int) ∧ ns.length ≤ 63 ∧ ∀ H', Q (.bl true) H'
theorem clamp (n : Nat) : ∃ m : Nat, m ≤ 30 ∧ (if (if (30 : Int) < (n : Int) then (30 : Int) else (n : Int)) > 1 then (if (30 : Int) < (n : Int) then (30 : Int) else (n : Int)) else 1) = (m : Int) := by
  by_cases h : (30 : Int) < (n : Int)
  · rw [if_pos h, if_pos (by decide)]
    exact ⟨30, by omega, rfl⟩
  · rw [if_neg h]
    by_cases h2 : (n : Int) > 1
    · rw [if_pos h2]
      exact ⟨n, by omega, rfl⟩
    · rw [if_neg h2]
      exact ⟨1, by omega, rfl⟩
theorem ok_law {fl f1 f2 f3 f4 f5 f6 f7 f8 g1 g2 g3 g4 g5 g6 g7 g8 g9 : Addr} {fdl d1 d2 d3 d4 d5 d6 d7 d8 c1 c2 c3 c4 c5 c6 c7 c8 c9 : FuncData} (T : Txt K mg aH) (F : Fun K "law" "law" s_law fl fdl)
    (A0 : Alls K mg f1 f2 f3 f4 f5 f6 f7 f8 g1 g2 g3 g4 g5 g6 g7 g8 g9 d1 d2 d3 d4 d5 d6 d7 d8 c1 c2 c3 c4 c5 c6 c7 c8 c9) : FnOk P w K mg base CX0 31 fl fdl ["script"] (spLaw K) := by
  have C_law_part := A0.gn.pa.cal (ok_law_part (P := P) (w := w) (base := base) T A0.gn 7)
  have C_law_draw := A0.gn.dr.cal (ok_law_draw (P := P) (w := w) (base := base) T A0.gn.dr)
  have C_law_pool := A0.po.cal (ok_law_pool (P := P) (w := w) (base := base) T A0.po)
  have C_law_paths := A0.pt.cal (ok_law_paths (P := P) (w := w) (base := base) T A0.pt A0.gn.ch 7 (by omega))
  have C_law_size := A0.gn.sz.cal (ok_law_size (P := P) (w := w) (base := base) T A0.gn.sz A0.gn.ch 7)
  have C_law_changed := A0.lc.cal (ok_law_changed (P := P) (w := w) (base := base) T A0.lc A0.gn.ch 7)
  have C_size_of := A0.so.cal (ok_size_of (P := P) (w := w) (base := base) T A0.so A0.pf 7)
  have C_subparts := A0.sp.cal (ok_subparts (P := P) (w := w) (base := base) T A0.sp A0.pf 7 (by omega))
  have C_part_at := A0.pa.cal (ok_part_at (P := P) (w := w) (base := base) T A0.pa A0.pf)
  have C_replaced := A0.re.cal (ok_replaced (P := P) (w := w) (base := base) T A0.re A0.pf A0.wp 7)
  refine F.ok sc_law (fun vs H Q E h => ?_) (fun cdv A outer s H vs Q E hr h => ?_)
  · obtain ⟨a, ns, rfl, _⟩ := h
    rfl
  · obtain ⟨a, ns, rfl, hs, hlen, q⟩ := h
    refine ⟨_, (pss_cons (ps_for PassesOwn.never rfl (pi_range1 (by rfl) T.b_range (pa_cons (pe_callB (call_max2 rfl) (by rfl) T.b_max (by decide +kernel) (pa_cons pe_int (pa_cons (pe_callB (call_min2 rfl) (by rfl) T.b_min (by decide +kernel) (pa_cons (pe_callB (call_lenK K) (by rfl) T.b_len PySem.boot_len (pa_cons (pv 0) pa_nil)) (pa_cons pe_int pa_nil))) pa_nil))) pa_nil)) (pg_name (i := 1) sc_law.nd rfl (Or.inl rfl)) (pss_cons (ps_set (i := 2) sc_law.nd rfl (Or.inl rfl) (pe_cal C_law_pool hr (by omega) (by rfl) (pa_cons (pv 0) (pa_cons (pv 1) pa_nil))))
    (pss_cons (ps_set (i := 3) sc_law.nd rfl (Or.inl rfl) (pe_cal C_law_part hr (by omega) (by rfl) (pa_cons (pv 2) (pa_cons (pe_lst (pa_cons pe_int pa_nil)) (pa_cons pe_int (pa_cons pe_int (pa_cons pe_bl pa_nil)))))))
    (pss_cons (ps_set (i := 4) sc_law.nd rfl (Or.inl rfl) (pe_cal C_law_part hr (by omega) (by rfl) (pa_cons (pv 2) (pa_cons (pe_lst (pa_cons pe_int pa_nil)) (pa_cons pe_int (pa_cons pe_int (pa_cons pe_bl pa_nil)))))))
    (pss_cons (ps_set (i := 5) sc_law.nd rfl (Or.inl rfl) (pe_cal C_law_paths hr (by omega) (by rfl) (pa_cons (pv 3) pa_nil)))
    (pss_cons (ps_set (i := 6) sc_law.nd rfl (Or.inl rfl) (pe_cal C_subparts hr (by omega) (by rfl) (pa_cons (pv 3) pa_nil)))
    (pss_cons (ps_if (PW.pt (pw_or (pt_cmpR (op_neDK K hr.units) (pv 6) (pv 5) (nomark _)) (pw_or (pt_not (pt_val (pe_callB (call_isiK0 K) (by rfl) T.b_isinstance (by decide +kernel) (pa_cons (pv 6) (pa_cons (pe_bltn (v := .ty "list") (by rfl) T.b_list (by decide +kernel) rfl) pa_nil))))) (pw_or1 (pt_cmpR op_ne (pe_cal C_size_of hr (by omega) (by rfl) (pa_cons (pv 3) pa_nil)) (pe_cal C_law_size hr (by omega) (by rfl) (pa_cons (pv 3) pa_nil)) (nomark _)))))) (pss_one (ps_ret pe_bl)) pss_nil)
    (pss_cons (ps_if (pt_val (pe_callB (call_isiK0 K) (by rfl) T.b_isinstance (by decide +kernel) (pa_cons (pe_cal C_size_of hr (by omega) (by rfl) (pa_cons (pv 3) pa_nil)) (pa_cons (pe_bltn (v := .ty "bool") (by rfl) T.b_bool (by decide +kernel) rfl) pa_nil)))) (pss_one (ps_ret pe_bl)) pss_nil)
    (pss_cons (ps_expr (pe_bm PySem.F.plainAttrs_list PySem.F.slot_list_append PySem.F.type_list_append mt_append (pv 6) (pa_cons pe_non pa_nil)))
    (pss_cons (ps_if (pt_cmpR (op_neDK K hr.units) (pe_cal C_subparts hr (by omega) (by rfl) (pa_cons (pv 3) pa_nil)) (pv 5) (nomark _)) (pss_one (ps_ret pe_bl)) pss_nil)
    (pss_cons (ps_for PassesOwn.never rfl (pi_listK K (pv 5)) (pg_tupK K (n := 2) (by rfl) (pgs_cons (pg_name (i := 7) sc_law.nd rfl (Or.inl rfl)) (pgs_cons (pg_name (i := 8) sc_law.nd rfl (Or.inl rfl)) pgs_nil))) (pss_cons (ps_if (PW.pt (pw_or (pt_cmpR (op_neDK K hr.units) (pe_cal C_part_at hr (by omega) (by rfl) (pa_cons (pv 3) (pa_cons (pv 7) pa_nil))) (pv 8) (nomark _)) (pw_or1 (pt_cmpR op_ne (pe_cal C_size_of hr (by omega) (by rfl) (pa_cons (pv 8) pa_nil)) (pe_cal C_law_size hr (by omega) (by rfl) (pa_cons (pv 8) pa_nil)) (nomark _))))) (pss_one (ps_ret pe_bl)) pss_nil)
    (pss_cons (ps_set (i := 9) sc_law.nd rfl (Or.inl rfl) (pe_cal C_replaced hr (by omega) (by rfl) (pa_cons (pv 3) (pa_cons (pv 7) (pa_cons (pv 4) pa_nil)))))
    (pss_one (ps_if (PW.pt (pw_or (pt_cmpR (op_neDK K hr.units) (pv 9) (pe_cal C_law_changed hr (by omega) (by rfl) (pa_cons (pv 3) (pa_cons (pv 7) (pa_cons (pv 4) pa_nil)))) (nomark _)) (pw_or1 (pt_not (pt_val (pe_callB (call_isiK0 K) (by rfl) T.b_isinstance (by decide +kernel) (pa_cons (pv 9) (pa_cons (pe_bltn (v := .ty "tuple") (by rfl) T.b_tuple (by decide +kernel) rfl) pa_nil)))))))) (pss_one (ps_ret pe_bl)) pss_nil)))))
    (pss_cons (ps_set (i := 7) sc_law.nd rfl (Or.inl rfl) (pe_ix (ix_tupK K) (pe_ix (ix_listK K) (pv 5) (pe_cal C_law_draw hr (by omega) (by rfl) (pa_cons (pv 2) (pa_cons (pe_callB (call_lenK K) (by rfl) T.b_len PySem.boot_len (pa_cons (pv 5) pa_nil)) pa_nil))) (fun _ _ => rfl)) pe_int (fun _ _ => rfl)))
    (pss_one (ps_if (pt_cmpR (op_neDK K hr.units) (pe_cal C_replaced hr (by omega) (by rfl) (pa_cons (pv 3) (pa_cons (pv 7) (pa_cons (pe_cal C_part_at hr (by omega) (by rfl) (pa_cons (pv 3) (pa_cons (pv 7) pa_nil))) pa_nil)))) (pv 3) (nomark _)) (pss_one (ps_ret pe_bl)) pss_nil))))))))))))))
    (pss_one (ps_ret pe_bl))), ?_⟩
    have st : Sta K H (fun _ => none) [.val (.ref a), .un, .un, .un, .un, .un, .un, .un, .un, .un] (L2.start N_sc_law [.ref a]) H := ⟨⟨Ex.refl _, (fun _ _ e => nomatch e), fun _ => .inr rfl⟩, ⟨rfl, trivial, trivial, trivial, trivial, trivial, trivial, trivial, trivial, trivial, trivial⟩⟩
    obtain ⟨m, hm, em⟩ := clamp ns.length
    have eI : EvI K H (fun _ => none) [.val (.ref a), .un, .un, .un, .un, .un, .un, .un, .un, .un] (iRng1 (tCons (tCB (fun xs H Q => ∃ i j, xs = [V.int i, V.int j] ∧ Q (V.int (if j > i then j else i)) H) (tCons (tC (.int 1)) (tCons (tCB (fun xs H Q => ∃ i j, xs = [V.int i, V.int j] ∧ Q (V.int (if j < i then j else i)) H) (tCons (tCB (fun xs H Q => ∃ p ys, xs = [V.ref p] ∧ (SqL K H p ys ∨ SqT K H p ys) ∧ Q (.int ys.length) H) (tCons (tVar 0) tNil)) (tCons (tC (.int 30)) tNil))) tNil))) tNil)) (rangeD 0 m) := by
      have h0 := ei_range1 (K := K) (B := H) (O := fun _ => none) (G := [.val (.ref a), .un, .un, .un, .un, .un, .un, .un, .un, .un]) (ea_cons (ev_cb (ea_cons ev_int (ea_cons (ev_cb (ea_cons (ev_lenS (i := 0) rfl hs) (ea_cons (ev_int (i := 30)) ea_nil)) rc_min2) ea_nil)) (rc_max2 (i := 1))) ea_nil) (by rw [List.length_map, em]; omega)
      rw [List.length_map, em, Int.toNat_natCast] at h0
      exact h0
    refine q_for st eI (fun i B' O' G' => O' = (fun _ => none) ∧ ∃ x1 x2 x3 x4 x5 x6 x7 x8 x9 : SD, G' = [.val (.ref a), x1, x2, x3, x4, x5, x6, x7, x8, x9]) (fun i B1 B2 O1 G1 e x => x) ⟨rfl, _, _, _, _, _, _, _, _, _, rfl⟩ ?_ ?_
    · rintro i e B1 O1 G1 σ1 H1 v hie x1 ⟨rfl, y1, y2, y3, y4, y5, y6, y7, y8, y9, rfl⟩ st dv N hN
      obtain ⟨hi, rfl⟩ := range_inv hie
      refine eg_name B1 _ σ1 H1 v st dv _ fun σ2 st _ => ?_
      refine q_pool st rfl (sl_ex x1 hs) hlen (ev_var rfl) (by omega) (by omega) fun p O2 B2 H2 x2 np hp hfr2 st => ?_
      refine qx_asg st (ex_part0 rfl hp) fun v3 d3 B3 O3 H3 x3 ⟨t, ht, ed, m3⟩ dv3 st => ?_
      subst ed
      refine qx_asg st (ex_part0 rfl m3.pool) fun v4 d4 B4 O4 H4 x4 ⟨o, ho, ed, m4⟩ dv4 st => ?_
      subst ed
      refine q_asg st (ev_call (ea_cons (ev_var rfl) ea_nil) ⟨t, ht, rfl, rfl⟩) fun v5 B5 H5 x5 d5 st => ?_
      have hlay := lay_places ht (by omega)
      have hcnt : (subs 7 t).length ≤ 55987 := Nat.le_trans (subs_len ht) (PT.cnt_le (by omega))
      refine q_asgL st (el_call (ea_cons (ev_var rfl) ea_nil) ⟨t, ht, rfl, rfl⟩) fun l vs B6 H6 x6 nl dvs st => ?_
      have hvl := dps_len dvs
      rw [List.length_map] at hvl
      have esz : ∀ {B' O' : Hp} {G' : List SD} {i : Nat} {c : Part}, G'[i]? = some (.dat (enc c)) → ok 7 c → EvD K B' O' G' (tCall (SpR K (R_size 7)) [] E0 (tCons (tVar i) tNil)) (encN (size 7 c)) := fun hg hc => ev_call (ea_cons (ev_var hg) ea_nil) ⟨_, hc, rfl, rfl⟩
      refine q_whenF st (et_or (a := false) (et_test (ev_neO rfl upd_same dvs (ev_var rfl) (hlay.sh (by omega)) (hlay.sh (by omega)) (by rw [PySem.SeqAt.eqv_refl _ hlay.1]; rfl))) fun _ => et_or (a := false) (et_not (a := true) (et_B (ev_isiO rfl upd_same (by decide +kernel)))) fun _ => et_test (ev_op (esz rfl ht) (esz rfl ht) ne_encN)) fun B7 H7 x7 st => ?_
      refine q_whenF st (et_B (ev_isi (esz rfl ht) kit_encN)) fun B8 H8 x8 st => ?_
      refine q_app st rfl upd_same (by omega) ev_non fun v9 B9 H9 x9 d9 st => ?_
      refine q_whenF st (et_test (ev_op (el_call (ea_cons (ev_var rfl) ea_nil) ⟨t, ht, rfl, rfl⟩).d (ev_var rfl) (neD_refl hlay (by omega)))) fun B10 H10 x10 st => ?_
      have st10 : Sta K B10 O4 [.val (.ref a), .dat (.int (0 + (i : Int))), .val (.ref p), .dat (enc t), .dat (enc o), .dat (.list ((subs 7 t).map encQ)), .val (.ref l), y7, y8, y9] _ H10 := Sta.sub st fun a' o' e' => by
        have hne : a' ≠ l := ne_of_none e' nl
        rw [upd_upd, upd_ne hne]
        exact e'
      clear st
      -- each place
      refine q_for st10 (ei_list (ev_var rfl)) (fun i' B' O' G' => O' = O4 ∧ ∃ x7 x8 x9 : SD, G' = [.val (.ref a), .dat (.int (0 + (i : Int))), .val (.ref p), .dat (enc t), .dat (enc o), .dat (.list ((subs 7 t).map encQ)), .val (.ref l), x7, x8, x9]) (fun i B1 B2 O1 G1 e x => x) ⟨rfl, _, _, _, rfl⟩ ?_ ?_
      · rintro i' e B11 O11 G11 σ11 H11 v hie x11 ⟨rfl, z7, z8, z9, rfl⟩ st dv N2 hN2
        obtain ⟨⟨pth, c⟩, hq, rfl⟩ := map_inv hie
        have hmem : (pth, c) ∈ subs 7 t := List.mem_of_getElem? hq
        have hget := subs_get hmem
        have hc := ok_get ht hget
        obtain ⟨r, hrep⟩ := rep_get o hget
        have hrr := ok_rep ho ht hrep
        refine eg_pair (a := encP pth) (b := enc c) B11 _ σ11 H11 v st dv _ fun σ12 st _ => ?_
        refine q_whenF st (et_or (a := false) (et_test (ev_op (ev_call (ea_cons (ev_var rfl) (ea_cons (ev_var rfl) ea_nil)) ⟨7, t, pth, c, ht, hget, rfl, rfl⟩) (ev_var rfl) (neD_refl (lay_enc hc) (by omega)))) fun _ => et_test (ev_op (esz rfl hc) (esz rfl hc) ne_encN)) fun B12 H12 x12 st => ?_
        refine q_asg st (ev_call (ea_cons (ev_var rfl) (ea_cons (ev_var rfl) (ea_cons (ev_var rfl) ea_nil))) ⟨t, pth, o, c, r, ht, hget, hrep, rfl, rfl⟩) fun v13 B13 H13 x13 d13 st => ?_
        refine s_if (b := false) st (et_or (a := false) (et_test (ev_op (ev_var rfl) (ev_call (ea_cons (ev_var rfl) (ea_cons (ev_var rfl) (ea_cons (ev_var rfl) ea_nil))) ⟨t, pth, o, c, r, ht, hget, hrep, rfl, rfl⟩) (neD_refl (lay_enc hrr) (by omega)))) fun _ => et_not (a := true) (et_B (ev_isi (ev_is (ev_var rfl) (enc_eq r)) (by exact (by decide +kernel : kitB "tuple" "tuple" = some true))))) (fun z => nomatch z) fun _ B14 H14 x14 st => ?_
        exact hN2 B14 _ _ _ _ ((x12.trans x13).trans x14) ⟨rfl, _, _, _, rfl⟩ st
      · rintro B11 O11 G11 σ11 H11 x11 ⟨rfl, z7, z8, z9, rfl⟩ st
        have hpos : 0 < (subs 7 t).length := by
          show 0 < (subsTo (subs 6) t (kids t).length).length
          simp [subsTo]
        refine qx_asg st (R := fun d O' => ∃ q, q ∈ subs 7 t ∧ d = encP q.1 ∧ Mv p O11 O') ?_ fun v12 d12 B12 O12 H12 x12 ⟨q', hq', ed, m12⟩ dv12 st => ?_
        · refine ex_op (ex_op (R3 := fun z O' => ∃ q, q ∈ subs 7 t ∧ z = encQ q ∧ Mv p O11 O') (ex_pure (ev_var rfl)) (R2' := fun _ O' d2 O'' => ∃ r, d2 = .int r ∧ 0 ≤ r ∧ r < ((subs 7 t).length : Int) ∧ Mv p O' O'') (fun d1 B' O' xb e => ?_) ?_) (R2' := fun _ O' d2 O'' => d2 = .int 0 ∧ O'' = O') (fun d1 B' O' xb e => ex_pure ev_int) ?_
          · obtain ⟨e1, e2⟩ := e
            subst e2
            refine ex_drawE rfl m4.pool (ev_is (ev_cb (ea_cons (ev_var rfl) ea_nil) rc_lenL) (by rw [List.length_map])) (by omega) (by omega)
          · rintro d1 O' d2 O'' ⟨rfl, rfl⟩ ⟨rr, rfl, r0, r1, mm⟩
            obtain ⟨z, hz, ha⟩ := at_some (ds := (subs 7 t).map encQ) r0 (by rw [List.length_map]; exact r1)
            obtain ⟨q', hq', rfl⟩ := List.mem_map.mp hz
            exact ⟨_, rd_ixL ha, q', hq', rfl, mm⟩
          · rintro d1 O' d2 O'' ⟨q', hq', rfl, mm⟩ ⟨rfl, rfl⟩
            exact ⟨_, rd_ixT at0, q', hq', rfl, mm⟩
        subst ed
        obtain ⟨pth, c⟩ := q'
        have hget := subs_get hq'
        have hc := ok_get ht hget
        have hrep := rep_same hget
        refine s_if (b := false) st (et_test (ev_op (ev_call (ea_cons (ev_var rfl) (ea_cons (ev_var rfl) (ea_cons (ev_call (ea_cons (ev_var rfl) (ea_cons (ev_var rfl) ea_nil)) ⟨7, t, pth, c, ht, hget, rfl, rfl⟩) ea_nil))) ⟨t, pth, c, c, t, ht, hget, hrep, rfl, rfl⟩) (ev_var rfl) (neD_refl (lay_enc ht) (by omega)))) (fun z => nomatch z) fun _ B13 H13 x13 st => ?_
        refine hN B13 _ _ _ _ (((((((((((x2.trans x3).trans x4).trans x5).trans x6).trans x7).trans x8).trans x9).trans x10).trans x11).trans x12).trans x13) ⟨rfl, _, _, _, _, _, _, _, _, _, rfl⟩ (Sta.sub st fun _ _ e => nomatch e)
    · rintro B1 O1 G1 σ1 H1 x1 ⟨rfl, y1, y2, y3, y4, y5, y6, y7, y8, y9, rfl⟩ st
      exact q H1

end
end Toy
set_option Elab.async false
set_option linter.all false
set_option maxRecDepth 100000
set_option maxHeartbeats 4000000
namespace Toy
open PySem PySem.Spec PyProof.Rows L2 StX DL PT
theorem all_mk {l : PySem.W.OpenLaw} {w : World} {K : PySem.W.Frag} {h : Heap} {mg : Str → Option Value} {fa f1 f2 f3 f4 f5 f6 f7 f8 f9 f10 f11 f12 f13 f14 f15 f16 f17 f18 : Addr} (X : K.In h) (G : h.Ns mainGlobals mg) (hfa : mg "law" = some (.ref fa))
    {od1 an1 od2 an2 od3 an3 od4 an4 od5 an5 od6 an6 od7 an7 od8 an8 od9 an9 od10 an10 od11 an11 od12 an12 od13 an13 od14 an14 od15 an15 od16 an16 od17 an17 od18 an18 : Option Addr} {sl1 sl2 sl3 sl4 sl5 sl6 sl7 sl8 sl9 sl10 sl11 sl12 sl13 sl14 sl15 sl16 sl17 sl18 : Array (Option Value)} {oc1 kV1 dc1 pm1 cd1 ct1 oc2 kV2 dc2 pm2 cd2 ct2 oc3 kV3 dc3 pm3 cd3 ct3 oc4 kV4 dc4 pm4 cd4 ct4 oc5 kV5 dc5 pm5 cd5 ct5 oc6 kV6 dc6 pm6 cd6 ct6 oc7 kV7 dc7 pm7 cd7 ct7 oc8 kV8 dc8 pm8 cd8 ct8 oc9 kV9 dc9 pm9 cd9 ct9 oc10 kV10 dc10 pm10 cd10 ct10 oc11 kV11 dc11 pm11 cd11 ct11 oc12 kV12 dc12 pm12 cd12 ct12 oc13 kV13 dc13 pm13 cd13 ct13 oc14 kV14 dc14 pm14 cd14 ct14 oc15 kV15 dc15 pm15 cd15 ct15 oc16 kV16 dc16 pm16 cd16 ct16 oc17 kV17 dc17 pm17 cd17 ct17 oc18 kV18 dc18 pm18 cd18 ct18 : Value} {aH : Addr} {ddH : Option Addr} {tH1 tH2 tH3 tH4 tH5 : Tok} {nH : Nat} {slH : Array (Option Value)}
    (a1 : PySem.W.nsIn K mainGlobals "size_of" = some (some (.ref f1)))
    (l1 : K.lookup f1 = some ⟨oc1, od1, .func (PySem.W.fnOf "size_of" "size_of" (defArgs s_size_of) (defBody s_size_of) (defScope s_size_of) .none kV1 dc1 pm1 an1 cd1 ct1), sl1⟩)
    (c1 : PySem.W.codeIn K cd1 "size_of" = true)
    (k1 : PySem.W.keepIn K (.ref f1) = true)
    (a2 : PySem.W.nsIn K mainGlobals "parts_of" = some (some (.ref f2)))
    (l2 : K.lookup f2 = some ⟨oc2, od2, .func (PySem.W.fnOf "parts_of" "parts_of" (defArgs s_parts_of) (defBody s_parts_of) (defScope s_parts_of) .none kV2 dc2 pm2 an2 cd2 ct2), sl2⟩)
    (c2 : PySem.W.codeIn K cd2 "parts_of" = true)
    (k2 : PySem.W.keepIn K (.ref f2) = true)
    (a3 : PySem.W.nsIn K mainGlobals "with_parts" = some (some (.ref f3)))
    (l3 : K.lookup f3 = some ⟨oc3, od3, .func (PySem.W.fnOf "with_parts" "with_parts" (defArgs s_with_parts) (defBody s_with_parts) (defScope s_with_parts) .none kV3 dc3 pm3 an3 cd3 ct3), sl3⟩)
    (c3 : PySem.W.codeIn K cd3 "with_parts" = true)
    (k3 : PySem.W.keepIn K (.ref f3) = true)
    (a4 : PySem.W.nsIn K mainGlobals "subparts" = some (some (.ref f4)))
    (l4 : K.lookup f4 = some ⟨oc4, od4, .func (PySem.W.fnOf "subparts" "subparts" (defArgs s_subparts) (defBody s_subparts) (defScope s_subparts) .none kV4 dc4 pm4 an4 cd4 ct4), sl4⟩)
    (c4 : PySem.W.codeIn K cd4 "subparts" = true)
    (k4 : PySem.W.keepIn K (.ref f4) = true)
    (a5 : PySem.W.nsIn K mainGlobals "part_at" = some (some (.ref f5)))
    (l5 : K.lookup f5 = some ⟨oc5, od5, .func (PySem.W.fnOf "part_at" "part_at" (defArgs s_part_at) (defBody s_part_at) (defScope s_part_at) .none kV5 dc5 pm5 an5 cd5 ct5), sl5⟩)
    (c5 : PySem.W.codeIn K cd5 "part_at" = true)
    (k5 : PySem.W.keepIn K (.ref f5) = true)
    (a6 : PySem.W.nsIn K mainGlobals "replaced" = some (some (.ref f6)))
    (l6 : K.lookup f6 = some ⟨oc6, od6, .func (PySem.W.fnOf "replaced" "replaced" (defArgs s_replaced) (defBody s_replaced) (defScope s_replaced) .none kV6 dc6 pm6 an6 cd6 ct6), sl6⟩)
    (c6 : PySem.W.codeIn K cd6 "replaced" = true)
    (k6 : PySem.W.keepIn K (.ref f6) = true)
    (a7 : PySem.W.nsIn K mainGlobals "_law_pool" = some (some (.ref f7)))
    (l7 : K.lookup f7 = some ⟨oc7, od7, .func (PySem.W.fnOf "_law_pool" "_law_pool" (defArgs s_law_pool) (defBody s_law_pool) (defScope s_law_pool) .none kV7 dc7 pm7 an7 cd7 ct7), sl7⟩)
    (c7 : PySem.W.codeIn K cd7 "_law_pool" = true)
    (k7 : PySem.W.keepIn K (.ref f7) = true)
    (a8 : PySem.W.nsIn K mainGlobals "_law_draw" = some (some (.ref f8)))
    (l8 : K.lookup f8 = some ⟨oc8, od8, .func (PySem.W.fnOf "_law_draw" "_law_draw" (defArgs s_law_draw) (defBody s_law_draw) (defScope s_law_draw) .none kV8 dc8 pm8 an8 cd8 ct8), sl8⟩)
    (c8 : PySem.W.codeIn K cd8 "_law_draw" = true)
    (k8 : PySem.W.keepIn K (.ref f8) = true)
    (a9 : PySem.W.nsIn K mainGlobals "_law_children" = some (some (.ref f9)))
    (l9 : K.lookup f9 = some ⟨oc9, od9, .func (PySem.W.fnOf "_law_children" "_law_children" (defArgs s_law_children) (defBody s_law_children) (defScope s_law_children) .none kV9 dc9 pm9 an9 cd9 ct9), sl9⟩)
    (c9 : PySem.W.codeIn K cd9 "_law_children" = true)
    (k9 : PySem.W.keepIn K (.ref f9) = true)
    (a10 : PySem.W.nsIn K mainGlobals "_law_size" = some (some (.ref f10)))
    (l10 : K.lookup f10 = some ⟨oc10, od10, .func (PySem.W.fnOf "_law_size" "_law_size" (defArgs s_law_size) (defBody s_law_size) (defScope s_law_size) .none kV10 dc10 pm10 an10 cd10 ct10), sl10⟩)
    (c10 : PySem.W.codeIn K cd10 "_law_size" = true)
    (k10 : PySem.W.keepIn K (.ref f10) = true)
    (a11 : PySem.W.nsIn K mainGlobals "_law_leaf" = some (some (.ref f11)))
    (l11 : K.lookup f11 = some ⟨oc11, od11, .func (PySem.W.fnOf "_law_leaf" "_law_leaf" (defArgs s_law_leaf) (defBody s_law_leaf) (defScope s_law_leaf) .none kV11 dc11 pm11 an11 cd11 ct11), sl11⟩)
    (c11 : PySem.W.codeIn K cd11 "_law_leaf" = true)
    (k11 : PySem.W.keepIn K (.ref f11) = true)
    (a12 : PySem.W.nsIn K mainGlobals "_law_options" = some (some (.ref f12)))
    (l12 : K.lookup f12 = some ⟨oc12, od12, .func (PySem.W.fnOf "_law_options" "_law_options" (defArgs s_law_options) (defBody s_law_options) (defScope s_law_options) .none kV12 dc12 pm12 an12 cd12 ct12), sl12⟩)
    (c12 : PySem.W.codeIn K cd12 "_law_options" = true)
    (k12 : PySem.W.keepIn K (.ref f12) = true)
    (a13 : PySem.W.nsIn K mainGlobals "_law_counted" = some (some (.ref f13)))
    (l13 : K.lookup f13 = some ⟨oc13, od13, .func (PySem.W.fnOf "_law_counted" "_law_counted" (defArgs s_law_counted) (defBody s_law_counted) (defScope s_law_counted) .none kV13 dc13 pm13 an13 cd13 ct13), sl13⟩)
    (c13 : PySem.W.codeIn K cd13 "_law_counted" = true)
    (k13 : PySem.W.keepIn K (.ref f13) = true)
    (a14 : PySem.W.nsIn K mainGlobals "_law_within" = some (some (.ref f14)))
    (l14 : K.lookup f14 = some ⟨oc14, od14, .func (PySem.W.fnOf "_law_within" "_law_within" (defArgs s_law_within) (defBody s_law_within) (defScope s_law_within) .none kV14 dc14 pm14 an14 cd14 ct14), sl14⟩)
    (c14 : PySem.W.codeIn K cd14 "_law_within" = true)
    (k14 : PySem.W.keepIn K (.ref f14) = true)
    (a15 : PySem.W.nsIn K mainGlobals "_law_part" = some (some (.ref f15)))
    (l15 : K.lookup f15 = some ⟨oc15, od15, .func (PySem.W.fnOf "_law_part" "_law_part" (defArgs s_law_part) (defBody s_law_part) (defScope s_law_part) .none kV15 dc15 pm15 an15 cd15 ct15), sl15⟩)
    (c15 : PySem.W.codeIn K cd15 "_law_part" = true)
    (k15 : PySem.W.keepIn K (.ref f15) = true)
    (a16 : PySem.W.nsIn K mainGlobals "_law_changed" = some (some (.ref f16)))
    (l16 : K.lookup f16 = some ⟨oc16, od16, .func (PySem.W.fnOf "_law_changed" "_law_changed" (defArgs s_law_changed) (defBody s_law_changed) (defScope s_law_changed) .none kV16 dc16 pm16 an16 cd16 ct16), sl16⟩)
    (c16 : PySem.W.codeIn K cd16 "_law_changed" = true)
    (k16 : PySem.W.keepIn K (.ref f16) = true)
    (a17 : PySem.W.nsIn K mainGlobals "_law_paths" = some (some (.ref f17)))
    (l17 : K.lookup f17 = some ⟨oc17, od17, .func (PySem.W.fnOf "_law_paths" "_law_paths" (defArgs s_law_paths) (defBody s_law_paths) (defScope s_law_paths) .none kV17 dc17 pm17 an17 cd17 ct17), sl17⟩)
    (c17 : PySem.W.codeIn K cd17 "_law_paths" = true)
    (k17 : PySem.W.keepIn K (.ref f17) = true)
    (a18 : PySem.W.nsIn K mainGlobals "law" = some (some (.ref f18)))
    (l18 : K.lookup f18 = some ⟨oc18, od18, .func (PySem.W.fnOf "law" "law" (defArgs s_law) (defBody s_law) (defScope s_law) .none kV18 dc18 pm18 an18 cd18 ct18), sl18⟩)
    (c18 : PySem.W.codeIn K cd18 "law" = true)
    (k18 : PySem.W.keepIn K (.ref f18) = true)
    (z_len : PySem.W.nsIn K mainGlobals "len" = some none)
    (z_list : PySem.W.nsIn K mainGlobals "list" = some none)
    (z_tuple : PySem.W.nsIn K mainGlobals "tuple" = some none)
    (z_int : PySem.W.nsIn K mainGlobals "int" = some none)
    (z_abs : PySem.W.nsIn K mainGlobals "abs" = some none)
    (z_sum : PySem.W.nsIn K mainGlobals "sum" = some none)
    (z_all : PySem.W.nsIn K mainGlobals "all" = some none)
    (z_max : PySem.W.nsIn K mainGlobals "max" = some none)
    (z_min : PySem.W.nsIn K mainGlobals "min" = some none)
    (z_bool : PySem.W.nsIn K mainGlobals "bool" = some none)
    (z_range : PySem.W.nsIn K mainGlobals "range" = some none)
    (z_enumerate : PySem.W.nsIn K mainGlobals "enumerate" = some none)
    (z_zip : PySem.W.nsIn K mainGlobals "zip" = some none)
    (z_isinstance : PySem.W.nsIn K mainGlobals "isinstance" = some none)
    (g_HOLDERS : PySem.W.nsIn K mainGlobals "HOLDERS" = some (some (.ref aH)))
    (v_HOLDERS : K.lookup aH = some ⟨.type "tuple", ddH, .seq #[.str "times" tH1, .str "counted" tH2, .str "within" tH3, .str "fill" tH4, .str "if left" tH5] nH, slH⟩)
    :
    ∃ fd : FuncData, (∀ (s : Shared) (v : Value), BindsTo s fd ⟨[v], []⟩ [("script", v)]) ∧ ∀ base : Heap, K.In base → base.Ns mainGlobals mg → FnOk l.prog w K mg base CX0 31 fa fd ["script"] (spLaw K) := by
  have e := hfa.symm.trans (PySem.W.mg_of X G a18)
  cases e
  have F1 := fun_mk (st := s_size_of) l1 c1 k1
  have b1 := F1.binds (ps := ["part"]) fun _ _ _ _ _ _ us hl => match us, hl with | [_], _ => rfl
  have A1 : At K mg "size_of" s_size_of ["part"] f1 _ := ⟨F1, PySem.W.mg_of X G a1, b1⟩
  have F2 := fun_mk (st := s_parts_of) l2 c2 k2
  have b2 := F2.binds (ps := ["part"]) fun _ _ _ _ _ _ us hl => match us, hl with | [_], _ => rfl
  have A2 : At K mg "parts_of" s_parts_of ["part"] f2 _ := ⟨F2, PySem.W.mg_of X G a2, b2⟩
  have F3 := fun_mk (st := s_with_parts) l3 c3 k3
  have b3 := F3.binds (ps := ["part", "parts"]) fun _ _ _ _ _ _ us hl => match us, hl with | [_, _], _ => rfl
  have A3 : At K mg "with_parts" s_with_parts ["part", "parts"] f3 _ := ⟨F3, PySem.W.mg_of X G a3, b3⟩
  have F4 := fun_mk (st := s_subparts) l4 c4 k4
  have b4 := F4.binds (ps := ["part"]) fun _ _ _ _ _ _ us hl => match us, hl with | [_], _ => rfl
  have A4 : At K mg "subparts" s_subparts ["part"] f4 _ := ⟨F4, PySem.W.mg_of X G a4, b4⟩
  have F5 := fun_mk (st := s_part_at) l5 c5 k5
  have b5 := F5.binds (ps := ["part", "path"]) fun _ _ _ _ _ _ us hl => match us, hl with | [_, _], _ => rfl
  have A5 : At K mg "part_at" s_part_at ["part", "path"] f5 _ := ⟨F5, PySem.W.mg_of X G a5, b5⟩
  have F6 := fun_mk (st := s_replaced) l6 c6 k6
  have b6 := F6.binds (ps := ["part", "path", "other"]) fun _ _ _ _ _ _ us hl => match us, hl with | [_, _, _], _ => rfl
  have A6 : At K mg "replaced" s_replaced ["part", "path", "other"] f6 _ := ⟨F6, PySem.W.mg_of X G a6, b6⟩
  have F7 := fun_mk (st := s_law_pool) l7 c7 k7
  have b7 := F7.binds (ps := ["script", "k"]) fun _ _ _ _ _ _ us hl => match us, hl with | [_, _], _ => rfl
  have A7 : At K mg "_law_pool" s_law_pool ["script", "k"] f7 _ := ⟨F7, PySem.W.mg_of X G a7, b7⟩
  have F8 := fun_mk (st := s_law_draw) l8 c8 k8
  have b8 := F8.binds (ps := ["pool", "count"]) fun _ _ _ _ _ _ us hl => match us, hl with | [_, _], _ => rfl
  have A8 : At K mg "_law_draw" s_law_draw ["pool", "count"] f8 _ := ⟨F8, PySem.W.mg_of X G a8, b8⟩
  have F9 := fun_mk (st := s_law_children) l9 c9 k9
  have b9 := F9.binds (ps := ["part"]) fun _ _ _ _ _ _ us hl => match us, hl with | [_], _ => rfl
  have A9 : At K mg "_law_children" s_law_children ["part"] f9 _ := ⟨F9, PySem.W.mg_of X G a9, b9⟩
  have F10 := fun_mk (st := s_law_size) l10 c10 k10
  have b10 := F10.binds (ps := ["part"]) fun _ _ _ _ _ _ us hl => match us, hl with | [_], _ => rfl
  have A10 : At K mg "_law_size" s_law_size ["part"] f10 _ := ⟨F10, PySem.W.mg_of X G a10, b10⟩
  have F11 := fun_mk (st := s_law_leaf) l11 c11 k11
  have b11 := F11.binds (ps := ["pool", "how", "told"]) fun _ _ _ _ _ _ us hl => match us, hl with | [_, _, _], _ => rfl
  have A11 : At K mg "_law_leaf" s_law_leaf ["pool", "how", "told"] f11 _ := ⟨F11, PySem.W.mg_of X G a11, b11⟩
  have F12 := fun_mk (st := s_law_options) l12 c12 k12
  have b12 := F12.binds (ps := ["pool", "room", "depth", "limits", "told"]) fun _ _ _ _ _ _ us hl => match us, hl with | [_, _, _, _, _], _ => rfl
  have A12 : At K mg "_law_options" s_law_options ["pool", "room", "depth", "limits", "told"] f12 _ := ⟨F12, PySem.W.mg_of X G a12, b12⟩
  have F13 := fun_mk (st := s_law_counted) l13 c13 k13
  have b13 := F13.binds (ps := ["pool", "how", "room", "depth", "limits", "told"]) fun _ _ _ _ _ _ us hl => match us, hl with | [_, _, _, _, _, _], _ => rfl
  have A13 : At K mg "_law_counted" s_law_counted ["pool", "how", "room", "depth", "limits", "told"] f13 _ := ⟨F13, PySem.W.mg_of X G a13, b13⟩
  have F14 := fun_mk (st := s_law_within) l14 c14 k14
  have b14 := F14.binds (ps := ["pool", "how", "room", "depth", "limits"]) fun _ _ _ _ _ _ us hl => match us, hl with | [_, _, _, _, _], _ => rfl
  have A14 : At K mg "_law_within" s_law_within ["pool", "how", "room", "depth", "limits"] f14 _ := ⟨F14, PySem.W.mg_of X G a14, b14⟩
  have F15 := fun_mk (st := s_law_part) l15 c15 k15
  have b15 := F15.binds (ps := ["pool", "room", "depth", "limits", "told"]) fun _ _ _ _ _ _ us hl => match us, hl with | [_, _, _, _, _], _ => rfl
  have A15 : At K mg "_law_part" s_law_part ["pool", "room", "depth", "limits", "told"] f15 _ := ⟨F15, PySem.W.mg_of X G a15, b15⟩
  have F16 := fun_mk (st := s_law_changed) l16 c16 k16
  have b16 := F16.binds (ps := ["part", "path", "other"]) fun _ _ _ _ _ _ us hl => match us, hl with | [_, _, _], _ => rfl
  have A16 : At K mg "_law_changed" s_law_changed ["part", "path", "other"] f16 _ := ⟨F16, PySem.W.mg_of X G a16, b16⟩
  have F17 := fun_mk (st := s_law_paths) l17 c17 k17
  have b17 := F17.binds (ps := ["part"]) fun _ _ _ _ _ _ us hl => match us, hl with | [_], _ => rfl
  have A17 : At K mg "_law_paths" s_law_paths ["part"] f17 _ := ⟨F17, PySem.W.mg_of X G a17, b17⟩
  have F18 := fun_mk (st := s_law) l18 c18 k18
  have T : Txt K mg aH := ⟨PySem.W.mg_none_of X G z_len, PySem.W.mg_none_of X G z_list, PySem.W.mg_none_of X G z_tuple, PySem.W.mg_none_of X G z_int, PySem.W.mg_none_of X G z_abs, PySem.W.mg_none_of X G z_sum, PySem.W.mg_none_of X G z_all, PySem.W.mg_none_of X G z_max, PySem.W.mg_none_of X G z_min, PySem.W.mg_none_of X G z_bool, PySem.W.mg_none_of X G z_range, PySem.W.mg_none_of X G z_enumerate, PySem.W.mg_none_of X G z_zip, PySem.W.mg_none_of X G z_isinstance, PySem.W.mg_of X G g_HOLDERS, fun H => .inr ⟨_, _, _, v_HOLDERS, rfl, rfl, (by show 5 ≤ sizeLine; decide), .cons ⟨_, rfl⟩ (.cons ⟨_, rfl⟩ (.cons ⟨_, rfl⟩ (.cons ⟨_, rfl⟩ (.cons ⟨_, rfl⟩ .nil))))⟩⟩
  have GN : Gens K mg _ _ _ _ _ _ _ _ _ _ _ _ _ _ _ _ := ⟨A8, A9, A10, A11, A12, A13, A14, A15⟩
  exact ⟨_, fun s v => .of_eq rfl, fun base _ _ => ok_law T F18 ⟨GN, A7, A17, A16, A1, A2, A3, A4, A5, A6⟩⟩
theorem walk {l : PySem.W.OpenLaw} {q : Program} {loose : List Str} {XP : (Str → Option Value) → Heap → Prop} {YP : World → Heap → Prop} {d : DefRec} {K : Params → PySem.W.Frag} (hn : l.most = some 63) (hdf : d.params.defaults = [])
    (hY : ∀ (w : World) (h : Heap), YP w h → (K w.params).In h)
    (F : ∀ (w : World) (mg : Str → Option Value) (fa : Addr) (h : Heap), (K w.params).In h → h.Ns mainGlobals mg → mg d.name = some (.ref fa) →
      ∃ fd : FuncData, (∀ (s : Shared) (u : Value), BindsTo s fd ⟨[u], []⟩ [("script", u)]) ∧ ∀ base : Heap, (K w.params).In base → base.Ns mainGlobals mg → FnOk l.prog w (K w.params) mg base CX0 31 fa fd ["script"] (spLaw (K w.params))) :
    PySem.W.WalkO q loose XP YP l.row.toRowW d [] (fun f vs => PySem.call f vs) :=
  L2.walk_of (n := 63) (k := 31) (x := "script") (CX := fun _ => CX0) (sp := fun w => spLaw (K w.params)) hn (by decide) hdf ⟨rfl, by decide, by decide⟩ hY F (fun _ _ a ns hl _ hS => ⟨a, ns, rfl, hS, hl, fun _ => rfl⟩) fun _ _ _ _ _ z => z
end Toy
open PySem PySem.W PyProof.Rows
set_option maxRecDepth 100000 in
set_option maxHeartbeats 0 in
theorem PySem.Challenge.cw_withinlimits_k03_sizes_and_places_of_par_holds : PySem.Challenge.rw_withinlimits_k03_sizes_and_places_of_par.Holds := by
  w_on; o_law; k_head; (case hw => w_witness2)
  k_fill
  refine Toy.walk (l := PySem.Challenge.rw_withinlimits_k03_sizes_and_places_of_par) rfl rfl (fun w h Y => PySem.W.kIn_of Y) ?F
  case F =>
    intro w mg fa h KX G hmg
    refine' Toy.all_mk KX G hmg ?a1 ?l1 ?c1 ?k1 ?a2 ?l2 ?c2 ?k2 ?a3 ?l3 ?c3 ?k3 ?a4 ?l4 ?c4 ?k4 ?a5 ?l5 ?c5 ?k5 ?a6 ?l6 ?c6 ?k6 ?a7 ?l7 ?c7 ?k7 ?a8 ?l8 ?c8 ?k8 ?a9 ?l9 ?c9 ?k9 ?a10 ?l10 ?c10 ?k10 ?a11 ?l11 ?c11 ?k11 ?a12 ?l12 ?c12 ?k12 ?a13 ?l13 ?c13 ?k13 ?a14 ?l14 ?c14 ?k14 ?a15 ?l15 ?c15 ?k15 ?a16 ?l16 ?c16 ?k16 ?a17 ?l17 ?c17 ?k17 ?a18 ?l18 ?c18 ?k18 ?z_len ?z_list ?z_tuple ?z_int ?z_abs ?z_sum ?z_all ?z_max ?z_min ?z_bool ?z_range ?z_enumerate ?z_zip ?z_isinstance ?g_HOLDERS ?v_HOLDERS
    (case a1 => k_is)
    (case l1 => k_is)
    (case c1 => k_is)
    (case k1 => k_is)
    (case a2 => k_is)
    (case l2 => k_is)
    (case c2 => k_is)
    (case k2 => k_is)
    (case a3 => k_is)
    (case l3 => k_is)
    (case c3 => k_is)
    (case k3 => k_is)
    (case a4 => k_is)
    (case l4 => k_is)
    (case c4 => k_is)
    (case k4 => k_is)
    (case a5 => k_is)
    (case l5 => k_is)
    (case c5 => k_is)
    (case k5 => k_is)
    (case a6 => k_is)
    (case l6 => k_is)
    (case c6 => k_is)
    (case k6 => k_is)
    (case a7 => k_is)
    (case l7 => k_is)
    (case c7 => k_is)
    (case k7 => k_is)
    (case a8 => k_is)
    (case l8 => k_is)
    (case c8 => k_is)
    (case k8 => k_is)
    (case a9 => k_is)
    (case l9 => k_is)
    (case c9 => k_is)
    (case k9 => k_is)
    (case a10 => k_is)
    (case l10 => k_is)
    (case c10 => k_is)
    (case k10 => k_is)
    (case a11 => k_is)
    (case l11 => k_is)
    (case c11 => k_is)
    (case k11 => k_is)
    (case a12 => k_is)
    (case l12 => k_is)
    (case c12 => k_is)
    (case k12 => k_is)
    (case a13 => k_is)
    (case l13 => k_is)
    (case c13 => k_is)
    (case k13 => k_is)
    (case a14 => k_is)
    (case l14 => k_is)
    (case c14 => k_is)
    (case k14 => k_is)
    (case a15 => k_is)
    (case l15 => k_is)
    (case c15 => k_is)
    (case k15 => k_is)
    (case a16 => k_is)
    (case l16 => k_is)
    (case c16 => k_is)
    (case k16 => k_is)
    (case a17 => k_is)
    (case l17 => k_is)
    (case c17 => k_is)
    (case k17 => k_is)
    (case a18 => k_is)
    (case l18 => k_is)
    (case c18 => k_is)
    (case k18 => k_is)
    (case z_len => k_is)
    (case z_list => k_is)
    (case z_tuple => k_is)
    (case z_int => k_is)
    (case z_abs => k_is)
    (case z_sum => k_is)
    (case z_all => k_is)
    (case z_max => k_is)
    (case z_min => k_is)
    (case z_bool => k_is)
    (case z_range => k_is)
    (case z_enumerate => k_is)
    (case z_zip => k_is)
    (case z_isinstance => k_is)
    (case g_HOLDERS => k_is)
    (case v_HOLDERS => k_is)

