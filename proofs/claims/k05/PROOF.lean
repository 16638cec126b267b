import PyProof.Rows.All
import Wide.All
import OpenK.AllK
import Wide.FinOn
import HandS.ForMost
import HandS.Walk
import HandS.Zip
import HandS.Star
import HandS.Wide
import HandS.IsInst
import HandS.TupAny
import HandS.Conv
import KE.GoesZip
import KE.GoesMore
import KE.GoesEnum
import HandS.Evl
import PyProof.InstNe
import HandS.OwnEq
import HandS.SlotsOwn
import HandS.Defaults
import HandS.MakeKw
import HandS.ExcInit
import HandS.WordsExc
import HandS.ExcField
import HandS.CallLocal
import HandS.More
import HandS.DictComp
import HandS.TryOnly
import HandS.Property
import HandS.TryMany
import HandS.ExcIs
import KE.KExcIs
import HandS.TupMul
import HandS.HeadHook3
import PySem.Challenge.RW_withinlimits_k05_parts_at_their_bounds
set_option Elab.async false
set_option linter.all false
set_option maxRecDepth 100000
set_option maxHeartbeats 2000000
/-! Data that stands still, and what is owned and changed: readings of pure expressions. -/
namespace DL
open PySem L2 StX

/-! ### heaps: B stands still and may grow; O is what may change -/
def Ex (H H' : Hp) : Prop := ∀ a o, H a = some o → H' a = some o
theorem Ex.refl (H : Hp) : Ex H H := fun _ _ h => h
theorem Ex.trans {H H1 H2 : Hp} (a : Ex H H1) (b : Ex H1 H2) : Ex H H2 := fun x o h => b x o (a x o h)
theorem Ex.new {H : Hp} {p : Addr} {o : HO} (h : H p = none) : Ex H (upd H p o) := fun a u e => by
  rw [upd_ne (ne_of_none e h)]
  exact e
structure W (B O H : Hp) : Prop where
  b : Ex B H
  o : Ex O H
  d : ∀ a, B a = none ∨ O a = none
theorem none_of_ex {B H : Hp} {p : Addr} (e : Ex B H) (h : H p = none) : B p = none := by
  cases h1 : B p with
  | none => rfl
  | some o =>
    rw [e p o h1] at h
    cases h
theorem W.fb {B O H : Hp} {p : Addr} (w : W B O H) (h : H p = none) : B p = none := none_of_ex w.b h
theorem W.fo {B O H : Hp} {p : Addr} (w : W B O H) (h : H p = none) : O p = none := none_of_ex w.o h
/-- a new thing that stands still -/
theorem W.newB {B O H : Hp} {p : Addr} {u : HO} (w : W B O H) (h : H p = none) : W (upd B p u) O (upd H p u) := by
  refine ⟨fun a o e => ?_, fun a o e => ?_, fun a => ?_⟩
  · by_cases hp : a = p
    · subst hp
      rw [upd_same] at e ⊢
      exact e
    · rw [upd_ne hp] at e ⊢
      exact w.b a o e
  · rw [upd_ne (ne_of_none e (w.fo h))]
    exact w.o a o e
  · by_cases hp : a = p
    · subst hp
      exact .inr (w.fo h)
    · rw [upd_ne hp]
      exact w.d a
/-- a new thing that is owned -/
theorem W.newO {B O H : Hp} {p : Addr} {u : HO} (w : W B O H) (h : H p = none) : W B (upd O p u) (upd H p u) := by
  refine ⟨fun a o e => ?_, fun a o e => ?_, fun a => ?_⟩
  · rw [upd_ne (ne_of_none e (w.fb h))]
    exact w.b a o e
  · by_cases hp : a = p
    · subst hp
      rw [upd_same] at e ⊢
      exact e
    · rw [upd_ne hp] at e ⊢
      exact w.o a o e
  · by_cases hp : a = p
    · subst hp
      exact .inl (w.fb h)
    · rw [upd_ne hp]
      exact w.d a
/-- what is owned is changed -/
theorem W.mut {B O H : Hp} {p : Addr} {u v : HO} (w : W B O H) (h : O p = some u) : W B (upd O p v) (upd H p v) := by
  have hb : B p = none := by
    rcases w.d p with q | q
    · exact q
    · rw [q] at h; cases h
  refine ⟨fun a o e => ?_, fun a o e => ?_, fun a => ?_⟩
  · rw [upd_ne (ne_of_none e hb)]
    exact w.b a o e
  · by_cases hp : a = p
    · subst hp
      rw [upd_same] at e ⊢
      exact e
    · rw [upd_ne hp] at e ⊢
      exact w.o a o e
  · by_cases hp : a = p
    · subst hp
      exact .inl hb
    · rw [upd_ne hp]
      exact w.d a
/-- what was owned is given away, to stand still -/
theorem W.give {B O H : Hp} {p : Addr} {u : HO} (w : W B (upd O p u) H) (h : O p = none) : W (upd B p u) O H := by
  have hp' : H p = some u := w.o p u upd_same
  refine ⟨fun a o e => ?_, fun a o e => ?_, fun a => ?_⟩
  · by_cases hp : a = p
    · subst hp
      rw [upd_same] at e
      cases e
      exact hp'
    · rw [upd_ne hp] at e
      exact w.b a o e
  · have hp : a ≠ p := ne_of_none e h
    exact w.o a o (by rw [upd_ne hp]; exact e)
  · by_cases hp : a = p
    · subst hp
      exact .inr h
    · rw [upd_ne hp]
      have := w.d a
      rw [upd_ne hp] at this
      exact this
theorem W.bnone {B O H : Hp} {p : Addr} {u : HO} (w : W B O H) (h : O p = some u) : B p = none := by
  rcases w.d p with q | q
  · exact q
  · rw [q] at h; cases h

/-! ### data: as Dp, each list tracked -/
mutual
inductive Dt (K : PySem.W.Frag) (B : Hp) : V → PyData → Prop
  | non : Dt K B .non .none
  | bl (b : Bool) : Dt K B (.bl b) (.bool b)
  | int (i : Int) : Dt K B (.int i) (.int i)
  | str (x : Str) : Dt K B (.str x) (.str x)
  | lst {a : Addr} {xs : List V} {ds : List PyData} : B a = some (.lst xs) → DtAll K B xs ds → Dt K B (.ref a) (.list ds)
  | tup {a : Addr} {xs : List V} {ds : List PyData} : SqT K B a xs → DtAll K B xs ds → Dt K B (.ref a) (.tuple ds)
inductive DtAll (K : PySem.W.Frag) (B : Hp) : List V → List PyData → Prop
  | nil : DtAll K B [] []
  | cons {v : V} {vs : List V} {d : PyData} {ds : List PyData} : Dt K B v d → DtAll K B vs ds → DtAll K B (v :: vs) (d :: ds)
end
mutual
theorem dt_dp {K : PySem.W.Frag} {B : Hp} : ∀ (d : PyData) (v : V), Dt K B v d → Dp K B v d
  | .none, _, h => by cases h; exact .non
  | .bool b, _, h => by cases h; exact .bl b
  | .int i, _, h => by cases h; exact .int i
  | .str x, _, h => by cases h; exact .str x
  | .list ds, _, h => by
    cases h with
    | lst hs ha => exact .lst (.inl (.inl hs)) (dt_dps ds _ ha)
  | .tuple ds, _, h => by
    cases h with
    | tup hs ha => exact .tup hs (dt_dps ds _ ha)
  | .dict _, _, h => by cases h
theorem dt_dps {K : PySem.W.Frag} {B : Hp} : ∀ (ds : List PyData) (vs : List V), DtAll K B vs ds → DpAll K B vs ds
  | [], _, h => by cases h; exact .nil
  | d :: ds, _, h => by
    cases h with
    | cons h1 h2 => exact .cons (dt_dp d _ h1) (dt_dps ds _ h2)
end
theorem rd_ex {B B' : Hp} {a : Addr} {u : HO} (e : Ex B B') (h : Rd B a u) : Rd B' a u := by
  rcases h with h | ⟨o, h⟩
  · exact Or.inl (e a _ h)
  · exact Or.inr ⟨o, e a _ h⟩
theorem sl_ex {K : PySem.W.Frag} {B B' : Hp} {a : Addr} {xs : List V} (e : Ex B B') (h : SqL K B a xs) : SqL K B' a xs := by
  rcases h with h | h
  · exact Or.inl (rd_ex e h)
  · exact Or.inr h
theorem st_ex {K : PySem.W.Frag} {B B' : Hp} {a : Addr} {xs : List V} (e : Ex B B') (h : SqT K B a xs) : SqT K B' a xs := by
  rcases h with h | h
  · exact Or.inl (rd_ex e h)
  · exact Or.inr h
mutual
theorem dp_ex {K : PySem.W.Frag} {B B' : Hp} (e : Ex B B') : ∀ (d : PyData) (v : V), Dt K B v d → Dt K B' v d
  | .none, _, h => by cases h; exact .non
  | .bool b, _, h => by cases h; exact .bl b
  | .int i, _, h => by cases h; exact .int i
  | .str x, _, h => by cases h; exact .str x
  | .list ds, _, h => by
    cases h with
    | lst hs ha => exact .lst (e _ _ hs) (dps_ex e ds _ ha)
  | .tuple ds, _, h => by
    cases h with
    | tup hs ha => exact .tup (st_ex e hs) (dps_ex e ds _ ha)
  | .dict _, _, h => by cases h
theorem dps_ex {K : PySem.W.Frag} {B B' : Hp} (e : Ex B B') : ∀ (ds : List PyData) (vs : List V), DtAll K B vs ds → DtAll K B' vs ds
  | [], _, h => by cases h; exact .nil
  | d :: ds, _, h => by
    cases h with
    | cons h1 h2 => exact .cons (dp_ex e d _ h1) (dps_ex e ds _ h2)
end
section
variable {K : PySem.W.Frag} {B : Hp}
theorem dps_len : ∀ {ds : List PyData} {vs : List V}, DtAll K B vs ds → vs.length = ds.length
  | [], _, h => by cases h; rfl
  | _ :: ds, _, h => by
    cases h with
    | cons h1 h2 => simp [dps_len h2]
theorem dps_get : ∀ {ds : List PyData} {vs : List V} {i : Nat} {d : PyData}, DtAll K B vs ds → ds[i]? = some d → ∃ v, vs[i]? = some v ∧ Dt K B v d
  | [], _, _, _, _, h => by simp at h
  | x :: ds, _, 0, d, h, e => by
    cases h with
    | cons h1 h2 =>
      simp at e
      subst e
      exact ⟨_, rfl, h1⟩
  | x :: ds, _, i + 1, d, h, e => by
    cases h with
    | cons h1 h2 =>
      simp at e
      obtain ⟨v, hv, dv⟩ := dps_get h2 e
      exact ⟨v, by simpa using hv, dv⟩
theorem dps_getV : ∀ {ds : List PyData} {vs : List V} {i : Nat} {v : V}, DtAll K B vs ds → vs[i]? = some v → ∃ d, ds[i]? = some d ∧ Dt K B v d
  | [], _, _, _, h, e => by cases h; simp at e
  | x :: ds, _, 0, v, h, e => by
    cases h with
    | cons h1 h2 =>
      simp at e
      subst e
      exact ⟨_, rfl, h1⟩
  | x :: ds, _, i + 1, v, h, e => by
    cases h with
    | cons h1 h2 =>
      simp at e
      obtain ⟨d, hd, dv⟩ := dps_getV h2 e
      exact ⟨d, by simpa using hd, dv⟩
theorem dps_app : ∀ {ds es : List PyData} {vs ws : List V}, DtAll K B vs ds → DtAll K B ws es → DtAll K B (vs ++ ws) (ds ++ es)
  | [], _, _, _, h, g => by cases h; exact g
  | _ :: ds, _, _, _, h, g => by
    cases h with
    | cons h1 h2 => exact .cons h1 (dps_app h2 g)
theorem dps_one {v : V} {d : PyData} (h : Dt K B v d) : DtAll K B [v] [d] := .cons h .nil
theorem dps_take : ∀ {ds : List PyData} {vs : List V} (n : Nat), DtAll K B vs ds → DtAll K B (vs.take n) (ds.take n)
  | _, _, 0, _ => by simp; exact .nil
  | [], _, n + 1, h => by cases h; simp; exact .nil
  | _ :: ds, _, n + 1, h => by
    cases h with
    | cons h1 h2 => simp; exact .cons h1 (dps_take n h2)
theorem dps_drop : ∀ {ds : List PyData} {vs : List V} (n : Nat), DtAll K B vs ds → DtAll K B (vs.drop n) (ds.drop n)
  | _, _, 0, h => by simpa using h
  | [], _, n + 1, h => by cases h; simp; exact .nil
  | _ :: ds, _, n + 1, h => by
    cases h with
    | cons h1 h2 => simp; exact dps_drop n h2
theorem dps_set : ∀ {ds : List PyData} {vs : List V} {v : V} {d : PyData} (j : Nat), DtAll K B vs ds → Dt K B v d → DtAll K B (vs.set j v) (ds.set j d)
  | [], _, _, _, _, h, _ => by cases h; exact .nil
  | _ :: ds, _, _, _, 0, h, g => by
    cases h with
    | cons h1 h2 => exact .cons g h2
  | _ :: ds, _, _, _, j + 1, h, g => by
    cases h with
    | cons h1 h2 => exact .cons h1 (dps_set j h2 g)
theorem dp_int {v : V} {i : Int} (h : Dt K B v (.int i)) : v = .int i := by cases h; rfl
theorem dp_bool {v : V} {b : Bool} (h : Dt K B v (.bool b)) : v = .bl b := by cases h; rfl
theorem dp_str {v : V} {x : Str} (h : Dt K B v (.str x)) : v = .str x := by cases h; rfl
theorem dp_none {v : V} (h : Dt K B v .none) : v = .non := by cases h; rfl
theorem dp_tup {v : V} {ds : List PyData} (h : Dt K B v (.tuple ds)) : ∃ a xs, v = .ref a ∧ SqT K B a xs ∧ DtAll K B xs ds := by
  cases h with
  | tup h1 h2 => exact ⟨_, _, rfl, h1, h2⟩
theorem dp_lst {v : V} {ds : List PyData} (h : Dt K B v (.list ds)) : ∃ a xs, v = .ref a ∧ B a = some (.lst xs) ∧ DtAll K B xs ds := by
  cases h with
  | lst h1 h2 => exact ⟨_, _, rfl, h1, h2⟩
theorem dps_ints : ∀ {ns : List Int} {vs : List V}, DtAll K B vs (ns.map .int) → vs = ns.map V.int
  | [], _, h => by cases h; rfl
  | n :: ns, _, h => by
    cases h with
    | cons h1 h2 =>
      rw [dp_int h1, dps_ints h2]
      rfl
theorem dps_bools : ∀ {ns : List Bool} {vs : List V}, DtAll K B vs (ns.map .bool) → vs = ns.map V.bl
  | [], _, h => by cases h; rfl
  | n :: ns, _, h => by
    cases h with
    | cons h1 h2 =>
      rw [dp_bool h1, dps_bools h2]
      rfl
theorem ints_dps : ∀ (ns : List Int), DtAll K B (ns.map V.int) (ns.map .int)
  | [] => .nil
  | n :: ns => .cons (.int n) (ints_dps ns)
end
/-- the flat data -/
def fv : PyData → V
  | .none => .non
  | .bool b => .bl b
  | .int i => .int i
  | .str x => .str x
  | _ => .ref 0
def flatD : PyData → Bool
  | .none => true
  | .bool _ => true
  | .int _ => true
  | .str _ => true
  | _ => false
theorem fv_of {K : PySem.W.Frag} {B : Hp} {v : V} {d : PyData} (h : Dt K B v d) (f : flatD d = true) : v = fv d ∧ flatV v = true := by
  cases h with
  | non => exact ⟨rfl, rfl⟩
  | bl => exact ⟨rfl, rfl⟩
  | int => exact ⟨rfl, rfl⟩
  | str => exact ⟨rfl, rfl⟩
  | lst => cases f
  | tup => cases f
theorem fvs_of {K : PySem.W.Frag} {B : Hp} : ∀ {ds : List PyData} {vs : List V}, DtAll K B vs ds → ds.all flatD = true → vs = ds.map fv ∧ vs.all flatV = true
  | [], _, h, _ => by cases h; exact ⟨rfl, rfl⟩
  | d :: ds, _, h, f => by
    rw [List.all_cons, Bool.and_eq_true] at f
    cases h with
    | cons h1 h2 =>
      obtain ⟨e1, f1⟩ := fv_of h1 f.1
      obtain ⟨e2, f2⟩ := fvs_of h2 f.2
      refine ⟨by rw [e1, e2]; rfl, ?_⟩
      rw [List.all_cons, f1, f2]
      rfl

/-! ### slots -/
inductive SD where
  | un
  | dat (d : PyData)
  | val (v : V)
def SlotOk (K : PySem.W.Frag) (B : Hp) : Option V → SD → Prop
  | _, .un => True
  | ov, .dat d => ∃ v, ov = some v ∧ Dt K B v d
  | ov, .val v => ov = some v
def Slots (K : PySem.W.Frag) (B : Hp) : L2.St → List SD → Prop
  | [], [] => True
  | s :: σ, g :: G => SlotOk K B s g ∧ Slots K B σ G
  | _, _ => False
section
variable {K : PySem.W.Frag} {B B' : Hp}
theorem SlotOk.ex (e : Ex B B') {s : Option V} {g : SD} (h : SlotOk K B s g) : SlotOk K B' s g := by
  cases g with
  | un => exact trivial
  | dat d =>
    obtain ⟨v, hv, hd⟩ := h
    exact ⟨v, hv, dp_ex e d v hd⟩
  | val v => exact h
theorem Slots.ex (e : Ex B B') : ∀ {σ : L2.St} {G : List SD}, Slots K B σ G → Slots K B' σ G
  | [], [], _ => trivial
  | _ :: _, _ :: _, h => ⟨h.1.ex e, Slots.ex e h.2⟩
  | [], _ :: _, h => h.elim
  | _ :: _, [], h => h.elim
theorem Slots.get : ∀ {σ : L2.St} {G : List SD} {i : Nat} {g : SD}, Slots K B σ G → G[i]? = some g → ∃ s, σ[i]? = some s ∧ SlotOk K B s g
  | [], [], _, _, _, e => by simp at e
  | s :: _, g :: _, 0, _, h, e => by
    simp at e
    subst e
    exact ⟨s, rfl, h.1⟩
  | _ :: _, _ :: _, i + 1, _, h, e => by
    simp at e
    obtain ⟨s, hs, ho⟩ := Slots.get h.2 e
    exact ⟨s, by simpa using hs, ho⟩
  | [], _ :: _, _, _, h, _ => h.elim
  | _ :: _, [], _, _, h, _ => h.elim
theorem Slots.set : ∀ {σ : L2.St} {G : List SD} (i : Nat) {s : Option V} {g : SD}, Slots K B σ G → SlotOk K B s g → Slots K B (σ.set i s) (G.set i g)
  | [], [], _, _, _, _, _ => trivial
  | _ :: _, _ :: _, 0, _, _, h, q => ⟨q, h.2⟩
  | _ :: _, _ :: _, i + 1, _, _, h, q => ⟨h.1, Slots.set i h.2 q⟩
  | [], _ :: _, _, _, _, h, _ => h.elim
  | _ :: _, [], _, _, _, h, _ => h.elim
def wipeG (G : List SD) : List Nat → List SD
  | [] => G
  | v :: vs => (wipeG G vs).set v .un
theorem Slots.wipe {σ : L2.St} {G : List SD} (h : Slots K B σ G) : ∀ vs : List Nat, Slots K B (L2.wipe σ vs) (wipeG G vs)
  | [] => h
  | v :: vs => Slots.set v (Slots.wipe h vs) trivial
end

/-- where one stands -/
structure Sta (K : PySem.W.Frag) (B O : Hp) (G : List SD) (σ : L2.St) (H : Hp) : Prop where
  w : W B O H
  s : Slots K B σ G
theorem Sta.ex {K : PySem.W.Frag} {B B' O : Hp} {G : List SD} {σ : L2.St} {H H' : Hp} (s : Sta K B O G σ H) (e : Ex B B') (w : W B' O H') : Sta K B' O G σ H' := ⟨w, s.s.ex e⟩
theorem Sta.set {K : PySem.W.Frag} {B O : Hp} {G : List SD} {σ : L2.St} {H : Hp} (s : Sta K B O G σ H) (i : Nat) {v : V} {d : PyData} (h : Dt K B v d) : Sta K B O (G.set i (.dat d)) (σ.set i (some v)) H := ⟨s.w, s.s.set i ⟨v, rfl, h⟩⟩
theorem Sta.setV {K : PySem.W.Frag} {B O : Hp} {G : List SD} {σ : L2.St} {H : Hp} (s : Sta K B O G σ H) (i : Nat) {v : V} : Sta K B O (G.set i (.val v)) (σ.set i (some v)) H := ⟨s.w, s.s.set i rfl⟩

/-! ### what evaluates to what -/
section
variable (K : PySem.W.Frag) (B O : Hp) (G : List SD)
def EvD (te : TE) (d : PyData) : Prop := ∀ B1 O1 σ H, Ex B B1 → Ex O O1 → Sta K B1 O1 G σ H → ∀ Q : VK, (∀ v B' H', Ex B1 B' → W B' O1 H' → Dt K B' v d → Q v H') → te σ H Q
def EvV (te : TE) (v : V) : Prop := ∀ B1 O1 σ H, Ex B B1 → Ex O O1 → Sta K B1 O1 G σ H → ∀ Q : VK, (∀ B' H', Ex B1 B' → W B' O1 H' → Q v H') → te σ H Q
def EvT (tt : TT) (b : Bool) : Prop := ∀ B1 O1 σ H, Ex B B1 → Ex O O1 → Sta K B1 O1 G σ H → ∀ Q : Bool → Hp → Prop, (∀ B' H', Ex B1 B' → W B' O1 H' → Q b H') → tt σ H Q
def EvA (ta : TA) (ds : List PyData) : Prop := ∀ B1 O1 σ H, Ex B B1 → Ex O O1 → Sta K B1 O1 G σ H → ∀ Q : List V → Hp → Prop, (∀ vs B' H', Ex B1 B' → W B' O1 H' → DtAll K B' vs ds → Q vs H') → ta σ H Q
def EvO (to : TO) (o : Option Int) : Prop := ∀ B1 O1 σ H, Ex B B1 → Ex O O1 → Sta K B1 O1 G σ H → ∀ Q : Option Int → Hp → Prop, (∀ B' H', Ex B1 B' → W B' O1 H' → Q o H') → to σ H Q
/-- an operator on data -/
def RD (K : PySem.W.Frag) (r : R2) (x y z : PyData) : Prop := ∀ B1 O1 H v w, W B1 O1 H → Dt K B1 v x → Dt K B1 w y → ∀ Q : VK, (∀ u B' H', Ex B1 B' → W B' O1 H' → Dt K B' u z → Q u H') → r v w H Q
/-- a built-in on data -/
def RC (K : PySem.W.Frag) (r : List V → Hp → VK → Prop) (xs : List PyData) (z : PyData) : Prop := ∀ B1 O1 H vs, W B1 O1 H → DtAll K B1 vs xs → ∀ Q : VK, (∀ u B' H', Ex B1 B' → W B' O1 H' → Dt K B' u z → Q u H') → r vs H Q
end
section
variable {K : PySem.W.Frag} {B B' O : Hp} {G : List SD} {ta tb te tc : TE} {t u : TT} {r : R2} {d x y z : PyData}
theorem EvD.ex (h : EvD K B O G te d) (e : Ex B B') : EvD K B' O G te d := fun B1 O1 σ H e1 o s Q q => h B1 O1 σ H (e.trans e1) o s Q q
theorem EvT.ex {b : Bool} (h : EvT K B O G t b) (e : Ex B B') : EvT K B' O G t b := fun B1 O1 σ H e1 o s Q q => h B1 O1 σ H (e.trans e1) o s Q q
theorem ev_is (h : EvD K B O G te d) (e : d = x) : EvD K B O G te x := by
  rw [← e]
  exact h
theorem et_is {a b : Bool} (h : EvT K B O G t a) (e : a = b) : EvT K B O G t b := by
  rw [← e]
  exact h
theorem ev_var {i : Nat} (h : G[i]? = some (.dat d)) : EvD K B O G (tVar i) d := fun B1 O1 σ H _ o s Q q => by
  obtain ⟨sv, h1, v, rfl, h2⟩ := s.s.get h
  exact ⟨v, h1, q v B1 H (Ex.refl _) s.w h2⟩
theorem evV_var {i : Nat} {v : V} (h : G[i]? = some (.val v)) : EvV K B O G (tVar i) v := fun B1 O1 σ H _ o s Q q => by
  obtain ⟨sv, h1, h2⟩ := s.s.get h
  have h3 : sv = some v := h2
  subst h3
  exact ⟨v, h1, q B1 H (Ex.refl _) s.w⟩
theorem ev_c {v : V} (h : ∀ H : Hp, Dt K H v d) : EvD K B O G (tC v) d := fun B1 _ _ H _ _ s Q q => q v B1 H (Ex.refl _) s.w (h B1)
theorem ev_int {i : Int} : EvD K B O G (tC (.int i)) (.int i) := ev_c fun _ => .int i
theorem ev_bl {b : Bool} : EvD K B O G (tC (.bl b)) (.bool b) := ev_c fun _ => .bl b
theorem ev_str {x : Str} : EvD K B O G (tC (.str x)) (.str x) := ev_c fun _ => .str x
theorem ev_non : EvD K B O G (tC .non) .none := ev_c fun _ => .non
theorem ev_op (ha : EvD K B O G ta x) (hb : EvD K B O G tb y) (hr : RD K r x y z) : EvD K B O G (tOp r ta tb) z := fun B1 O1 σ H e o s Q q =>
  ha B1 O1 σ H e o s _ fun v B2 H2 e2 w2 d2 => hb B2 O1 σ H2 (e.trans e2) o (s.ex e2 w2) _ fun v' B3 H3 e3 w3 d3 =>
    hr B3 O1 H3 v v' w3 (dp_ex e3 _ _ d2) d3 Q fun u B4 H4 e4 w4 d4 => q u B4 H4 ((e2.trans e3).trans e4) w4 d4
theorem ea_nil : EvA K B O G tNil [] := fun B1 _ _ H _ _ s Q q => q [] B1 H (Ex.refl _) s.w .nil
theorem ea_cons {tr : TA} {ds : List PyData} (h : EvD K B O G ta d) (hr : EvA K B O G tr ds) : EvA K B O G (tCons ta tr) (d :: ds) := fun B1 O1 σ H e o s Q q =>
  h B1 O1 σ H e o s _ fun v B2 H2 e2 w2 d2 => hr B2 O1 σ H2 (e.trans e2) o (s.ex e2 w2) _ fun vs B3 H3 e3 w3 d3 => q (v :: vs) B3 H3 (e2.trans e3) w3 (.cons (dp_ex e3 _ _ d2) d3)
theorem sz_of {n : Nat} (h : n ≤ 100000) : n ≤ sizeLine := Nat.le_trans h (by decide)
theorem ev_tup {t : TA} {ds : List PyData} (h : EvA K B O G t ds) (hl : ds.length ≤ 100000) : EvD K B O G (tTup t) (.tuple ds) := fun B1 O1 σ H e o s Q q =>
  h B1 O1 σ H e o s _ fun vs B2 H2 e2 w2 d2 => ⟨by rw [dps_len d2]; exact sz_of hl, fun p hp => q _ (upd B2 p (.tup vs)) _ (e2.trans (Ex.new (w2.fb hp))) (w2.newB hp) (.tup (.inl (.inl upd_same)) (dps_ex (Ex.new (w2.fb hp)) _ _ d2))⟩
theorem ev_lst {t : TA} {ds : List PyData} (h : EvA K B O G t ds) (hl : ds.length ≤ 100000) : EvD K B O G (tLst t) (.list ds) := fun B1 O1 σ H e o s Q q =>
  h B1 O1 σ H e o s _ fun vs B2 H2 e2 w2 d2 => ⟨by rw [dps_len d2]; exact sz_of hl, fun p hp => q _ (upd B2 p (.lst vs)) _ (e2.trans (Ex.new (w2.fb hp))) (w2.newB hp) (.lst upd_same (dps_ex (Ex.new (w2.fb hp)) _ _ d2))⟩
/-- *e within a display: e a tuple -/
theorem ea_star {t : TA} {es ds : List PyData} (h : EvD K B O G te (.tuple es)) (hr : EvA K B O G t ds) : EvA K B O G (tStar K te t) (es ++ ds) := fun B1 O1 σ H e o s Q q =>
  h B1 O1 σ H e o s _ fun v B2 H2 e2 w2 d2 => by
    obtain ⟨a, xs, rfl, h1, h2⟩ := dp_tup d2
    refine ⟨a, xs, rfl, .inl (st_ex w2.b h1), ?_⟩
    exact hr B2 O1 σ H2 (e.trans e2) o (s.ex e2 w2) _ fun vs B3 H3 e3 w3 d3 => q _ B3 H3 (e2.trans e3) w3 (dps_app (dps_ex e3 _ _ h2) d3)
/-! tests -/
theorem et_test {b : Bool} (h : EvD K B O G te (.bool b)) : EvT K B O G (tTest te) b := fun B1 O1 σ H e o s Q q => h B1 O1 σ H e o s _ fun v B2 H2 e2 w2 d2 => ⟨b, dp_bool d2, q B2 H2 e2 w2⟩
theorem et_B {b : Bool} (h : EvD K B O G te (.bool b)) : EvT K B O G (tB te) b := fun B1 O1 σ H e o s Q q => h B1 O1 σ H e o s _ fun v B2 H2 e2 w2 d2 => ⟨b, dp_bool d2, q B2 H2 e2 w2⟩
theorem et_yes : EvT K B O G tYes true := fun B1 O1 σ H _ o s Q q => q B1 H (Ex.refl _) s.w
theorem et_and {a b : Bool} (h1 : EvT K B O G t a) (h2 : a = true → EvT K B O G u b) : EvT K B O G (tAnd t u) (a && b) := fun B1 O1 σ H e o s Q q => h1 B1 O1 σ H e o s _ fun B2 H2 e2 w2 => by
  cases a with
  | true =>
    show u σ H2 Q
    exact h2 rfl B2 O1 σ H2 (e.trans e2) o (s.ex e2 w2) Q fun B3 H3 e3 w3 => q B3 H3 (e2.trans e3) w3
  | false =>
    show Q false H2
    exact q B2 H2 e2 w2
theorem et_or {a b : Bool} (h1 : EvT K B O G t a) (h2 : a = false → EvT K B O G u b) : EvT K B O G (tOr t u) (a || b) := fun B1 O1 σ H e o s Q q => h1 B1 O1 σ H e o s _ fun B2 H2 e2 w2 => by
  cases a with
  | true =>
    show Q true H2
    exact q B2 H2 e2 w2
  | false =>
    show u σ H2 Q
    exact h2 rfl B2 O1 σ H2 (e.trans e2) o (s.ex e2 w2) Q fun B3 H3 e3 w3 => q B3 H3 (e2.trans e3) w3
theorem et_not {a : Bool} (h1 : EvT K B O G t a) : EvT K B O G (tNot t) (!a) := fun B1 O1 σ H e o s Q q => h1 B1 O1 σ H e o s _ fun B2 H2 e2 w2 => q B2 H2 e2 w2
theorem ev_andV {a b : Bool} (h1 : EvD K B O G ta (.bool a)) (h2 : a = true → EvD K B O G tb (.bool b)) : EvD K B O G (tAndV ta tb) (.bool (a && b)) := fun B1 O1 σ H e o s Q q => h1 B1 O1 σ H e o s _ fun v B2 H2 e2 w2 d2 => ⟨a, dp_bool d2, by
  cases a with
  | true =>
    show tb σ H2 Q
    exact h2 rfl B2 O1 σ H2 (e.trans e2) o (s.ex e2 w2) Q fun v B3 H3 e3 w3 d3 => q v B3 H3 (e2.trans e3) w3 d3
  | false =>
    show Q (.bl false) H2
    exact q _ B2 H2 e2 w2 (.bl false)⟩
theorem ev_orV {a b : Bool} (h1 : EvD K B O G ta (.bool a)) (h2 : a = false → EvD K B O G tb (.bool b)) : EvD K B O G (tOrV ta tb) (.bool (a || b)) := fun B1 O1 σ H e o s Q q => h1 B1 O1 σ H e o s _ fun v B2 H2 e2 w2 d2 => ⟨a, dp_bool d2, by
  cases a with
  | true =>
    show Q (.bl true) H2
    exact q _ B2 H2 e2 w2 (.bl true)
  | false =>
    show tb σ H2 Q
    exact h2 rfl B2 O1 σ H2 (e.trans e2) o (s.ex e2 w2) Q fun v B3 H3 e3 w3 d3 => q v B3 H3 (e2.trans e3) w3 d3⟩
theorem ev_notV {a : Bool} (h1 : EvD K B O G ta (.bool a)) : EvD K B O G (tNotV ta) (.bool (!a)) := fun B1 O1 σ H e o s Q q => h1 B1 O1 σ H e o s _ fun v B2 H2 e2 w2 d2 => ⟨a, dp_bool d2, q _ B2 H2 e2 w2 (.bl _)⟩
theorem ev_if {b : Bool} (h : EvT K B O G t b) (h1 : b = true → EvD K B O G ta d) (h2 : b = false → EvD K B O G tb d) : EvD K B O G (tIf t ta tb) d := fun B1 O1 σ H e o s Q q => h B1 O1 σ H e o s _ fun B2 H2 e2 w2 => by
  cases b with
  | true =>
    show ta σ H2 Q
    exact h1 rfl B2 O1 σ H2 (e.trans e2) o (s.ex e2 w2) Q fun v B3 H3 e3 w3 d3 => q v B3 H3 (e2.trans e3) w3 d3
  | false =>
    show tb σ H2 Q
    exact h2 rfl B2 O1 σ H2 (e.trans e2) o (s.ex e2 w2) Q fun v B3 H3 e3 w3 d3 => q v B3 H3 (e2.trans e3) w3 d3
theorem ev_isN {b : Bool} (h : EvD K B O G ta d) (e : (match d with | .none => true | _ => false) = b) : EvD K B O G (tOp (fun x y H Q => y = .non ∧ Q (.bl (decide (x = .non))) H) ta (tC .non)) (.bool b) := fun B1 O1 σ H e1 o s Q q =>
  h B1 O1 σ H e1 o s _ fun v B2 H2 e2 w2 d2 => ⟨rfl, by
    have : decide (v = V.non) = b := by
      rw [← e]
      cases d2 <;> simp
    rw [this]
    exact q _ B2 H2 e2 w2 (.bl b)⟩
end
end DL

set_option Elab.async false
set_option linter.all false
set_option maxRecDepth 100000
set_option maxHeartbeats 2000000
namespace DL
open PySem L2 StX
/-! ### operators -/
section
variable {K : PySem.W.Frag} {B O : Hp} {i j : Int} {d e : PyData} {ds es : List PyData}
theorem rd_I0 {f : Int → Int → Int} : RD K (rI0 fun i j => .int (f i j)) (.int i) (.int j) (.int (f i j)) := fun B1 O1 H v w hw hv hx Q q => by
  rw [dp_int hv, dp_int hx]
  exact ⟨i, j, rfl, rfl, q _ B1 H (Ex.refl _) hw (.int _)⟩
theorem rd_B0 {f : Int → Int → Bool} : RD K (rI0 fun i j => .bl (f i j)) (.int i) (.int j) (.bool (f i j)) := fun B1 O1 H v w hw hv hx Q q => by
  rw [dp_int hv, dp_int hx]
  exact ⟨i, j, rfl, rfl, q _ B1 H (Ex.refl _) hw (.bl _)⟩
theorem rd_I {C : Int → Int → Prop} {f : Int → Int → Int} (hc : C i j) : RD K (rI C fun i j => .int (f i j)) (.int i) (.int j) (.int (f i j)) := fun B1 O1 H v w hw hv hx Q q => by
  rw [dp_int hv, dp_int hx]
  exact ⟨i, j, rfl, rfl, hc, q _ B1 H (Ex.refl _) hw (.int _)⟩
theorem atI_get {ds : List PyData} {vs : List V} {i : Int} {d : PyData} {B : Hp} (h : DtAll K B vs ds) (e : atI ds i = some d) : ∃ v, atI vs i = some v ∧ Dt K B v d := by
  unfold atI at e ⊢
  rw [dps_len h]
  cases hj : ixN ds.length i with
  | none => rw [hj] at e; cases e
  | some j =>
    rw [hj] at e
    exact dps_get h e
theorem rd_ixT (h : atI ds i = some d) : RD K (rIxT K) (.tuple ds) (.int i) d := fun B1 O1 H v w hw hv hx Q q => by
  obtain ⟨a, xs, rfl, h1, h2⟩ := dp_tup hv
  obtain ⟨v', h3, h4⟩ := atI_get h2 h
  rw [dp_int hx]
  exact ⟨a, xs, i, v', rfl, rfl, st_ex hw.b h1, h3, q _ B1 H (Ex.refl _) hw h4⟩
theorem rd_ixL (h : atI ds i = some d) : RD K (rIxL K) (.list ds) (.int i) d := fun B1 O1 H v w hw hv hx Q q => by
  obtain ⟨a, xs, rfl, h1, h2⟩ := dp_lst hv
  obtain ⟨v', h3, h4⟩ := atI_get h2 h
  rw [dp_int hx]
  exact ⟨a, xs, i, v', rfl, rfl, .inl (.inl (hw.b _ _ h1)), h3, q _ B1 H (Ex.refl _) hw h4⟩
theorem rd_eq {b : Bool} (hd : SeqAt.shaped d = true) (he : SeqAt.shaped e = true) (h : PyData.eqv d e = b) : RD K (rEqD K) d e (.bool b) := fun B1 O1 H v w hw hv hx Q q =>
  ⟨d, e, dt_dp _ _ (dp_ex hw.b _ _ hv), dt_dp _ _ (dp_ex hw.b _ _ hx), hd, he, by rw [h]; exact q _ B1 H (Ex.refl _) hw (.bl _)⟩
theorem rd_ne {b : Bool} (hd : SeqAt.shaped d = true) (he : SeqAt.shaped e = true) (h : (!PyData.eqv d e) = b) : RD K (rNeD K) d e (.bool b) := fun B1 O1 H v w hw hv hx Q q =>
  ⟨d, e, dt_dp _ _ (dp_ex hw.b _ _ hv), dt_dp _ _ (dp_ex hw.b _ _ hx), hd, he, by rw [h]; exact q _ B1 H (Ex.refl _) hw (.bl _)⟩
theorem rd_inT {neg : Bool} (hd : flatD d = true) (hs : es.all flatD = true) {b : Bool} (h : (if neg then !inV (fv d) (es.map fv) else inV (fv d) (es.map fv)) = b) : RD K (rIn K neg) d (.tuple es) (.bool b) := fun B1 O1 H v w hw hv hx Q q => by
  obtain ⟨a, xs, rfl, h1, h2⟩ := dp_tup hx
  obtain ⟨e1, f1⟩ := fv_of hv hd
  obtain ⟨e2, f2⟩ := fvs_of h2 hs
  refine ⟨a, xs, rfl, .inr (st_ex hw.b h1), f1, f2, ?_⟩
  rw [e1, e2, h]
  exact q _ B1 H (Ex.refl _) hw (.bl _)
theorem rd_inL {neg : Bool} (hd : flatD d = true) (hs : es.all flatD = true) {b : Bool} (h : (if neg then !inV (fv d) (es.map fv) else inV (fv d) (es.map fv)) = b) : RD K (rIn K neg) d (.list es) (.bool b) := fun B1 O1 H v w hw hv hx Q q => by
  obtain ⟨a, xs, rfl, h1, h2⟩ := dp_lst hx
  obtain ⟨e1, f1⟩ := fv_of hv hd
  obtain ⟨e2, f2⟩ := fvs_of h2 hs
  refine ⟨a, xs, rfl, .inl (.inl (.inl (hw.b _ _ h1))), f1, f2, ?_⟩
  rw [e1, e2, h]
  exact q _ B1 H (Ex.refl _) hw (.bl _)
theorem dt_tup {B1 B' : Hp} {a : Addr} {xs : List V} (e : Ex B1 B') (h1 : SqT K B1 a xs) (h2 : DtAll K B1 xs ds) : Dt K B' (.ref a) (.tuple ds) := .tup (st_ex e h1) (dps_ex e _ _ h2)
theorem rd_catT (hl : ds.length + es.length ≤ 100000) : RD K (rCatA K) (.tuple ds) (.tuple es) (.tuple (ds ++ es)) := fun B1 O1 H v w hw hv hx Q q => by
  obtain ⟨a, xs, rfl, h1, h2⟩ := dp_tup hv
  obtain ⟨b, ys, rfl, h3, h4⟩ := dp_tup hx
  have l1 := dps_len h2
  have l2 := dps_len h4
  refine ⟨a, b, xs, ys, rfl, rfl, st_ex hw.b h1, st_ex hw.b h3, sz_of (by omega), fun e => ?_, fun _ e => ?_, fun _ _ p hp => ?_⟩
  · subst e
    have : ds = [] := List.length_eq_zero_iff.mp (by rw [← l1]; rfl)
    subst this
    exact q _ B1 H (Ex.refl _) hw (.tup h3 h4)
  · subst e
    have : es = [] := List.length_eq_zero_iff.mp (by rw [← l2]; rfl)
    subst this
    rw [List.append_nil] at q
    exact q _ B1 H (Ex.refl _) hw (.tup h1 h2)
  · exact q _ (upd B1 p _) _ (Ex.new (hw.fb hp)) (hw.newB hp) (.tup (.inl (.inl upd_same)) (dps_ex (Ex.new (hw.fb hp)) _ _ (dps_app h2 h4)))
theorem rd_cat (hl : ds.length + es.length ≤ 100000) : RD K rCat (.list ds) (.list es) (.list (ds ++ es)) := fun B1 O1 H v w hw hv hx Q q => by
  obtain ⟨a, xs, rfl, h1, h2⟩ := dp_lst hv
  obtain ⟨b, ys, rfl, h3, h4⟩ := dp_lst hx
  have l1 := dps_len h2
  have l2 := dps_len h4
  refine ⟨a, b, xs, ys, rfl, rfl, hw.b _ _ h1, hw.b _ _ h3, sz_of (by omega), fun p hp => ?_⟩
  exact q _ (upd B1 p _) _ (Ex.new (hw.fb hp)) (hw.newB hp) (.lst upd_same (dps_ex (Ex.new (hw.fb hp)) _ _ (dps_app h2 h4)))
theorem list_rep {α : Type} {xs : List α} : ∀ n, (List.replicate n xs).flatten.length = xs.length * n := fun n => by
  simp [Nat.mul_comm]
end
section
variable {K : PySem.W.Frag} {B O : Hp} {G : List SD} {ta tb te : TE} {d e : PyData} {ds es : List PyData} {i j : Int}
theorem ev_un {f : Int → Int} (ha : EvD K B O G ta (.int i)) : EvD K B O G (tUn (rU fun i => .int (f i)) ta) (.int (f i)) := fun B1 O1 σ H e1 o s Q q =>
  ha B1 O1 σ H e1 o s _ fun v B2 H2 e2 w2 d2 => ⟨i, dp_int d2, q _ B2 H2 e2 w2 (.int _)⟩
theorem ev_cb {r : List V → Hp → VK → Prop} {t : TA} {xs : List PyData} (h : EvA K B O G t xs) (hr : RC K r xs d) : EvD K B O G (tCB r t) d := fun B1 O1 σ H e1 o s Q q =>
  h B1 O1 σ H e1 o s _ fun vs B2 H2 e2 w2 d2 => hr B2 O1 H2 vs w2 d2 Q fun u B3 H3 e3 w3 d3 => q u B3 H3 (e2.trans e3) w3 d3
/-! slices -/
theorem eo_none : EvO K B O G tNoPart none := fun B1 O1 σ H _ _ s Q q => q B1 H (Ex.refl _) s.w
theorem eo_some (h : EvD K B O G te (.int i)) : EvO K B O G (tPart te) (some i) := fun B1 O1 σ H e1 o s Q q => h B1 O1 σ H e1 o s _ fun v B2 H2 e2 w2 d2 => ⟨i, dp_int d2, q B2 H2 e2 w2⟩
def cutX (xs : List PyData) (lo hi : Option Int) : List PyData := (xs.drop (HT.sIx xs.length 0 lo)).take (HT.sIx xs.length xs.length hi - HT.sIx xs.length 0 lo)
theorem cut_dps {lo hi : Option Int} {vs : List V} (h : DtAll K B vs ds) : DtAll K B (cutV vs lo hi) (cutX ds lo hi) := by
  unfold cutV cutX
  rw [dps_len h]
  exact dps_take _ (dps_drop _ h)
theorem cut_whole {lo hi : Option Int} {vs : List V} (h : HT.sIx vs.length 0 lo = 0 ∧ HT.sIx vs.length vs.length hi = vs.length) : cutV vs lo hi = vs := by
  unfold cutV
  rw [h.1, h.2]
  simp
theorem ev_slT {to tp : TO} {lo hi : Option Int} (h : EvD K B O G te (.tuple ds)) (h1 : EvO K B O G to lo) (h2 : EvO K B O G tp hi) : EvD K B O G (tSl (rSlA K) te to tp) (.tuple (cutX ds lo hi)) := fun B1 O1 σ H e1 o s Q q =>
  h B1 O1 σ H e1 o s _ fun v B2 H2 e2 w2 d2 => h1 B2 O1 σ H2 (e1.trans e2) o (s.ex e2 w2) _ fun B3 H3 e3 w3 => h2 B3 O1 σ H3 ((e1.trans e2).trans e3) o (s.ex (e2.trans e3) w3) _ fun B4 H4 e4 w4 => by
    obtain ⟨a, xs, rfl, k1, k2⟩ := dp_tup d2
    have k1' := st_ex (e3.trans e4) k1
    have k2' := dps_ex (e3.trans e4) _ _ k2
    refine ⟨a, xs, rfl, st_ex w4.b k1', fun hw => ?_, fun _ p hp => ?_⟩
    · have k3 := cut_dps (lo := lo) (hi := hi) k2'
      rw [cut_whole hw] at k3
      exact q _ B4 H4 ((e2.trans e3).trans e4) w4 (.tup k1' k3)
    · exact q _ (upd B4 p _) _ (((e2.trans e3).trans e4).trans (Ex.new (w4.fb hp))) (w4.newB hp) (.tup (.inl (.inl upd_same)) (dps_ex (Ex.new (w4.fb hp)) _ _ (cut_dps k2')))
theorem ev_slL {to tp : TO} {lo hi : Option Int} (h : EvD K B O G te (.list ds)) (h1 : EvO K B O G to lo) (h2 : EvO K B O G tp hi) : EvD K B O G (tSl (rSlL K) te to tp) (.list (cutX ds lo hi)) := fun B1 O1 σ H e1 o s Q q =>
  h B1 O1 σ H e1 o s _ fun v B2 H2 e2 w2 d2 => h1 B2 O1 σ H2 (e1.trans e2) o (s.ex e2 w2) _ fun B3 H3 e3 w3 => h2 B3 O1 σ H3 ((e1.trans e2).trans e3) o (s.ex (e2.trans e3) w3) _ fun B4 H4 e4 w4 => by
    obtain ⟨a, xs, rfl, k1, k2⟩ := dp_lst d2
    have k1' := (e3.trans e4) _ _ k1
    have k2' := dps_ex (e3.trans e4) _ _ k2
    exact ⟨a, xs, rfl, .inl (.inl (w4.b _ _ k1')), fun p hp => q _ (upd B4 p _) _ (((e2.trans e3).trans e4).trans (Ex.new (w4.fb hp))) (w4.newB hp) (.lst upd_same (dps_ex (Ex.new (w4.fb hp)) _ _ (cut_dps k2')))⟩
end
/-! ### built-ins -/
section
variable {K : PySem.W.Frag} {ds : List PyData}
theorem rc_lenL : RC K (fun xs H Q => ∃ p ys, xs = [.ref p] ∧ (SqL K H p ys ∨ SqT K H p ys) ∧ Q (.int ys.length) H) [.list ds] (.int ds.length) := fun B1 O1 H vs w h Q q => by
  cases h with
  | cons h1 h2 =>
    cases h2
    obtain ⟨a, xs, rfl, k1, k2⟩ := dp_lst h1
    refine ⟨a, xs, rfl, .inl (.inl (.inl (w.b _ _ k1))), ?_⟩
    rw [dps_len k2]
    exact q _ B1 H (Ex.refl _) w (.int _)
theorem rc_lenT : RC K (fun xs H Q => ∃ p ys, xs = [.ref p] ∧ (SqL K H p ys ∨ SqT K H p ys) ∧ Q (.int ys.length) H) [.tuple ds] (.int ds.length) := fun B1 O1 H vs w h Q q => by
  cases h with
  | cons h1 h2 =>
    cases h2
    obtain ⟨a, xs, rfl, k1, k2⟩ := dp_tup h1
    refine ⟨a, xs, rfl, .inr (st_ex w.b k1), ?_⟩
    rw [dps_len k2]
    exact q _ B1 H (Ex.refl _) w (.int _)
theorem rc_listT : RC K (fun xs H Q => ∃ p ys, xs = [.ref p] ∧ (SqL K H p ys ∨ SqT K H p ys) ∧ ∀ l, H l = none → Q (.ref l) (upd H l (.lst ys))) [.tuple ds] (.list ds) := fun B1 O1 H vs w h Q q => by
  cases h with
  | cons h1 h2 =>
    cases h2
    obtain ⟨a, xs, rfl, k1, k2⟩ := dp_tup h1
    exact ⟨a, xs, rfl, .inr (st_ex w.b k1), fun l hl => q _ (upd B1 l _) _ (Ex.new (w.fb hl)) (w.newB hl) (.lst upd_same (dps_ex (Ex.new (w.fb hl)) _ _ k2))⟩
theorem rc_listL : RC K (fun xs H Q => ∃ p ys, xs = [.ref p] ∧ (SqL K H p ys ∨ SqT K H p ys) ∧ ∀ l, H l = none → Q (.ref l) (upd H l (.lst ys))) [.list ds] (.list ds) := fun B1 O1 H vs w h Q q => by
  cases h with
  | cons h1 h2 =>
    cases h2
    obtain ⟨a, xs, rfl, k1, k2⟩ := dp_lst h1
    exact ⟨a, xs, rfl, .inl (.inl (.inl (w.b _ _ k1))), fun l hl => q _ (upd B1 l _) _ (Ex.new (w.fb hl)) (w.newB hl) (.lst upd_same (dps_ex (Ex.new (w.fb hl)) _ _ k2))⟩
theorem rc_tupL : RC K (fun xs H Q => ∃ p ys, xs = [.ref p] ∧ ((SqL K H p ys ∧ ∀ l, H l = none → Q (.ref l) (upd H l (.tup ys))) ∨ (SqT K H p ys ∧ Q (.ref p) H))) [.list ds] (.tuple ds) := fun B1 O1 H vs w h Q q => by
  cases h with
  | cons h1 h2 =>
    cases h2
    obtain ⟨a, xs, rfl, k1, k2⟩ := dp_lst h1
    exact ⟨a, xs, rfl, .inl ⟨.inl (.inl (w.b _ _ k1)), fun l hl => q _ (upd B1 l _) _ (Ex.new (w.fb hl)) (w.newB hl) (.tup (.inl (.inl upd_same)) (dps_ex (Ex.new (w.fb hl)) _ _ k2))⟩⟩
theorem rc_tupT : RC K (fun xs H Q => ∃ p ys, xs = [.ref p] ∧ ((SqL K H p ys ∧ ∀ l, H l = none → Q (.ref l) (upd H l (.tup ys))) ∨ (SqT K H p ys ∧ Q (.ref p) H))) [.tuple ds] (.tuple ds) := fun B1 O1 H vs w h Q q => by
  cases h with
  | cons h1 h2 =>
    cases h2
    obtain ⟨a, xs, rfl, k1, k2⟩ := dp_tup h1
    exact ⟨a, xs, rfl, .inr ⟨st_ex w.b k1, q _ B1 H (Ex.refl _) w (.tup k1 k2)⟩⟩
theorem rc_sum {ns : List Int} : RC K (rSum K) [.list (ns.map .int)] (.int ns.sum) := fun B1 O1 H vs w h Q q => by
  cases h with
  | cons h1 h2 =>
    cases h2
    obtain ⟨a, xs, rfl, k1, k2⟩ := dp_lst h1
    have e := dps_ints k2
    subst e
    exact ⟨a, ns, rfl, .inl (.inl (w.b _ _ k1)), q _ B1 H (Ex.refl _) w (.int _)⟩
theorem rc_all {bs : List Bool} : RC K (rAll K) [.list (bs.map .bool)] (.bool (bs.all id)) := fun B1 O1 H vs w h Q q => by
  cases h with
  | cons h1 h2 =>
    cases h2
    obtain ⟨a, xs, rfl, k1, k2⟩ := dp_lst h1
    have e := dps_bools k2
    subst e
    exact ⟨a, bs, rfl, .inl (.inl (w.b _ _ k1)), q _ B1 H (Ex.refl _) w (.bl _)⟩
theorem rc_any {bs : List Bool} : RC K (rAny K) [.list (bs.map .bool)] (.bool (bs.any id)) := fun B1 O1 H vs w h Q q => by
  cases h with
  | cons h1 h2 =>
    cases h2
    obtain ⟨a, xs, rfl, k1, k2⟩ := dp_lst h1
    have e := dps_bools k2
    subst e
    exact ⟨a, bs, rfl, .inl (.inl (w.b _ _ k1)), q _ B1 H (Ex.refl _) w (.bl _)⟩
theorem rc_intI {i : Int} : RC K (fun xs H Q => (∃ i, xs = [.int i] ∧ Q (.int i) H) ∨ ∃ k, xs = [.bl k] ∧ Q (.int (if k then 1 else 0)) H) [.int i] (.int i) := fun B1 O1 H vs w h Q q => by
  cases h with
  | cons h1 h2 =>
    cases h2
    exact .inl ⟨i, by rw [dp_int h1], q _ B1 H (Ex.refl _) w (.int _)⟩
theorem rc_intB {k : Bool} : RC K (fun xs H Q => (∃ i, xs = [.int i] ∧ Q (.int i) H) ∨ ∃ k, xs = [.bl k] ∧ Q (.int (if k then 1 else 0)) H) [.bool k] (.int (if k then 1 else 0)) := fun B1 O1 H vs w h Q q => by
  cases h with
  | cons h1 h2 =>
    cases h2
    exact .inr ⟨k, by rw [dp_bool h1], q _ B1 H (Ex.refl _) w (.int _)⟩
theorem rc_abs {i : Int} : RC K (fun xs H Q => ∃ i, xs = [.int i] ∧ Q (.int (if i < 0 then -i else i)) H) [.int i] (.int (if i < 0 then -i else i)) := fun B1 O1 H vs w h Q q => by
  cases h with
  | cons h1 h2 =>
    cases h2
    exact ⟨i, by rw [dp_int h1], q _ B1 H (Ex.refl _) w (.int _)⟩
theorem rc_max2 {i j : Int} : RC K (fun xs H Q => ∃ i j, xs = [.int i, .int j] ∧ Q (.int (if j > i then j else i)) H) [.int i, .int j] (.int (if j > i then j else i)) := fun B1 O1 H vs w h Q q => by
  cases h with
  | cons h1 h2 =>
    cases h2 with
    | cons h3 h4 =>
      cases h4
      exact ⟨i, j, by rw [dp_int h1, dp_int h3], q _ B1 H (Ex.refl _) w (.int _)⟩
theorem rc_min2 {i j : Int} : RC K (fun xs H Q => ∃ i j, xs = [.int i, .int j] ∧ Q (.int (if j < i then j else i)) H) [.int i, .int j] (.int (if j < i then j else i)) := fun B1 O1 H vs w h Q q => by
  cases h with
  | cons h1 h2 =>
    cases h2 with
    | cons h3 h4 =>
      cases h4
      exact ⟨i, j, by rw [dp_int h1, dp_int h3], q _ B1 H (Ex.refl _) w (.int _)⟩
end

/-! ### what is walked -/
section
variable (K : PySem.W.Frag) (B O : Hp) (G : List SD)
/-- the walk gives the data es in order -/
structure Gives (J : It) (es : List PyData) (B' : Hp) : Prop where
  walk : ∃ (n : Nat) (G0 : Hp → Prop) (Y : Nat → Hp → V → Hp → Prop), n = es.length ∧ Walk J n G0 Y ∧ (∀ B2 O2 H2, Ex B' B2 → W B2 O2 H2 → G0 H2) ∧
    ∀ i H2 x H3 B2 O2, Ex B' B2 → W B2 O2 H2 → i < n → Y i H2 x H3 → ∃ e B3, es[i]? = some e ∧ Ex B2 B3 ∧ W B3 O2 H3 ∧ Dt K B3 x e
def EvI (wi : TI) (es : List PyData) : Prop := ∀ B1 O1 σ H, Ex B B1 → Ex O O1 → Sta K B1 O1 G σ H → ∀ R : It → Hp → Prop, (∀ J B' H', Ex B1 B' → W B' O1 H' → Gives K J es B' → R J H') → wi σ H R
end
section
variable {K : PySem.W.Frag} {B O : Hp} {G : List SD} {te : TE} {ta : TA} {es ds : List PyData}
theorem ei_list (h : EvD K B O G te (.list es)) : EvI K B O G (iList K te) es := fun B1 O1 σ H e1 o s R r => h B1 O1 σ H e1 o s _ fun v B2 H2 e2 w2 d2 => by
  obtain ⟨a, xs, rfl, k1, k2⟩ := dp_lst d2
  refine ⟨a, rfl, ⟨xs, .inl (.inl (w2.b _ _ k1))⟩, r _ B2 H2 e2 w2 ⟨xs.length, _, _, dps_len k2, walk_list (xs := xs), fun B3 O3 H3 e3 w3 => .inl (.inl (w3.b _ _ (e3 _ _ k1))), fun i H3 x H4 B3 O3 e3 w3 hi y => ?_⟩⟩
  obtain ⟨rfl, hx⟩ := y
  obtain ⟨e, he, hd⟩ := dps_getV k2 hx
  exact ⟨e, B3, he, Ex.refl _, w3, dp_ex e3 _ _ hd⟩
theorem ei_tup (h : EvD K B O G te (.tuple es)) : EvI K B O G (iTup K te) es := fun B1 O1 σ H e1 o s R r => h B1 O1 σ H e1 o s _ fun v B2 H2 e2 w2 d2 => by
  obtain ⟨a, xs, rfl, k1, k2⟩ := dp_tup d2
  refine ⟨a, rfl, ⟨xs, st_ex w2.b k1⟩, r _ B2 H2 e2 w2 ⟨xs.length, _, _, dps_len k2, walk_tup (xs := xs), fun B3 O3 H3 e3 w3 => st_ex (e3.trans w3.b) k1, fun i H3 x H4 B3 O3 e3 w3 hi y => ?_⟩⟩
  obtain ⟨rfl, hx⟩ := y
  obtain ⟨e, he, hd⟩ := dps_getV k2 hx
  exact ⟨e, B3, he, Ex.refl _, w3, dp_ex e3 _ _ hd⟩
def rangeD (lo : Int) (n : Nat) : List PyData := (List.range n).map fun (i : Nat) => .int (lo + i)
theorem rangeD_get {lo : Int} {n i : Nat} (h : i < n) : (rangeD lo n)[i]? = some (.int (lo + i)) := by
  unfold rangeD
  rw [List.getElem?_map, List.getElem?_range h]
  rfl
theorem rangeD_len {lo : Int} {n : Nat} : (rangeD lo n).length = n := by
  unfold rangeD
  rw [List.length_map, List.length_range]
theorem ei_range1 {j : Int} (h : EvA K B O G ta [.int j]) (hj : -1000000 ≤ j ∧ j ≤ 1000000) : EvI K B O G (iRng1 ta) (rangeD 0 j.toNat) := fun B1 O1 σ H e1 o s R r => h B1 O1 σ H e1 o s _ fun vs B2 H2 e2 w2 d2 => by
  have e := dps_ints (ns := [j]) d2
  refine ⟨j, e, by omega, by omega, r _ B2 H2 e2 w2 ⟨j.toNat, _, _, rangeD_len.symm, walk_range, fun _ _ _ _ _ => trivial, fun i H3 x H4 B3 O3 e3 w3 hi y => ?_⟩⟩
  obtain ⟨rfl, rfl⟩ := y
  exact ⟨_, B3, rangeD_get hi, Ex.refl _, w3, .int _⟩
theorem ei_range2 {i j : Int} (h : EvA K B O G ta [.int i, .int j]) (hi : -1000000 ≤ i ∧ i ≤ 1000000) (hj : -1000000 ≤ j ∧ j ≤ 1000000) : EvI K B O G (iRng2 ta) (rangeD i (j - i).toNat) := fun B1 O1 σ H e1 o s R r => h B1 O1 σ H e1 o s _ fun vs B2 H2 e2 w2 d2 => by
  have e := dps_ints (ns := [i, j]) d2
  refine ⟨i, j, e, by omega, r _ B2 H2 e2 w2 ⟨(j - i).toNat, _, _, rangeD_len.symm, walk_range, fun _ _ _ _ _ => trivial, fun k H3 x H4 B3 O3 e3 w3 hi y => ?_⟩⟩
  obtain ⟨rfl, rfl⟩ := y
  exact ⟨_, B3, rangeD_get hi, Ex.refl _, w3, .int _⟩
def enumD (es : List PyData) : List PyData := (List.range es.length).map fun (i : Nat) => .tuple [.int i, es.getD i .none]
theorem enumD_len : (enumD es).length = es.length := by
  unfold enumD
  rw [List.length_map, List.length_range]
theorem enumD_get {i : Nat} {e : PyData} (h : es[i]? = some e) : (enumD es)[i]? = some (.tuple [.int i, e]) := by
  have hi : i < es.length := (List.getElem?_eq_some_iff.mp h).1
  unfold enumD
  rw [List.getElem?_map, List.getElem?_range hi]
  have : es.getD i PyData.none = e := by rw [List.getD_eq_getElem?_getD, h]; rfl
  simp [this, h]
theorem pair_new {B2 O2 H2 : Hp} {T : Addr} {x y : V} {d e : PyData} (w : W B2 O2 H2) (hT : H2 T = none) (hx : Dt K B2 x d) (hy : Dt K B2 y e) :
    Ex B2 (upd B2 T (.tup [x, y])) ∧ W (upd B2 T (.tup [x, y])) O2 (upd H2 T (.tup [x, y])) ∧ Dt K (upd B2 T (.tup [x, y])) (.ref T) (.tuple [d, e]) :=
  ⟨Ex.new (w.fb hT), w.newB hT, .tup (.inl (.inl upd_same)) (dps_ex (Ex.new (w.fb hT)) _ _ (.cons hx (.cons hy .nil)))⟩
theorem ei_enum (h : EvA K B O G ta [.list es]) : EvI K B O G (iEnum K ta) (enumD es) := fun B1 O1 σ H e1 o s R r => h B1 O1 σ H e1 o s _ fun vs B2 H2 e2 w2 d2 => by
  cases d2 with
  | cons d3 d4 =>
    cases d4
    obtain ⟨a, xs, rfl, k1, k2⟩ := dp_lst d3
    refine ⟨a, xs, rfl, .inl (.inl (w2.b _ _ k1)), r _ B2 H2 e2 w2 ⟨xs.length, _, _, by rw [enumD_len]; exact dps_len k2, walk_enum (xs := xs), fun B3 O3 H3 e3 w3 => .inl (.inl (w3.b _ _ (e3 _ _ k1))), fun i H3 x H4 B3 O3 e3 w3 hi y => ?_⟩⟩
    obtain ⟨T, x', y', rfl, hT, rfl, hx, hy⟩ := y
    cases hx
    obtain ⟨e, he, hd⟩ := dps_getV k2 hy
    obtain ⟨q1, q2, q3⟩ := pair_new w3 hT (.int (i : Nat)) (dp_ex e3 _ _ hd)
    exact ⟨_, _, enumD_get he, q1, q2, q3⟩
end
/-! ### targets -/
/-- the target takes the data e: G becomes G' -/
def EvG (K : PySem.W.Frag) (R : L2.St → L2.St → Prop) (g : TG) (G : List SD) (e : PyData) (G' : List SD) : Prop :=
  ∀ B1 O1 σ H v, Sta K B1 O1 G σ H → Dt K B1 v e → ∀ Q : L2.St → Hp → Prop, (∀ σ', Sta K B1 O1 G' σ' H → R σ σ' → Q σ' H) → g v σ H Q
theorem wipe_get (σ : L2.St) (i : Nat) : ∀ vs : List Nat, (L2.wipe σ vs)[i]? = if i ∈ vs then (if i < σ.length then some none else none) else σ[i]?
  | [] => by simp [L2.wipe]
  | v :: vs => by
    unfold L2.wipe
    rw [List.getElem?_set]
    by_cases h : v = i
    · subst h
      simp [wipe_length]
    · rw [if_neg h, wipe_get σ i vs]
      have h' : ¬ i = v := fun e => h e.symm
      simp [h']
theorem wipe_set {σ : L2.St} {j : Nat} {x : Option V} {vs : List Nat} (h : j ∈ vs) : L2.wipe (σ.set j x) vs = L2.wipe σ vs := by
  apply List.ext_getElem?
  intro i
  rw [wipe_get, wipe_get, List.length_set]
  by_cases hi : i ∈ vs
  · simp [hi]
  · rw [if_neg hi, if_neg hi, List.getElem?_set_ne (by rintro rfl; exact hi h)]
theorem wipe_wipe {σ : L2.St} {vs : List Nat} : L2.wipe (L2.wipe σ vs) vs = L2.wipe σ vs := by
  apply List.ext_getElem?
  intro i
  rw [wipe_get, wipe_get, wipe_length]
  by_cases hi : i ∈ vs <;> simp [hi]
section
variable {K : PySem.W.Frag} {G : List SD} {e a b : PyData} {j k : Nat} {vs : List Nat} {n : Nat}
abbrev RW (vs : List Nat) : L2.St → L2.St → Prop := fun σ σ' => L2.wipe σ' vs = L2.wipe σ vs
abbrev RT : L2.St → L2.St → Prop := fun _ _ => True
theorem eg_name : EvG K RT (gName j) G e (G.set j (.dat e)) := fun B1 O1 σ H v s d Q q => q _ (s.set j d) trivial
theorem eg_nameW (h : j ∈ vs) : EvG K (RW vs) (gName j) G e (G.set j (.dat e)) := fun B1 O1 σ H v s d Q q => q _ (s.set j d) (wipe_set h)
theorem eg_pair : EvG K RT (gTup K 2 (gCons (gName j) (gCons (gName k) gNil))) G (.tuple [a, b]) ((G.set j (.dat a)).set k (.dat b)) := fun B1 O1 σ H v s d Q q => by
  obtain ⟨p, xs, rfl, h1, h2⟩ := dp_tup d
  have hl := dps_len h2
  cases h2 with
  | cons h3 h4 =>
    cases h4 with
    | cons h5 h6 =>
      cases h6
      refine ⟨p, _, rfl, st_ex s.w.b h1, rfl, _, _, rfl, _, _, rfl, rfl, q _ ((s.set j h3).set k h5) trivial⟩
theorem eg_pairW (hj : j ∈ vs) (hk : k ∈ vs) : EvG K (RW vs) (gTup K 2 (gCons (gName j) (gCons (gName k) gNil))) G (.tuple [a, b]) ((G.set j (.dat a)).set k (.dat b)) := fun B1 O1 σ H v s d Q q => by
  obtain ⟨p, xs, rfl, h1, h2⟩ := dp_tup d
  cases h2 with
  | cons h3 h4 =>
    cases h4 with
    | cons h5 h6 =>
      cases h6
      refine ⟨p, _, rfl, st_ex s.w.b h1, rfl, _, _, rfl, _, _, rfl, rfl, q _ ((s.set j h3).set k h5) ?_⟩
      show L2.wipe ((σ.set j _).set k _) vs = _
      rw [wipe_set hk, wipe_set hj]
end
/-! ### comprehensions -/
section
variable {K : PySem.W.Frag} {B O : Hp} {G : List SD} {wi : TI} {g : TG} {tt : TT} {te : TE} {vs : List Nat} {es : List PyData}
theorem ev_lc (f : PyData → Bool) (v : PyData → PyData) (Gi : PyData → List SD) (hI : EvI K B O G wi es) (hz : es.length ≤ 100000)
    (hg : ∀ e, e ∈ es → EvG K (RW vs) g (wipeG G vs) e (Gi e)) (ht : ∀ e, e ∈ es → EvT K B O (Gi e) tt (f e)) (he : ∀ e, e ∈ es → f e = true → EvD K B O (Gi e) te (v e)) :
    EvD K B O G (tLc wi g tt te vs) (.list ((es.filter f).map v)) := fun B1 O1 σ H e1 o s Q q => by
  refine hI B1 O1 σ H e1 o s _ fun J B2 H2 e2 w2 gv D hD => ?_
  obtain ⟨n, G0, Y, hn, wk, hG0, hY⟩ := gv
  have oD : O1 D = none := w2.fo hD
  refine lc_it wk (fun i H' => ∃ B' acc, Ex B2 B' ∧ W B' (upd O1 D (.lst acc)) H' ∧ DtAll K B' acc (((es.take i).filter f).map v))
    ⟨B2, [], Ex.refl _, w2.newO hD, by simp; exact .nil⟩ (fun i H' _ ⟨B', acc, e', w', _⟩ => hG0 B' _ H' e' w') ?_ ?_
  · rintro i x H3 H4 hi ⟨B3, acc, e3, w3, da⟩ y
    obtain ⟨e, B4, hie, e4, w4, dx⟩ := hY i H3 x H4 B3 _ e3 w3 hi y
    have hm : e ∈ es := List.mem_of_getElem? hie
    have s4 : Sta K B4 (upd O1 D (.lst acc)) (wipeG G vs) (L2.wipe σ vs) H4 := ⟨w4, (s.s.ex ((e2.trans e3).trans e4)).wipe vs⟩
    have hOD : Ex O (upd O1 D (.lst acc)) := o.trans (Ex.new oD)
    refine hg e hm B4 _ _ H4 x s4 dx _ fun σ' s5 r5 => ⟨r5.trans wipe_wipe, ?_⟩
    have hlen : acc.length ≤ 100000 := by
      rw [dps_len da, List.length_map]
      have h1 := List.length_filter_le f (es.take i)
      have h2 : (es.take i).length ≤ es.length := List.length_take_le' i es
      omega
    refine ht e hm B4 _ σ' H4 (e1.trans ((e2.trans e3).trans e4)) hOD s5 _ fun B5 H5 e5 w5 => ?_
    have htk : es.take (i + 1) = es.take i ++ [e] := by
      rw [List.take_add_one, hie]
      rfl
    cases hf : f e with
    | true =>
      show te σ' H5 _
      refine he e hm hf B5 _ σ' H5 (e1.trans (((e2.trans e3).trans e4).trans e5)) hOD (s5.ex e5 w5) _ fun u B6 H6 e6 w6 d6 => ?_
      refine ⟨acc, w6.o D _ upd_same, Nat.lt_of_le_of_lt hlen (by decide), B6, acc ++ [u], ((e3.trans e4).trans e5).trans e6, ?_, ?_⟩
      · have := w6.mut (v := .lst (acc ++ [u])) upd_same
        rw [upd_upd] at this
        exact this
      · rw [htk, List.filter_append, List.map_append]
        refine dps_app (dps_ex ((e4.trans e5).trans e6) _ _ da) ?_
        simp [hf]
        exact dps_one d6
    | false =>
      show ∃ B' acc, _
      refine ⟨B5, acc, (e3.trans e4).trans e5, w5, ?_⟩
      rw [htk, List.filter_append, List.map_append]
      simp [hf]
      have := dps_ex (e4.trans e5) _ _ da
      simpa using this
  · rintro H3 ⟨B3, acc, e3, w3, da⟩
    rw [hn, List.take_length] at da
    exact q _ (upd B3 D (.lst acc)) H3 ((e2.trans e3).trans (Ex.new (w3.bnone upd_same))) (w3.give oD) (.lst upd_same (dps_ex (Ex.new (w3.bnone upd_same)) _ _ da))
end
end DL
namespace DL
open PySem L2 StX
section
variable {K : PySem.W.Frag} {B O : Hp} {G : List SD} {te : TE} {d e : PyData}
theorem rd_eqS {b : Bool} (hd : flatD d = true) (he : flatD e = true) (hs : scal (fv d) (fv e) = true) (h : decide (fv d = fv e) = b) : RD K rEq d e (.bool b) := fun B1 O1 H v w hw hv hx Q q => by
  obtain ⟨e1, _⟩ := fv_of hv hd
  obtain ⟨e2, _⟩ := fv_of hx he
  rw [e1, e2]
  refine ⟨hs, ?_⟩
  rw [h]
  exact q _ B1 H (Ex.refl _) hw (.bl _)
theorem rd_neS {b : Bool} (hd : flatD d = true) (he : flatD e = true) (hs : scal (fv d) (fv e) = true) (h : (!decide (fv d = fv e)) = b) : RD K rNe d e (.bool b) := fun B1 O1 H v w hw hv hx Q q => by
  obtain ⟨e1, _⟩ := fv_of hv hd
  obtain ⟨e2, _⟩ := fv_of hx he
  rw [e1, e2]
  refine ⟨hs, ?_⟩
  rw [h]
  exact q _ B1 H (Ex.refl _) hw (.bl _)
theorem rd_eqStr {x y : Str} : RD K rEq (.str x) (.str y) (.bool (x == y)) := rd_eqS rfl rfl rfl dec_str
theorem rd_eqInt {x y : Int} : RD K rEq (.int x) (.int y) (.bool (x == y)) := rd_eqS rfl rfl rfl dec_int
theorem rd_neInt {x y : Int} : RD K rNe (.int x) (.int y) (.bool (!(x == y))) := rd_neS rfl rfl rfl (by rw [show decide (fv (.int x) = fv (.int y)) = (x == y) from dec_int])
/-- x is None -/
theorem ev_isNone {tb : TE} {b : Bool} {ta : TE} (h : EvD K B O G ta d) (hb : EvD K B O G tb .none) (e : (match d with | .none => true | _ => false) = b) : EvD K B O G (tOp (fun x y H Q => y = .non ∧ Q (.bl (decide (x = .non))) H) ta tb) (.bool b) :=
  ev_op h hb fun B1 O1 H v w hw hv hx Q q => ⟨dp_none hx, by
    have : decide (v = V.non) = b := by
      rw [← e]
      cases hv <;> simp
    rw [this]
    exact q _ B1 H (Ex.refl _) hw (.bl b)⟩
end
end DL

set_option Elab.async false
set_option linter.all false
set_option maxRecDepth 100000
set_option maxHeartbeats 2000000
namespace DL
open PySem PySem.Spec PyProof.Rows L2 StX
/-! ### statements -/
section
variable {K : PySem.W.Frag} {B O : Hp} {G : List SD} {σ : L2.St} {H : Hp} {te ta tb : TE} {tt : TT} {tu tw tz : TS} {D : Ends} {d : PyData} {ds : List PyData} {i : Nat}
theorem s_asg (s : Sta K B O G σ H) (h : EvD K B O G te d) (k : ∀ v B' H', Ex B B' → Dt K B' v d → Sta K B' O (G.set i (.dat d)) (σ.set i (some v)) H' → D.nx (σ.set i (some v)) H') : tAsg te (gName i) D σ H :=
  h B O σ H (Ex.refl _) (Ex.refl _) s _ fun v B' H' e w dv => k v B' H' e dv ((s.ex e w).set i dv)
theorem q_asg (s : Sta K B O G σ H) (h : EvD K B O G te d) (k : ∀ v B' H', Ex B B' → Dt K B' v d → Sta K B' O (G.set i (.dat d)) (σ.set i (some v)) H' → tz D (σ.set i (some v)) H') : tSeq (tAsg te (gName i)) tz D σ H := s_asg (D := { D with nx := tz D }) s h k
theorem s_ret (s : Sta K B O G σ H) (h : EvD K B O G te d) (k : ∀ v B' H', Ex B B' → W B' O H' → Dt K B' v d → D.rt v H') : tRet te D σ H :=
  h B O σ H (Ex.refl _) (Ex.refl _) s _ fun v B' H' e w dv => k v B' H' e w dv
theorem s_if {b : Bool} (s : Sta K B O G σ H) (h : EvT K B O G tt b) (h1 : b = true → ∀ B' H', Ex B B' → Sta K B' O G σ H' → tu D σ H') (h2 : b = false → ∀ B' H', Ex B B' → Sta K B' O G σ H' → tw D σ H') : tIfS tt tu tw D σ H :=
  h B O σ H (Ex.refl _) (Ex.refl _) s _ fun B' H' e w => by
    cases b with
    | true =>
      show tu D σ H'
      exact h1 rfl B' H' e (s.ex e w)
    | false =>
      show tw D σ H'
      exact h2 rfl B' H' e (s.ex e w)
theorem q_if {b : Bool} (s : Sta K B O G σ H) (h : EvT K B O G tt b) (h1 : b = true → ∀ B' H', Ex B B' → Sta K B' O G σ H' → tu { D with nx := tz D } σ H') (h2 : b = false → ∀ B' H', Ex B B' → Sta K B' O G σ H' → tw { D with nx := tz D } σ H') : tSeq (tIfS tt tu tw) tz D σ H := s_if (D := { D with nx := tz D }) s h h1 h2
/-- an if that ends the def -/
theorem q_when {b : Bool} (s : Sta K B O G σ H) (h : EvT K B O G tt b) (h1 : b = true → ∀ B' H', Ex B B' → Sta K B' O G σ H' → tu { D with nx := tz D } σ H') (h2 : b = false → ∀ B' H', Ex B B' → Sta K B' O G σ H' → tz D σ H') : tSeq (tIfS tt tu tNext) tz D σ H := q_if s h h1 h2
theorem q_whenF (s : Sta K B O G σ H) (h : EvT K B O G tt false) (h2 : ∀ B' H', Ex B B' → Sta K B' O G σ H' → tz D σ H') : tSeq (tIfS tt tu tNext) tz D σ H := q_if s h (fun z => nomatch z) fun _ => h2
theorem q_whenT (s : Sta K B O G σ H) (h : EvT K B O G tt true) (h1 : ∀ B' H', Ex B B' → Sta K B' O G σ H' → tu { D with nx := tz D } σ H') : tSeq (tIfS tt tu tNext) tz D σ H := q_if s h (fun _ => h1) fun z => nomatch z
/-- a new list that will be changed -/
def EvL (K : PySem.W.Frag) (B O : Hp) (G : List SD) (te : TE) (ds : List PyData) : Prop := ∀ B1 O1 σ H, Ex B B1 → Ex O O1 → Sta K B1 O1 G σ H → ∀ Q : VK, (∀ p vs B' H', Ex B1 B' → O1 p = none → W B' (upd O1 p (.lst vs)) H' → DtAll K B' vs ds → Q (.ref p) H') → te σ H Q
theorem el_lst {t : TA} (h : EvA K B O G t ds) (hl : ds.length ≤ 100000) : EvL K B O G (tLst t) ds := fun B1 O1 σ H e o s Q q =>
  h B1 O1 σ H e o s _ fun vs B2 H2 e2 w2 d2 => ⟨by rw [dps_len d2]; exact sz_of hl, fun p hp => q p vs B2 _ e2 (w2.fo hp) (w2.newO hp) d2⟩
theorem el_listL (h : EvD K B O G te (.list ds)) : EvL K B O G (tCB (fun xs H Q => ∃ p ys, xs = [.ref p] ∧ (SqL K H p ys ∨ SqT K H p ys) ∧ ∀ l, H l = none → Q (.ref l) (upd H l (.lst ys))) (tCons te tNil)) ds := fun B1 O1 σ H e o s Q q =>
  h B1 O1 σ H e o s _ fun v B2 H2 e2 w2 d2 => by
    obtain ⟨a, xs, rfl, k1, k2⟩ := dp_lst d2
    exact ⟨a, xs, rfl, .inl (.inl (.inl (w2.b _ _ k1))), fun l hl => q l xs B2 _ e2 (w2.fo hl) (w2.newO hl) k2⟩
theorem q_asgL (s : Sta K B O G σ H) (h : EvL K B O G te ds) (k : ∀ p vs B' H', Ex B B' → O p = none → DtAll K B' vs ds → Sta K B' (upd O p (.lst vs)) (G.set i (.val (.ref p))) (σ.set i (some (.ref p))) H' → tz D (σ.set i (some (.ref p))) H') : tSeq (tAsg te (gName i)) tz D σ H :=
  h B O σ H (Ex.refl _) (Ex.refl _) s _ fun p vs B' H' e hp w dv => k p vs B' H' e hp dv ⟨w, (s.s.ex e).set i rfl⟩
/-- append to an owned list -/
theorem s_app {l : Addr} {vs : List V} (s : Sta K B O G σ H) (hg : G[i]? = some (.val (.ref l))) (ho : O l = some (.lst vs)) (hz : vs.length < 100000) (h : EvD K B O G te d)
    (k : ∀ v B' H', Ex B B' → Dt K B' v d → Sta K B' (upd O l (.lst (vs ++ [v]))) G σ H' → D.nx σ H') : tDrop (tBM K "list" rAppend (tVar i) (tCons te tNil)) D σ H := by
  obtain ⟨sv, h1, h2⟩ := s.s.get hg
  have h3 : sv = some (.ref l) := h2
  subst h3
  refine ⟨_, h1, .inl ⟨rfl, _, SqL.of (s.w.o _ _ ho)⟩, ?_⟩
  refine h B O σ H (Ex.refl _) (Ex.refl _) s _ fun v B' H' e w dv => ?_
  exact ⟨l, vs, v, rfl, rfl, w.o _ _ ho, Nat.lt_of_lt_of_le hz (by decide), k v B' _ e dv ⟨w.mut ho, s.s.ex e⟩⟩
theorem q_app {l : Addr} {vs : List V} (s : Sta K B O G σ H) (hg : G[i]? = some (.val (.ref l))) (ho : O l = some (.lst vs)) (hz : vs.length < 100000) (h : EvD K B O G te d)
    (k : ∀ v B' H', Ex B B' → Dt K B' v d → Sta K B' (upd O l (.lst (vs ++ [v]))) G σ H' → tz D σ H') : tSeq (tDrop (tBM K "list" rAppend (tVar i) (tCons te tNil))) tz D σ H := s_app (D := { D with nx := tz D }) s hg ho hz h k
theorem q_extend {l : Addr} {vs : List V} (s : Sta K B O G σ H) (hg : G[i]? = some (.val (.ref l))) (ho : O l = some (.lst vs)) (hz : vs.length + ds.length ≤ 100000) (h : EvD K B O G te (.list ds))
    (k : ∀ ws B' H', Ex B B' → DtAll K B' ws ds → Sta K B' (upd O l (.lst (vs ++ ws))) G σ H' → D.nx σ H') : tDrop (tBM K "list" rExtend (tVar i) (tCons te tNil)) D σ H := by
  obtain ⟨sv, h1, h2⟩ := s.s.get hg
  have h3 : sv = some (.ref l) := h2
  subst h3
  refine ⟨_, h1, .inl ⟨rfl, _, SqL.of (s.w.o _ _ ho)⟩, ?_⟩
  refine h B O σ H (Ex.refl _) (Ex.refl _) s _ fun v B' H' e w dv => ?_
  obtain ⟨b, zs, rfl, k1, k2⟩ := dp_lst dv
  exact ⟨l, b, vs, zs, rfl, rfl, w.o _ _ ho, w.b _ _ k1, sz_of (by rw [dps_len k2]; exact hz), k zs B' _ e k2 ⟨w.mut ho, s.s.ex e⟩⟩
/-- x[j] = e of an owned list -/
theorem s_setO {l : Addr} {vs : List V} {z : Int} {j : Nat} {ti : TE} (s : Sta K B O G σ H) (hg : G[i]? = some (.val (.ref l))) (ho : O l = some (.lst vs)) (h : EvD K B O G te d) (hi : EvD K B O G ti (.int z)) (hj : ixN vs.length z = some j)
    (k : ∀ v B' H', Ex B B' → Dt K B' v d → Sta K B' (upd O l (.lst (vs.set j v))) G σ H' → D.nx σ H') : tAsg te (gSub (tVar i) ti rSetL) D σ H := by
  obtain ⟨sv, h1, h2⟩ := s.s.get hg
  have h3 : sv = some (.ref l) := h2
  subst h3
  refine h B O σ H (Ex.refl _) (Ex.refl _) s _ fun v B' H' e w dv => ?_
  refine ⟨_, h1, ?_⟩
  refine hi B' O σ H' e (Ex.refl _) (s.ex e w) _ fun v2 B2 H2 e2 w2 dv2 => ?_
  rw [dp_int dv2]
  exact ⟨l, vs, z, j, rfl, rfl, w2.o _ _ ho, hj, k v B2 _ (e.trans e2) (dp_ex e2 _ _ dv) ⟨w2.mut ho, s.s.ex (e.trans e2)⟩⟩
theorem q_setO {l : Addr} {vs : List V} {z : Int} {j : Nat} {ti : TE} (s : Sta K B O G σ H) (hg : G[i]? = some (.val (.ref l))) (ho : O l = some (.lst vs)) (h : EvD K B O G te d) (hi : EvD K B O G ti (.int z)) (hj : ixN vs.length z = some j)
    (k : ∀ v B' H', Ex B B' → Dt K B' v d → Sta K B' (upd O l (.lst (vs.set j v))) G σ H' → tz D σ H') : tSeq (tAsg te (gSub (tVar i) ti rSetL)) tz D σ H := s_setO (D := { D with nx := tz D }) s hg ho h hi hj k
/-- an owned list is read -/
theorem ev_ixO {l : Addr} {vs : List V} {z : Int} (hg : G[i]? = some (.val (.ref l))) (ho : O l = some (.lst vs)) (hv : DtAll K B vs ds) (hb : EvD K B O G tb (.int z)) (h : atI ds z = some d) : EvD K B O G (tOp (rIxL K) (tVar i) tb) d := fun B1 O1 σ H e o s Q q => by
  obtain ⟨sv, h1, h2⟩ := s.s.get hg
  have h3 : sv = some (.ref l) := h2
  subst h3
  refine ⟨_, h1, ?_⟩
  refine hb B1 O1 σ H e o s _ fun v B2 H2 e2 w2 d2 => ?_
  obtain ⟨v', h4, h5⟩ := atI_get (dps_ex (e.trans e2) _ _ hv) h
  rw [dp_int d2]
  exact ⟨l, vs, z, v', rfl, rfl, .inl (.inl (w2.o _ _ (o _ _ ho))), h4, q _ B2 H2 e2 w2 h5⟩
theorem ev_lenO {l : Addr} {vs : List V} (hg : G[i]? = some (.val (.ref l))) (ho : O l = some (.lst vs)) : EvD K B O G (tCB (fun xs H Q => ∃ p ys, xs = [.ref p] ∧ (SqL K H p ys ∨ SqT K H p ys) ∧ Q (.int ys.length) H) (tCons (tVar i) tNil)) (.int vs.length) := fun B1 O1 σ H e o s Q q => by
  obtain ⟨sv, h1, h2⟩ := s.s.get hg
  have h3 : sv = some (.ref l) := h2
  subst h3
  exact ⟨_, h1, l, vs, rfl, .inl (.inl (.inl (s.w.o _ _ (o _ _ ho)))), q _ B1 H (Ex.refl _) s.w (.int _)⟩
/-- tuple(x) of an owned list -/
theorem ev_tupO {l : Addr} {vs : List V} (hg : G[i]? = some (.val (.ref l))) (ho : O l = some (.lst vs)) (hv : DtAll K B vs ds) : EvD K B O G (tCB (fun xs H Q => ∃ p ys, xs = [.ref p] ∧ ((SqL K H p ys ∧ ∀ l, H l = none → Q (.ref l) (upd H l (.tup ys))) ∨ (SqT K H p ys ∧ Q (.ref p) H))) (tCons (tVar i) tNil)) (.tuple ds) := fun B1 O1 σ H e o s Q q => by
  obtain ⟨sv, h1, h2⟩ := s.s.get hg
  have h3 : sv = some (.ref l) := h2
  subst h3
  exact ⟨_, h1, l, vs, rfl, .inl ⟨.inl (.inl (s.w.o _ _ (o _ _ ho))), fun p hp => q _ (upd B1 p _) _ (Ex.new (s.w.fb hp)) (s.w.newB hp) (.tup (.inl (.inl upd_same)) (dps_ex (e.trans (Ex.new (s.w.fb hp))) _ _ hv))⟩⟩
/-- an owned list is given back -/
theorem s_retO {l : Addr} {vs : List V} {O0 : Hp} (s : Sta K B O G σ H) (hg : G[i]? = some (.val (.ref l))) (ho : O = upd O0 l (.lst vs)) (hn : O0 l = none) (hv : DtAll K B vs ds) (k : ∀ B' H', Ex B B' → W B' O0 H' → Dt K B' (.ref l) (.list ds) → D.rt (.ref l) H') : tRet (tVar i) D σ H := by
  subst ho
  obtain ⟨sv, h1, h2⟩ := s.s.get hg
  have h3 : sv = some (.ref l) := h2
  subst h3
  have hb := s.w.bnone upd_same
  exact ⟨_, h1, k (upd B l (.lst vs)) H (Ex.new hb) (s.w.give hn) (.lst upd_same (dps_ex (Ex.new hb) _ _ hv))⟩
/-! loops -/
theorem s_for {wi : TI} {g : TG} {es : List PyData} (s : Sta K B O G σ H) (hI : EvI K B O G wi es) (P : Nat → Hp → Hp → List SD → Prop) (mono : ∀ i B1 B2 O1 G1, Ex B1 B2 → P i B1 O1 G1 → P i B2 O1 G1)
    (h0 : P 0 B O G)
    (hs : ∀ i e B1 O1 G1 σ1 H1 v, es[i]? = some e → Ex B B1 → P i B1 O1 G1 → Sta K B1 O1 G1 σ1 H1 → Dt K B1 v e → ∀ N : L2.St → Hp → Prop, (∀ B' O' G' σ' H', Ex B1 B' → P (i + 1) B' O' G' → Sta K B' O' G' σ' H' → N σ' H') → g v σ1 H1 fun σ2 H2 => tu { D with nx := N, ct := N, bk := D.nx } σ2 H2)
    (hd : ∀ B1 O1 G1 σ1 H1, Ex B B1 → P es.length B1 O1 G1 → Sta K B1 O1 G1 σ1 H1 → D.nx σ1 H1) : tFor wi g tu D σ H := by
  refine hI B O σ H (Ex.refl _) (Ex.refl _) s _ fun J B2 H2 e2 w2 gv => ?_
  obtain ⟨n, G0, Y, hn, wk, hG0, hY⟩ := gv
  refine for_it wk (fun i σ' H' => ∃ B' O' G', Ex B2 B' ∧ P i B' O' G' ∧ Sta K B' O' G' σ' H') ⟨B2, O, G, Ex.refl _, mono _ _ _ _ _ e2 h0, s.ex e2 w2⟩ (fun i σ' H' _ ⟨B', O', G', e', p', s'⟩ => hG0 B' O' H' e' s'.w) ?_ ?_
  · rintro i x σ' H3 H4 hi ⟨B3, O3, G3, e3, p3, s3⟩ y
    obtain ⟨e, B4, hie, e4, w4, dx⟩ := hY i H3 x H4 B3 _ e3 s3.w hi y
    refine hs i e B4 O3 G3 σ' H4 x hie ((e2.trans e3).trans e4) (mono _ _ _ _ _ e4 p3) ⟨w4, s3.s.ex e4⟩ dx _ fun B' O' G' σ2 H5 e5 p5 s5 => ⟨B', O', G', (e3.trans e4).trans e5, p5, s5⟩
  · rintro σ' H3 ⟨B3, O3, G3, e3, p3, s3⟩
    exact hd B3 O3 G3 σ' H3 (e2.trans e3) (by rw [← hn]; exact p3) s3
theorem q_for {wi : TI} {g : TG} {es : List PyData} (s : Sta K B O G σ H) (hI : EvI K B O G wi es) (P : Nat → Hp → Hp → List SD → Prop) (mono : ∀ i B1 B2 O1 G1, Ex B1 B2 → P i B1 O1 G1 → P i B2 O1 G1)
    (h0 : P 0 B O G)
    (hs : ∀ i e B1 O1 G1 σ1 H1 v, es[i]? = some e → Ex B B1 → P i B1 O1 G1 → Sta K B1 O1 G1 σ1 H1 → Dt K B1 v e → ∀ N : L2.St → Hp → Prop, (∀ B' O' G' σ' H', Ex B1 B' → P (i + 1) B' O' G' → Sta K B' O' G' σ' H' → N σ' H') → g v σ1 H1 fun σ2 H2 => tu { D with nx := N, ct := N, bk := tz D } σ2 H2)
    (hd : ∀ B1 O1 G1 σ1 H1, Ex B B1 → P es.length B1 O1 G1 → Sta K B1 O1 G1 σ1 H1 → tz D σ1 H1) : tSeq (tFor wi g tu) tz D σ H := s_for (D := { D with nx := tz D }) s hI P mono h0 hs hd
end

/-! ### defs -/
/-- the promise of a def of data: R tells the arguments and the answer -/
def SpR (K : PySem.W.Frag) (R : List PyData → PyData → Prop) : Sp := fun vs H Q _ => ∃ B O ds d, W B O H ∧ DtAll K B vs ds ∧ R ds d ∧ ∀ v B' H', Ex B B' → W B' O H' → Dt K B' v d → Q v H'
section
variable {K : PySem.W.Frag} {B O : Hp} {G : List SD} {R : List PyData → PyData → Prop} {ds : List PyData} {d : PyData} {t : TA} {E : XK}
theorem ev_call (h : EvA K B O G t ds) (hr : R ds d) : EvD K B O G (tCall (SpR K R) [] E t) d := fun B1 O1 σ H e o s Q q =>
  h B1 O1 σ H e o s _ fun vs B2 H2 e2 w2 d2 => by
    rw [List.append_nil]
    exact ⟨B2, O1, ds, d, w2, d2, hr, fun v B3 H3 e3 w3 d3 => q v B3 H3 (e2.trans e3) w3 d3⟩
end
def gOf (ds : List PyData) (n : Nat) : List SD := ds.map SD.dat ++ List.replicate n .un
theorem slots_start {K : PySem.W.Frag} {B : Hp} : ∀ {vs : List V} {ds : List PyData}, DtAll K B vs ds → ∀ n, Slots K B (vs.map some ++ List.replicate n none) (gOf ds n)
  | _, _, .nil, 0 => trivial
  | _, _, .nil, n + 1 => ⟨trivial, slots_start (ds := []) .nil n⟩
  | _, _, .cons h t, n => ⟨⟨_, rfl, h⟩, slots_start t n⟩
section
variable {P : Program} {w : World} {K : PySem.W.Frag} {mg : Str → Option Value} {base : Heap}
theorem ok_fn {x qual : Str} {st : Stmt} {f : Addr} {fd : FuncData} {N ps : List Str} {k : Nat} {R : List PyData → PyData → Prop} (F : Fun K x qual st f fd) (S : FnScope N ps (defScope st)) (hl : ∀ ds d, R ds d → ds.length = ps.length)
    (hb : ∀ (cdv : Value) (A : Around) (outer : List Env) (s : Shared) (H0 : Hp) (E : XK), Room k (A.deeper (envOfC qual (defScope st) s.heap.objs.size f cdv)) → ∀ ds d, R ds d →
      ∃ t, PSs (cxOf CX0 P w K mg base N qual (defScope st) f cdv A outer s H0 E).nox (defBody st) t ∧
        ∀ B O σ H (Q : VK), Sta K B O (gOf ds (N.length - ps.length)) σ H → (∀ v B' H', Ex B B' → W B' O H' → Dt K B' v d → Q v H') → t { nx := fun _ H' => Q .non H', rt := Q } σ H) :
    FnOk P w K mg base CX0 (k + 1) f fd ps (SpR K R) := by
  refine F.ok S (fun vs H Q E h => ?_) (fun cdv A outer s H vs Q E hr h => ?_)
  · obtain ⟨B, O, ds, d, _, h2, h3, _⟩ := h
    rw [dps_len h2]
    exact hl ds d h3
  · obtain ⟨B, O, ds, d, h1, h2, h3, k⟩ := h
    obtain ⟨t, ht, hq⟩ := hb cdv A outer s H E hr ds d h3
    refine ⟨t, ht, hq B O _ H Q ⟨h1, ?_⟩ k⟩
    have e := slots_start h2 (N.length - ps.length)
    have hl' : vs.length = ps.length := by rw [dps_len h2]; exact hl ds d h3
    unfold L2.start
    rw [hl']
    exact e
/-- a def that stands at its name, and its promise -/
structure Cal (P : Program) (w : World) (K : PySem.W.Frag) (mg : Str → Option Value) (base : Heap) (k : Nat) (x : Str) (ps : List Str) (sp : Sp) : Prop where
  ex : ∃ f fd, FnOk P w K mg base CX0 k f fd ps sp ∧ mg x = some (.ref f) ∧ PySem.W.keepIn K (.ref f) = true ∧ Binds K fd ps []
/-- where a def of the text stands -/
structure At (K : PySem.W.Frag) (mg : Str → Option Value) (x : Str) (st : Stmt) (ps : List Str) (f : Addr) (fd : FuncData) : Prop where
  fn : Fun K x x st f fd
  mg : mg x = some (.ref f)
  bi : Binds K fd ps []
theorem At.cal {x : Str} {st : Stmt} {ps : List Str} {f : Addr} {fd : FuncData} {k : Nat} {sp : Sp} (a : At K mg x st ps f fd) (h : FnOk P w K mg base CX0 k f fd ps sp) : Cal P w K mg base k x ps sp := ⟨f, fd, h, a.mg, a.fn.kp, a.bi⟩
end
theorem pe_cal {X : Cx} {x : Str} {ps : List Str} {sp : Sp} {k j : Nat} {p pos : Pos} {e : Expr} {es : List Expr} {t : TA} (C : Cal X.prog X.w X.K X.mg X.base k x ps sp) (hr : Room j X.A) (hk : k ≤ j) (hg : Gl X x) (ha : PA X (e :: es) t) (hd : (x == ("__debug__" : Str)) = false := by decide)
    (he : starEach (e :: es) X.env = (false, eval e X.env) :: starEach es X.env := by rfl) (hpl : (backTo pos (starEach es X.env)).any (·.1) = false := by rfl) :
    PE X (.Call (.Name x p) (e :: es) [] pos) (tCall sp [] E0 t) := by
  obtain ⟨f, fd, h1, h2, h3, h4⟩ := C.ex
  exact pe_call (h1.mono hk) hr hg h2 h3 h4 .nil pass0 ha hd he hpl
end DL

set_option Elab.async false
set_option linter.all false
set_option maxRecDepth 100000
set_option maxHeartbeats 2000000
/-! The rules that name the written part, with it told. -/
namespace DL
open PySem PySem.Spec PyProof.Rows L2 StX
section
variable (K : PySem.W.Frag) {X : Cx}
theorem ix_tupK (h : X.K = K := by rfl) : IxR X (rIxT K) := h ▸ ix_tup
theorem ix_listK (h : X.K = K := by rfl) : IxR X (rIxL K) := h ▸ ix_list
theorem op_inK (h : X.K = K := by rfl) : OpR X (compareOp .In) (rIn K false) := h ▸ op_in_seq
theorem op_notInK (h : X.K = K := by rfl) : OpR X (compareOp .NotIn) (rIn K true) := h ▸ op_notIn_seq
theorem op_eqDK (hu : X.A.units + 64 < cLine) (h : X.K = K := by rfl) : OpR X (compareOp .Eq) (rEqD K) := h ▸ op_eqD hu
theorem op_neDK (hu : X.A.units + 64 < cLine) (h : X.K = K := by rfl) : OpR X (compareOp .NotEq) (rNeD K) := h ▸ op_neD hu
theorem op_catAK (h : X.K = K := by rfl) : OpR X (binaryOp .Add) (rCatA K) := h ▸ op_catA
theorem sl_tupAK (h : X.K = K := by rfl) : SlR X (rSlA K) := h ▸ sl_tupA
theorem sl_listK (h : X.K = K := by rfl) : SlR X (rSlL K) := h ▸ sl_list
theorem call_lenK (h : X.K = K := by rfl) : CallR X (.builtin "len") (fun xs H Q => ∃ p ys, xs = [.ref p] ∧ (SqL K H p ys ∨ SqT K H p ys) ∧ Q (.int ys.length) H) := h ▸ call_len_seq
theorem call_listK (h : X.K = K := by rfl) : CallR X (.type "list") (fun xs H Q => ∃ p ys, xs = [.ref p] ∧ (SqL K H p ys ∨ SqT K H p ys) ∧ ∀ l, H l = none → Q (.ref l) (upd H l (.lst ys))) := h ▸ call_list_of
theorem call_tupleK (h : X.K = K := by rfl) : CallR X (.type "tuple") (fun xs H Q => ∃ p ys, xs = [.ref p] ∧ ((SqL K H p ys ∧ ∀ l, H l = none → Q (.ref l) (upd H l (.tup ys))) ∨ (SqT K H p ys ∧ Q (.ref p) H))) := h ▸ call_tuple_of
theorem cr_sumK (hc : X.calm = true) (h : X.K = K := by rfl) : CallR X (.builtin "sum") (rSum K) := h ▸ cr_sum hc
theorem cr_allK (hc : X.calm = true) (h : X.K = K := by rfl) : CallR X (.builtin "all") (rAll K) := h ▸ cr_all hc
theorem cr_anyK (hc : X.calm = true) (h : X.K = K := by rfl) : CallR X (.builtin "any") (rAny K) := h ▸ cr_any hc
theorem pi_listK {e tg : Expr} {te : TE} (he : PE X e te) (h : X.K = K := by rfl) : PI X tg e (iList K te) := h ▸ pi_list he
theorem pi_tupK {e tg : Expr} {te : TE} (he : PE X e te) (h : X.K = K := by rfl) : PI X tg e (iTup K te) := h ▸ pi_tup he
theorem pg_tupK {es : List Expr} {t : TGs} {kk n : Nat} {pos : Pos} (hc : X.calm = true) (hts : PGs X es t) (h : X.K = K := by rfl) (hn : (assignEach es X.env).length = n := by rfl) (hst : (assignEach es X.env).findIdx? (·.1) = none := by rfl) :
    PG X (.Tuple es kk pos) (gTup K n t) := h ▸ pg_tup hc hts hn hst
theorem pa_starK {e : Expr} {es : List Expr} {te : TE} {t : TA} {p : Pos} (he : PE X e te) (hr : PA X es t) (h : X.K = K := by rfl) (hs : starEach (.Starred e p :: es) X.env = (true, eval e X.env) :: starEach es X.env := by rfl) : PA X (.Starred e p :: es) (tStar K te t) := h ▸ pa_star he hr hs
theorem pi_enumK {e : Expr} {ta : TA} {p pos tpos : Pos} {elts : List Expr} {kk : Nat} (hg : Gl X "enumerate") (hm : X.mg "enumerate" = none) (ha : PA X [e] ta) (h : X.K = K := by rfl) (hs : starEach [e] X.env = [(false, eval e X.env)] := by rfl) :
    PI X (.Tuple elts kk tpos) (.Call (.Name "enumerate" p) [e] [] pos) (iEnum K ta) := h ▸ pi_enum hg hm ha hs
end
section
variable {K : PySem.W.Frag} {α : Type} {x y z : α} {xs : List α}
theorem at0 : atI (x :: xs) 0 = some x := by
  have h : (0 : Int) < (xs.length : Int) + 1 := by omega
  simp [atI, ixN, h]
theorem at1 : atI (x :: y :: xs) 1 = some y := by
  have h : (1 : Int) < (xs.length : Int) + 1 + 1 := by omega
  simp [atI, ixN, h]
theorem at2 : atI (x :: y :: z :: xs) 2 = some z := by
  have h : (2 : Int) < (xs.length : Int) + 1 + 1 + 1 := by omega
  simp [atI, ixN, h]
theorem at_last : atI (xs ++ [x]) (-1) = some x := by
  have h1 : ¬ (0 : Int) ≤ -1 := by omega
  have h2 : (-1 + ((xs.length : Int) + 1)).toNat = xs.length := by omega
  have h3 : -((xs.length : Int) + 1) ≤ -1 := by omega
  simp [atI, ixN, h2, h3]
end
end DL
namespace DL
open PySem PySem.Spec PyProof.Rows L2 StX
section
variable {K : PySem.W.Frag} {B O : Hp} {G : List SD} {wi : TI} {g : TG} {tt : TT} {te : TE} {vs : List Nat} {es : List PyData}
theorem EvL.d {te : TE} {ds : List PyData} (h : EvL K B O G te ds) : EvD K B O G te (.list ds) := fun B1 O1 σ H e1 o s Q q => h B1 O1 σ H e1 o s _ fun p ws B' H' e' hp w' da =>
  q _ (upd B' p (.lst ws)) H' (e'.trans (Ex.new (w'.bnone upd_same))) (w'.give hp) (.lst upd_same (dps_ex (Ex.new (w'.bnone upd_same)) _ _ da))
/-- a comprehension over typed things, with a test -/
theorem el_lcT {α : Type} (xs : List α) (en : α → PyData) (f : α → Bool) (v : α → PyData) (Gi : α → List SD) (hI : EvI K B O G wi (xs.map en)) (hz : xs.length ≤ 100000)
    (hg : ∀ x, x ∈ xs → EvG K (RW vs) g (wipeG G vs) (en x) (Gi x)) (ht : ∀ x, x ∈ xs → EvT K B O (Gi x) tt (f x)) (he : ∀ x, x ∈ xs → f x = true → EvD K B O (Gi x) te (v x)) :
    EvL K B O G (tLc wi g tt te vs) ((xs.filter f).map v) := fun B1 O1 σ H e1 o s Q q => by
  refine hI B1 O1 σ H e1 o s _ fun J B2 H2 e2 w2 gv D hD => ?_
  obtain ⟨n, G0, Y, hn, wk, hG0, hY⟩ := gv
  have oD : O1 D = none := w2.fo hD
  refine lc_it wk (fun i H' => ∃ B' acc, Ex B2 B' ∧ W B' (upd O1 D (.lst acc)) H' ∧ DtAll K B' acc (((xs.take i).filter f).map v))
    ⟨B2, [], Ex.refl _, w2.newO hD, by simp; exact .nil⟩ (fun i H' _ ⟨B', acc, e', w', _⟩ => hG0 B' _ H' e' w') ?_ ?_
  · rintro i x H3 H4 hi ⟨B3, acc, e3, w3, da⟩ y
    obtain ⟨e, B4, hie, e4, w4, dx⟩ := hY i H3 x H4 B3 _ e3 w3 hi y
    rw [List.getElem?_map] at hie
    obtain ⟨c, hic, hce⟩ : ∃ c, xs[i]? = some c ∧ en c = e := by
      cases hx : xs[i]? with
      | none => rw [hx] at hie; cases hie
      | some c => rw [hx] at hie; exact ⟨c, rfl, Option.some.inj hie⟩
    subst hce
    have hm : c ∈ xs := List.mem_of_getElem? hic
    have s4 : Sta K B4 (upd O1 D (.lst acc)) (wipeG G vs) (L2.wipe σ vs) H4 := ⟨w4, (s.s.ex ((e2.trans e3).trans e4)).wipe vs⟩
    have hOD : Ex O (upd O1 D (.lst acc)) := o.trans (Ex.new oD)
    refine hg c hm B4 _ _ H4 x s4 dx _ fun σ' s5 r5 => ⟨r5.trans wipe_wipe, ?_⟩
    have hlen : acc.length ≤ 100000 := by
      rw [dps_len da, List.length_map]
      have h1 := List.length_filter_le f (xs.take i)
      have h2 : (xs.take i).length ≤ xs.length := List.length_take_le' i xs
      omega
    refine ht c hm B4 _ σ' H4 (e1.trans ((e2.trans e3).trans e4)) hOD s5 _ fun B5 H5 e5 w5 => ?_
    have htk : xs.take (i + 1) = xs.take i ++ [c] := by
      rw [List.take_add_one, hic]
      rfl
    cases hf : f c with
    | true =>
      show te σ' H5 _
      refine he c hm hf B5 _ σ' H5 (e1.trans (((e2.trans e3).trans e4).trans e5)) hOD (s5.ex e5 w5) _ fun u B6 H6 e6 w6 d6 => ?_
      refine ⟨acc, w6.o D _ upd_same, Nat.lt_of_le_of_lt hlen (by decide), B6, acc ++ [u], ((e3.trans e4).trans e5).trans e6, ?_, ?_⟩
      · have := w6.mut (v := .lst (acc ++ [u])) upd_same
        rw [upd_upd] at this
        exact this
      · rw [htk, List.filter_append, List.map_append]
        refine dps_app (dps_ex ((e4.trans e5).trans e6) _ _ da) ?_
        simp [hf]
        exact dps_one d6
    | false =>
      show ∃ B' acc, _
      refine ⟨B5, acc, (e3.trans e4).trans e5, w5, ?_⟩
      rw [htk, List.filter_append, List.map_append]
      simp [hf]
      have := dps_ex (e4.trans e5) _ _ da
      simpa using this
  · rintro H3 ⟨B3, acc, e3, w3, da⟩
    rw [hn, List.length_map, List.take_length] at da
    exact q D acc B3 H3 (e2.trans e3) oD w3 da
theorem ev_lcT {α : Type} (xs : List α) (en : α → PyData) (f : α → Bool) (v : α → PyData) (Gi : α → List SD) (hI : EvI K B O G wi (xs.map en)) (hz : xs.length ≤ 100000)
    (hg : ∀ x, x ∈ xs → EvG K (RW vs) g (wipeG G vs) (en x) (Gi x)) (ht : ∀ x, x ∈ xs → EvT K B O (Gi x) tt (f x)) (he : ∀ x, x ∈ xs → f x = true → EvD K B O (Gi x) te (v x)) :
    EvD K B O G (tLc wi g tt te vs) (.list ((xs.filter f).map v)) := (el_lcT xs en f v Gi hI hz hg ht he).d
theorem el_map {α : Type} (xs : List α) (en : α → PyData) (v : α → PyData) (Gi : α → List SD) (hI : EvI K B O G wi (xs.map en)) (hz : xs.length ≤ 100000)
    (hg : ∀ x, x ∈ xs → EvG K (RW vs) g (wipeG G vs) (en x) (Gi x)) (he : ∀ x, x ∈ xs → EvD K B O (Gi x) te (v x)) :
    EvL K B O G (tLc wi g tYes te vs) (xs.map v) := by
  have h := el_lcT (K := K) (B := B) (O := O) (G := G) (wi := wi) (g := g) (tt := tYes) (te := te) (vs := vs) xs en (fun _ => true) v Gi hI hz hg (fun _ _ => et_yes) (fun x hx _ => he x hx)
  rw [List.filter_eq_self.mpr (by simp)] at h
  exact h
theorem ev_map {α : Type} (xs : List α) (en : α → PyData) (v : α → PyData) (Gi : α → List SD) (hI : EvI K B O G wi (xs.map en)) (hz : xs.length ≤ 100000)
    (hg : ∀ x, x ∈ xs → EvG K (RW vs) g (wipeG G vs) (en x) (Gi x)) (he : ∀ x, x ∈ xs → EvD K B O (Gi x) te (v x)) :
    EvD K B O G (tLc wi g tYes te vs) (.list (xs.map v)) := by
  have h := ev_lcT (K := K) (B := B) (O := O) (G := G) (wi := wi) (g := g) (tt := tYes) (te := te) (vs := vs) xs en (fun _ => true) v Gi hI hz hg (fun _ _ => et_yes) (fun x hx _ => he x hx)
  rw [List.filter_eq_self.mpr (by simp)] at h
  exact h
end
theorem SpR_false {P : Program} {w : World} {K : PySem.W.Frag} {mg : Str → Option Value} {base : Heap} {k : Nat} {f : Addr} {fd : FuncData} {ps : List Str} {R : List PyData → PyData → Prop} (h : ∀ ds d, ¬ R ds d) : FnOk P w K mg base CX0 k f fd ps (SpR K R) :=
  ⟨fun _ _ _ _ ⟨_, _, ds, d, _, _, r, _⟩ => (h ds d r).elim, fun _ _ _ _ _ _ _ _ _ _ _ _ _ ⟨_, _, ds, d, _, _, r, _⟩ => (h ds d r).elim⟩
/-- the same promise told by less -/
theorem SpR_imp {P : Program} {w : World} {K : PySem.W.Frag} {mg : Str → Option Value} {base : Heap} {k : Nat} {f : Addr} {fd : FuncData} {ps : List Str} {R R' : List PyData → PyData → Prop} (F : FnOk P w K mg base CX0 k f fd ps (SpR K R)) (h : ∀ ds d, R' ds d → R ds d) : FnOk P w K mg base CX0 k f fd ps (SpR K R') :=
  F.imp fun _ _ _ _ ⟨B, O, ds, d, a, b, c, e⟩ => ⟨B, O, ds, d, a, b, h _ _ c, e⟩
/-- the promise of a def that hands back a new list -/
def SpL (K : PySem.W.Frag) (R : List PyData → List PyData → Prop) : Sp := fun vs H Q _ => ∃ B O ds es, W B O H ∧ DtAll K B vs ds ∧ R ds es ∧ ∀ p ws B' H', Ex B B' → O p = none → W B' (upd O p (.lst ws)) H' → DtAll K B' ws es → Q (.ref p) H'
section
variable {K : PySem.W.Frag} {B O : Hp} {G : List SD} {R : List PyData → List PyData → Prop} {ds es : List PyData} {t : TA} {E : XK} {te : TE} {D : Ends} {σ : L2.St} {H : Hp}
theorem el_call (h : EvA K B O G t ds) (hr : R ds es) : EvL K B O G (tCall (SpL K R) [] E t) es := fun B1 O1 σ H e o s Q q =>
  h B1 O1 σ H e o s _ fun vs B2 H2 e2 w2 d2 => by
    rw [List.append_nil]
    exact ⟨B2, O1, ds, es, w2, d2, hr, fun p ws B3 H3 e3 hp w3 d3 => q p ws B3 H3 (e2.trans e3) hp w3 d3⟩
theorem el_listT {te : TE} (h : EvD K B O G te (.tuple ds)) : EvL K B O G (tCB (fun xs H Q => ∃ p ys, xs = [.ref p] ∧ (SqL K H p ys ∨ SqT K H p ys) ∧ ∀ l, H l = none → Q (.ref l) (upd H l (.lst ys))) (tCons te tNil)) ds := fun B1 O1 σ H e o s Q q =>
  h B1 O1 σ H e o s _ fun v B2 H2 e2 w2 d2 => by
    obtain ⟨a, xs, rfl, k1, k2⟩ := dp_tup d2
    exact ⟨a, xs, rfl, .inr (st_ex w2.b k1), fun l hl => q l xs B2 _ e2 (w2.fo hl) (w2.newO hl) k2⟩
theorem s_retL (s : Sta K B O G σ H) (h : EvL K B O G te es) (k : ∀ p ws B' H', Ex B B' → O p = none → W B' (upd O p (.lst ws)) H' → DtAll K B' ws es → D.rt (.ref p) H') : tRet te D σ H :=
  h B O σ H (Ex.refl _) (Ex.refl _) s _ fun p ws B' H' e hp w dv => k p ws B' H' e hp w dv
end
section
variable {P : Program} {w : World} {K : PySem.W.Frag} {mg : Str → Option Value} {base : Heap}
theorem ok_fnL {x qual : Str} {st : Stmt} {f : Addr} {fd : FuncData} {N ps : List Str} {k : Nat} {R : List PyData → List PyData → Prop} (F : Fun K x qual st f fd) (S : FnScope N ps (defScope st)) (hl : ∀ ds d, R ds d → ds.length = ps.length)
    (hb : ∀ (cdv : Value) (A : Around) (outer : List Env) (s : Shared) (H0 : Hp) (E : XK), Room k (A.deeper (envOfC qual (defScope st) s.heap.objs.size f cdv)) → ∀ ds es, R ds es →
      ∃ t, PSs (cxOf CX0 P w K mg base N qual (defScope st) f cdv A outer s H0 E).nox (defBody st) t ∧
        ∀ B O σ H (Q : VK), Sta K B O (gOf ds (N.length - ps.length)) σ H → (∀ p ws B' H', Ex B B' → O p = none → W B' (upd O p (.lst ws)) H' → DtAll K B' ws es → Q (.ref p) H') → t { nx := fun _ H' => Q .non H', rt := Q } σ H) :
    FnOk P w K mg base CX0 (k + 1) f fd ps (SpL K R) := by
  refine F.ok S (fun vs H Q E h => ?_) (fun cdv A outer s H vs Q E hr h => ?_)
  · obtain ⟨B, O, ds, d, _, h2, h3, _⟩ := h
    rw [dps_len h2]
    exact hl ds d h3
  · obtain ⟨B, O, ds, d, h1, h2, h3, k⟩ := h
    obtain ⟨t, ht, hq⟩ := hb cdv A outer s H E hr ds d h3
    refine ⟨t, ht, hq B O _ H Q ⟨h1, ?_⟩ k⟩
    have e := slots_start h2 (N.length - ps.length)
    have hl' : vs.length = ps.length := by rw [dps_len h2]; exact hl ds d h3
    unfold L2.start
    rw [hl']
    exact e
end
theorem SpL_false {P : Program} {w : World} {K : PySem.W.Frag} {mg : Str → Option Value} {base : Heap} {k : Nat} {f : Addr} {fd : FuncData} {ps : List Str} {R : List PyData → List PyData → Prop} (h : ∀ ds d, ¬ R ds d) : FnOk P w K mg base CX0 k f fd ps (SpL K R) :=
  ⟨fun _ _ _ _ ⟨_, _, ds, d, _, _, r, _⟩ => (h ds d r).elim, fun _ _ _ _ _ _ _ _ _ _ _ _ _ ⟨_, _, ds, d, _, _, r, _⟩ => (h ds d r).elim⟩
theorem at_nn {α : Type} {xs : List α} {i : Int} {x : α} (hi : 0 ≤ i) (h : xs[i.toNat]? = some x) : atI xs i = some x := by
  have hl : i.toNat < xs.length := (List.getElem?_eq_some_iff.mp h).1
  have h2 : i < xs.length := by omega
  unfold atI ixN
  rw [if_pos hi, if_pos h2]
  exact h
theorem ix_nn {n : Nat} {i : Int} (hi : 0 ≤ i) (h : i.toNat < n) : ixN n i = some i.toNat := by
  have h2 : i < n := by omega
  unfold ixN
  rw [if_pos hi, if_pos h2]
theorem enum_inv {es : List PyData} {i : Nat} {e : PyData} (h : (enumD es)[i]? = some e) : ∃ x, es[i]? = some x ∧ e = .tuple [.int i, x] := by
  have hi : i < es.length := by
    have := (List.getElem?_eq_some_iff.mp h).1
    rwa [enumD_len] at this
  have h2 : es[i]? = some es[i] := List.getElem?_eq_getElem hi
  rw [enumD_get h2] at h
  exact ⟨es[i], h2, (Option.some.inj h).symm⟩
theorem range_inv {lo : Int} {n i : Nat} {e : PyData} (h : (rangeD lo n)[i]? = some e) : i < n ∧ e = .int (lo + i) := by
  have hi : i < n := by
    have := (List.getElem?_eq_some_iff.mp h).1
    rwa [rangeD_len] at this
  rw [rangeD_get hi] at h
  exact ⟨hi, (Option.some.inj h).symm⟩
theorem map_inv {α β : Type} {xs : List α} {f : α → β} {i : Nat} {y : β} (h : (xs.map f)[i]? = some y) : ∃ x, xs[i]? = some x ∧ y = f x := by
  rw [List.getElem?_map] at h
  cases hx : xs[i]? with
  | none => rw [hx] at h; cases h
  | some x => rw [hx] at h; exact ⟨x, rfl, (Option.some.inj h).symm⟩
section
variable {K : PySem.W.Frag} {B O : Hp} {G : List SD} {σ : L2.St} {H : Hp} {D : Ends} {i : Nat}
theorem s_retOL {l : Addr} {vs : List V} {O0 : Hp} (s : Sta K B O G σ H) (hg : G[i]? = some (.val (.ref l))) (ho : O = upd O0 l (.lst vs)) (k : W B (upd O0 l (.lst vs)) H → D.rt (.ref l) H) : tRet (tVar i) D σ H := by
  subst ho
  obtain ⟨sv, h1, h2⟩ := s.s.get hg
  have h3 : sv = some (.ref l) := h2
  subst h3
  exact ⟨_, h1, k s.w⟩
end
theorem cut_init {xs : List PyData} {x : PyData} : cutX (xs ++ [x]) none (some (-1)) = xs := by
  have h : HT.sIx (xs ++ [x]).length (xs ++ [x]).length (some (-1)) = xs.length := by
    show (if (-1 : Int) < 0 then ((-1 : Int) + ((xs ++ [x]).length : Int)).toNat else min (-1 : Int).toNat (xs ++ [x]).length) = _
    rw [if_pos (by decide), List.length_append]
    simp
    omega
  unfold cutX
  rw [h, HT.sIx_none]
  simp
theorem cut_tail {xs : List PyData} {x : PyData} : cutX (x :: xs) (some 1) none = xs := by
  have h : HT.sIx (x :: xs).length 0 (some 1) = 1 := by
    have h2 := HT.sIx_nat (x :: xs).length 0 1
    have h3 : min 1 (x :: xs).length = 1 := by simp
    rw [h3] at h2
    exact h2
  unfold cutX
  rw [h, HT.sIx_none]
  simp
end DL

set_option Elab.async false
set_option linter.all false
set_option maxRecDepth 100000
set_option maxHeartbeats 2000000
/-! zip of a tuple and a list. -/
namespace DL
open PySem PySem.Spec PyProof.Rows L2 StX
def ItM (K : PySem.W.Frag) (a b : Addr) : It where
  go := fun i H => ∃ (xs ys : List V) (x y : V), (SqT K H a xs ∧ SqL K H b ys) ∧ xs[i]? = some x ∧ ys[i]? = some y
  yld := fun i H v H' => ∃ T x y, (v = .ref T ∧ H T = none ∧ H' = upd H T (.tup [x, y])) ∧ (∀ xs, SqT K H a xs → xs[i]? = some x) ∧ (∀ ys, SqL K H b ys → ys[i]? = some y)
  stop := fun i H => ∃ xs ys : List V, (SqT K H a xs ∧ SqL K H b ys) ∧ i ≤ xs.length ∧ i ≤ ys.length ∧ (i = xs.length ∨ i = ys.length)
structure StM (a b z TI TO i1 i2 : Addr) (i : Nat) (h : Heap) : Prop where
  z : IsZip h z TI TO .none
  ti : IsTupOf2 h TI (.ref i1) (.ref i2)
  to : ∃ x y, IsTupOf2 h TO x y
  t1 : h.IsTupleIter i1 a i
  t2 : h.IsListIter i2 b i
theorem StM.lt {a b z TI TO i1 i2 : Addr} {i : Nat} {h : Heap} (s : StM a b z TI TO i1 i2 i h) : ∀ c, c ∈ [z, TI, TO, i1, i2] → ∃ o, h.get? c = some o ∧ ∀ v, o.data ≠ .cell v := fun c hc => by
  obtain ⟨hz, hti, ⟨x, y, hto⟩, ⟨o1, e1, _, d1⟩, ⟨o2, e2, _, d2⟩⟩ := s
  simp only [List.mem_cons, List.not_mem_nil, or_false] at hc
  rcases hc with e | e | e | e | e <;> subst e
  · exact ⟨_, hz, fun v => nofun⟩
  · exact ⟨_, hti, fun v => nofun⟩
  · exact ⟨_, hto, fun v => nofun⟩
  · exact ⟨o1, e1, fun v q => by rw [d1] at q; cases q⟩
  · exact ⟨o2, e2, fun v q => by rw [d2] at q; cases q⟩
theorem turnM {P : Program} {w : World} {K : PySem.W.Frag} {elts : List Expr} {kk : Nat} {tpos : Pos} {a b z TI TO i1 i2 : Addr} (S : ZipSep2 z TI TO i1 i2 [i1, a] [i2, b]) (n1 : a ≠ i1) (n2 : b ≠ i2) :
    Turn P w K (.Tuple elts kk tpos) (ItM K a b) [z, TI, TO, i1, i2] z (fun i h => StM a b z TI TO i1 i2 i h) := by
  refine ⟨by simp, fun i h st c hc => ?_, fun i h h' st k => ?_, ?_, ?_, fun A i s Q E st h => wpAny_pyIter_zip st.z h⟩
  · obtain ⟨o, ho, hd⟩ := st.lt c hc
    exact ⟨o, ho, hd⟩
  · obtain ⟨hz, hti, ⟨x, y, hto⟩, h1, h2⟩ := st
    exact ⟨k z (by simp) _ hz, k TI (by simp) _ hti, ⟨x, y, k TO (by simp) _ hto⟩, h1.at fun o e => k i1 (by simp) o e, h2.at fun o e => k i2 (by simp) o e⟩
  · intro X hP hw hK hc i pins s σ H E I hf st hg
    subst hP hw hK
    have lts := st.lt
    obtain ⟨hz, hti, ⟨x0, y0, hto⟩, h1, h2⟩ := st
    obtain ⟨xs, ys, x, y, ⟨hqx, hqy⟩, hx, hy⟩ := hg
    obtain ⟨its, rv, p1, _⟩ := I.tuple hqx
    obtain ⟨its2, rv2, p2, _⟩ := I.list hqy
    have hl1 := rv.length
    have hl2 := rv2.length
    have hi1 : i < its.toArray.size := by
      have := (List.getElem?_eq_some_iff.mp hx).1
      simp
      omega
    have hi2 : i < its2.toArray.size := by
      have := (List.getElem?_eq_some_iff.mp hy).1
      simp
      omega
    have hzl : z < s.heap.objs.size := Heap.lt_size hz
    have hh := I.ok.hd hc
    refine wpAny_pyNext_zipD2_item S (Draws.tuple (A := X.A.in1) hh i1 a n1 its.toArray) (Draws.list (A := X.A.in1) hh i2 b n2 its2.toArray) hz hti hto ⟨h1, p1⟩ ⟨h2, p2.isList⟩ hi1 hi2 fun u u2 h' tk hu hu2 z' to' st1 st2 hT hsz hk => ?_
    have ru : RelV x u := by
      obtain ⟨q, hq, r⟩ := rv.get hx
      have e : its.toArray[i]? = some u := hu
      simp only [List.getElem?_toArray] at e
      rw [hq] at e
      cases e
      exact r
    have ru2 : RelV y u2 := by
      obtain ⟨q, hq, r⟩ := rv2.get hy
      have e : its2.toArray[i]? = some u2 := hu2
      simp only [List.getElem?_toArray] at e
      rw [hq] at e
      cases e
      exact r
    refine ⟨_, rfl, wpAny_letOwnedTupleGo_zip (s := { s with heap := h', toks := tk }) z' fun g' zz sb => ?_⟩
    have hT2 : g'.get? s.heap.objs.size = some { cls := .type "tuple", data := .seq #[u, u2] } := (sb.2 _ (Nat.ne_of_gt hzl)).trans hT
    have new : ObjOk X.prog X.w (upd H s.heap.objs.size (.tup [x, y])) g' s.heap.objs.size (.tup [x, y]) := ⟨(by decide : 2 ≤ sizeLine), [u, u2], Paired.cons ru (Paired.cons ru2 Paired.nil), _, hT2, rfl, _, rfl⟩
    have J := I.turnedNew (h' := g') (t' := tk) (ch := [z, TI, TO, i1, i2]) (fun c o hb q => (sb.2 c (fun q' => hb (by simp [q']))).trans (hk c o (fun q' => hb (by simp [q'])) (fun q' => hb (by simp [q'])) (fun q' => hb (by simp [q'])) (fun q' => hb (by simp [q'])) q)) hf (Nat.le_refl _) new
    refine ⟨.ref s.heap.objs.size, _, J, rfl, ⟨_, x, y, ⟨rfl, I.hok.fresh (Nat.le_refl _), rfl⟩, fun l hl => ?_, fun l hl => ?_⟩, ⟨zz, ?_, ⟨u, u2, ?_⟩, ?_, ?_⟩, fun c hcm => ?_⟩
    · rw [I.tuple_inj hl hqx]
      exact hx
    · rw [I.list_inj hl hqy]
      exact hy
    · exact (sb.2 _ S.TIz).trans (hk _ _ S.TIz S.TITO S.TIi1 S.TIi2 hti)
    · exact (sb.2 _ S.TOz).trans to'
    · exact st1.1.at fun o q => (sb.2 _ S.zi1.symm).trans q
    · exact st2.1.at fun o q => (sb.2 _ S.zi2.symm).trans q
    · obtain ⟨o, ho, _⟩ := lts c hcm
      rw [upd_ne (Nat.ne_of_lt (Heap.lt_size ho))]
      exact (hf c hcm).1
  · intro X hP hw hK hc i pins s σ H E I hf st hg
    subst hP hw hK
    obtain ⟨hz, hti, ⟨x0, y0, hto⟩, h1, h2⟩ := st
    obtain ⟨xs, ys, ⟨hqx, hqy⟩, le1, le2, hend⟩ := hg
    obtain ⟨its, rv, p1, _⟩ := I.tuple hqx
    obtain ⟨its2, rv2, p2, _⟩ := I.list hqy
    have hl1 := rv.length
    have hl2 := rv2.length
    have hh := I.ok.hd hc
    have z1 : its.toArray.size = xs.length := by
      simp
      omega
    have z2 : its2.toArray.size = ys.length := by
      simp
      omega
    refine wpAny_pyNext_zipD2_end S (Draws.tuple (A := X.A.in1) hh i1 a n1 its.toArray) (Draws.list (A := X.A.in1) hh i2 b n2 its2.toArray) hz hti hto ⟨h1, p1⟩ ⟨h2, p2.isList⟩ (by omega) (by omega) (by omega) fun h' tk hk => ?_
    exact ⟨rfl, I.turnedL (t' := tk) (ch := [z, TI, TO, i1, i2]) (fun c o hb q => hk c o (fun q' => hb (by simp [q'])) (fun q' => hb (by simp [q'])) (fun q' => hb (by simp [q'])) (fun q' => hb (by simp [q'])) q) hf⟩
def iZipM (K : PySem.W.Frag) (ta : TA) : TI := fun σ H R => ta σ H fun vs H1 => ∃ a b xs ys, vs = [V.ref a, V.ref b] ∧ SqT K H1 a xs ∧ SqL K H1 b ys ∧ R (ItM K a b) H1
theorem pi_zipM (K : PySem.W.Frag) {X : Cx} {e e2 : Expr} {ta : TA} {p pos tpos : Pos} {elts : List Expr} {kk : Nat} (hg : Gl X "zip") (hm : X.mg "zip" = none) (ha : PA X [e, e2] ta) (hK : X.K = K := by rfl)
    (hs : starEach [e, e2] X.env = (false, eval e X.env) :: starEach [e2] X.env := by rfl) (hpl : (backTo pos (starEach [e2] X.env)).any (·.1) = false := by rfl) :
    PI X (.Tuple elts kk tpos) (.Call (.Name "zip" p) [e, e2] [] pos) (iZipM K ta) := by
  subst hK
  refine ⟨fun pins s σ H R I h => Call_ (ld_blt I hg hm PyProof.Rows.boot_zip (PyProof.Rows.callWith_type1 (thn (ha.run pos pins s σ H _ I h) fun us s1 ⟨vs, H1, I1, r1, q1⟩ => ?_) hs hpl))⟩
  obtain ⟨a, b, xs, ys, rfl, hqx, hqy, q⟩ := q1
  obtain ⟨u1, u2, rfl, r1, r2⟩ := vals2 r1
  cases r1
  cases r2
  obtain ⟨its, rv, p1, _⟩ := I1.tuple hqx
  obtain ⟨its2, rv2, p2, _⟩ := I1.list hqy
  have la : a < s1.heap.objs.size := by
    obtain ⟨o, ho, _⟩ := id p1
    exact Heap.lt_size ho
  have lb : b < s1.heap.objs.size := p2.lt
  refine zip_begins2 (begins_tuple a its.toArray) (begins_list b its2.toArray) p1 p2.isList fun h' hz hti hto g1 g2 hsz hk => wpAny_pyIter_zip hz ?_
  have J : Inv X pins σ H1 { s1 with heap := h' } := I1.kept (t' := s1.toks) hk
  have S : ZipSep2 (s1.heap.objs.size + 4) (s1.heap.objs.size + 2) (s1.heap.objs.size + 3) s1.heap.objs.size (s1.heap.objs.size + 1) [s1.heap.objs.size, a] [s1.heap.objs.size + 1, b] :=
    zip_sep2 (fp1 := [a]) (fp2 := [b]) (by simpa using la) (by simpa using lb)
  refine ⟨s1.heap.objs.size + 4, [s1.heap.objs.size + 4, s1.heap.objs.size + 2, s1.heap.objs.size + 3, s1.heap.objs.size, s1.heap.objs.size + 1], _, _, H1, rfl, J, turnM S (Nat.ne_of_lt la) (Nat.ne_of_lt (Nat.lt_succ_of_lt lb)),
    ⟨hz, hti, ⟨_, _, hto⟩, ⟨_, g1, rfl, rfl⟩, ⟨_, g2, rfl, rfl⟩⟩, fun c hcm => ?_, q⟩
  have hle : s1.heap.objs.size ≤ c := by
    simp only [List.mem_cons, List.not_mem_nil, or_false] at hcm
    rcases hcm with e' | e' | e' | e' | e' <;> (rw [e']; first | exact Nat.le_refl _ | exact Nat.le_add_right _ _)
  exact I1.fpOk hle (I1.hok.fresh hle)
section
variable {K : PySem.W.Frag} {B O : Hp} {G : List SD} {ta : TA} {es ds : List PyData}
def zipD (es ds : List PyData) : List PyData := (es.zip ds).map fun z => .tuple [z.1, z.2]
theorem ei_zipM (h : EvA K B O G ta [.tuple es, .list ds]) (hl : es.length = ds.length) : EvI K B O G (iZipM K ta) ((es.zip ds).map fun z => .tuple [z.1, z.2]) := fun B1 O1 σ H e1 o s R r => h B1 O1 σ H e1 o s _ fun vs B2 H2 e2 w2 d2 => by
  cases d2 with
  | cons d3 d4 =>
    cases d4 with
    | cons d5 d6 =>
      cases d6
      obtain ⟨a, xs, rfl, k1, k2⟩ := dp_tup d3
      obtain ⟨b, ys, rfl, k3, k4⟩ := dp_lst d5
      have l1 := dps_len k2
      have l2 := dps_len k4
      have hz : ((es.zip ds).map fun z => PyData.tuple [z.1, z.2]).length = xs.length := by
        rw [List.length_map, List.length_zip]
        omega
      refine ⟨a, b, xs, ys, rfl, st_ex w2.b k1, .inl (.inl (w2.b _ _ k3)), r _ B2 H2 e2 w2 ⟨xs.length, (fun H => SqT K H a xs ∧ SqL K H b ys), YPair (fun i => xs[i]?) (fun i => ys[i]?), hz.symm, ?_, fun B3 O3 H3 e3 w3 => ⟨st_ex (e3.trans w3.b) k1, .inl (.inl (w3.b _ _ (e3 _ _ k3)))⟩, fun i H3 x H4 B3 O3 e3 w3 hi y => ?_⟩⟩
      · refine ⟨fun i H3 hi q => ⟨xs, ys, xs[i], ys[i]'(by omega), q, by simp [hi], by simp [show i < ys.length by omega]⟩, fun H3 q => ⟨xs, ys, q, Nat.le_refl _, by omega, .inl rfl⟩, fun i H3 v H4 hi q y => ?_⟩
        obtain ⟨T, x, y, ⟨e1, e2, e3⟩, h1, h2⟩ := y
        exact ⟨T, x, y, e1, e2, e3, h1 xs q.1, h2 ys q.2⟩
      · obtain ⟨T, x', y', rfl, hT, rfl, hx, hy⟩ := y
        obtain ⟨d, hd, dd⟩ := dps_getV k2 hx
        obtain ⟨e, he, de⟩ := dps_getV k4 hy
        obtain ⟨q1, q2, q3⟩ := pair_new w3 hT (dp_ex e3 _ _ dd) (dp_ex e3 _ _ de)
        refine ⟨_, _, ?_, q1, q2, q3⟩
        rw [List.getElem?_map, (List.getElem?_zip_eq_some (z := (d, e))).mpr ⟨hd, he⟩]
        rfl
end
end DL

set_option Elab.async false
set_option linter.all false
set_option maxRecDepth 100000
set_option maxHeartbeats 2000000
/-! Expressions and defs that change what is owned. -/
namespace DL
open PySem PySem.Spec PyProof.Rows L2 StX
/-- an expression that may change what is owned: R tells the data and what is owned behind it -/
def EvX (K : PySem.W.Frag) (B O : Hp) (G : List SD) (te : TE) (R : PyData → Hp → Prop) : Prop := ∀ B1 σ H, Ex B B1 → Sta K B1 O G σ H → ∀ Q : VK, (∀ v d B' O' H', Ex B1 B' → R d O' → W B' O' H' → Dt K B' v d → Q v H') → te σ H Q
def EvXs (K : PySem.W.Frag) (B O : Hp) (G : List SD) (ta : TA) (R : List PyData → Hp → Prop) : Prop := ∀ B1 σ H, Ex B B1 → Sta K B1 O G σ H → ∀ Q : List V → Hp → Prop, (∀ vs ds B' O' H', Ex B1 B' → R ds O' → W B' O' H' → DtAll K B' vs ds → Q vs H') → ta σ H Q
section
variable {K : PySem.W.Frag} {B B' O : Hp} {G : List SD} {te ta tb : TE} {t : TA} {r : R2} {d : PyData} {R R1 R3 : PyData → Hp → Prop} {R2' : PyData → Hp → PyData → Hp → Prop}
theorem EvX.ex (h : EvX K B O G te R) (e : Ex B B') : EvX K B' O G te R := fun B1 σ H e1 s Q q => h B1 σ H (e.trans e1) s Q q
theorem ex_pure (h : EvD K B O G te d) : EvX K B O G te (fun d' O' => d' = d ∧ O' = O) := fun B1 σ H e s Q q => h B1 O σ H e (Ex.refl _) s Q fun v B' H' e' w' dv => q v d B' O H' e' ⟨rfl, rfl⟩ w' dv
theorem ex_imp (h : EvX K B O G te R) (k : ∀ d O', R d O' → R1 d O') : EvX K B O G te R1 := fun B1 σ H e s Q q => h B1 σ H e s Q fun v d B' O' H' e' r' w' dv => q v d B' O' H' e' (k d O' r') w' dv
theorem ex_op (h1 : EvX K B O G ta R1) (h2 : ∀ d1 B' O', Ex B B' → R1 d1 O' → EvX K B' O' G tb (R2' d1 O')) (h3 : ∀ d1 O' d2 O'', R1 d1 O' → R2' d1 O' d2 O'' → ∃ z, RD K r d1 d2 z ∧ R3 z O'') : EvX K B O G (tOp r ta tb) R3 := fun B1 σ H e s Q q =>
  h1 B1 σ H e s _ fun v d1 B2 O2 H2 e2 r1 w2 dv => h2 d1 B2 O2 (e.trans e2) r1 B2 σ H2 (Ex.refl _) ⟨w2, s.s.ex e2⟩ _ fun u d2 B3 O3 H3 e3 r2 w3 du => by
    obtain ⟨z, hz, hr⟩ := h3 d1 O2 d2 O3 r1 r2
    exact hz B3 O3 H3 v u w3 (dp_ex e3 _ _ dv) du Q fun x B4 H4 e4 w4 dx => q x z B4 O3 H4 ((e2.trans e3).trans e4) hr w4 dx
theorem exs_nil : EvXs K B O G tNil (fun ds O' => ds = [] ∧ O' = O) := fun B1 σ H e s Q q => q [] [] B1 O H (Ex.refl _) ⟨rfl, rfl⟩ s.w .nil
theorem exs_cons {S : PyData → Hp → List PyData → Hp → Prop} {T : List PyData → Hp → Prop} (h1 : EvX K B O G te R) (h2 : ∀ d B' O', Ex B B' → R d O' → EvXs K B' O' G t (S d O')) (h3 : ∀ d O' ds O'', R d O' → S d O' ds O'' → T (d :: ds) O'') : EvXs K B O G (tCons te t) T := fun B1 σ H e s Q q =>
  h1 B1 σ H e s _ fun v d B2 O2 H2 e2 r1 w2 dv => h2 d B2 O2 (e.trans e2) r1 B2 σ H2 (Ex.refl _) ⟨w2, s.s.ex e2⟩ _ fun vs ds B3 O3 H3 e3 r2 w3 dvs => q (v :: vs) (d :: ds) B3 O3 H3 (e2.trans e3) (h3 d O2 ds O3 r1 r2) w3 (.cons (dp_ex e3 _ _ dv) dvs)
theorem ex_tup {T : List PyData → Hp → Prop} (h : EvXs K B O G t T) (hl : ∀ ds O', T ds O' → ds.length ≤ 100000) : EvX K B O G (tTup t) (fun d O' => ∃ ds, d = .tuple ds ∧ T ds O') := fun B1 σ H e s Q q =>
  h B1 σ H e s _ fun vs ds B2 O2 H2 e2 r2 w2 d2 => ⟨by rw [dps_len d2]; exact sz_of (hl ds O2 r2), fun p hp => q _ (.tuple ds) (upd B2 p (.tup vs)) O2 _ (e2.trans (Ex.new (w2.fb hp))) ⟨ds, rfl, r2⟩ (w2.newB hp) (.tup (.inl (.inl upd_same)) (dps_ex (Ex.new (w2.fb hp)) _ _ d2))⟩
theorem ex_lst {T : List PyData → Hp → Prop} (h : EvXs K B O G t T) (hl : ∀ ds O', T ds O' → ds.length ≤ 100000) : EvX K B O G (tLst t) (fun d O' => ∃ ds, d = .list ds ∧ T ds O') := fun B1 σ H e s Q q =>
  h B1 σ H e s _ fun vs ds B2 O2 H2 e2 r2 w2 d2 => ⟨by rw [dps_len d2]; exact sz_of (hl ds O2 r2), fun p hp => q _ (.list ds) (upd B2 p (.lst vs)) O2 _ (e2.trans (Ex.new (w2.fb hp))) ⟨ds, rfl, r2⟩ (w2.newB hp) (.lst upd_same (dps_ex (Ex.new (w2.fb hp)) _ _ d2))⟩
variable {σ : L2.St} {H : Hp} {D : Ends} {tz : TS} {i : Nat}
theorem qx_asg (s : Sta K B O G σ H) (h : EvX K B O G te R) (k : ∀ v d B' O' H', Ex B B' → R d O' → Dt K B' v d → Sta K B' O' (G.set i (.dat d)) (σ.set i (some v)) H' → tz D (σ.set i (some v)) H') : tSeq (tAsg te (gName i)) tz D σ H :=
  h B σ H (Ex.refl _) s _ fun v d B' O' H' e r' w' dv => k v d B' O' H' e r' dv ⟨w', (s.s.ex e).set i ⟨v, rfl, dv⟩⟩
theorem sx_ret (s : Sta K B O G σ H) (h : EvX K B O G te R) (k : ∀ v d B' O' H', Ex B B' → R d O' → W B' O' H' → Dt K B' v d → D.rt v H') : tRet te D σ H :=
  h B σ H (Ex.refl _) s _ fun v d B' O' H' e r' w' dv => k v d B' O' H' e r' w' dv
/-- append what is reckoned with changes to an owned list that these leave -/
theorem sx_app {l : Addr} {vs : List V} (s : Sta K B O G σ H) (hg : G[i]? = some (.val (.ref l))) (ho : O l = some (.lst vs)) (hz : vs.length < 100000) (h : EvX K B O G te R) (hr : ∀ d O', R d O' → O' l = some (.lst vs))
    (k : ∀ v d B' O' H', Ex B B' → R d O' → Dt K B' v d → Sta K B' (upd O' l (.lst (vs ++ [v]))) G σ H' → D.nx σ H') : tDrop (tBM K "list" rAppend (tVar i) (tCons te tNil)) D σ H := by
  obtain ⟨sv, h1, h2⟩ := s.s.get hg
  have h3 : sv = some (.ref l) := h2
  subst h3
  refine ⟨_, h1, .inl ⟨rfl, _, SqL.of (s.w.o _ _ ho)⟩, ?_⟩
  refine h B σ H (Ex.refl _) s _ fun v d B' O' H' e r' w' dv => ?_
  exact ⟨l, vs, v, rfl, rfl, w'.o _ _ (hr d O' r'), Nat.lt_of_lt_of_le hz (by decide), k v d B' O' _ e r' dv ⟨w'.mut (hr d O' r'), s.s.ex e⟩⟩
/-- the arguments of such a def: data, or just these values -/
def EvAS (K : PySem.W.Frag) (B O : Hp) (G : List SD) (ta : TA) (gs : List SD) : Prop := ∀ B1 σ H, Ex B B1 → Sta K B1 O G σ H → ∀ Q : List V → Hp → Prop, (∀ vs B' H', Ex B1 B' → W B' O H' → Slots K B' (vs.map some) gs → Q vs H') → ta σ H Q
theorem as_nil : EvAS K B O G tNil [] := fun B1 σ H e s Q q => q [] B1 H (Ex.refl _) s.w trivial
theorem as_dat {gs : List SD} (h : EvD K B O G te d) (hr : EvAS K B O G t gs) : EvAS K B O G (tCons te t) (.dat d :: gs) := fun B1 σ H e s Q q =>
  h B1 O σ H e (Ex.refl _) s _ fun v B2 H2 e2 w2 d2 => hr B2 σ H2 (e.trans e2) (s.ex e2 w2) _ fun vs B3 H3 e3 w3 d3 => q (v :: vs) B3 H3 (e2.trans e3) w3 ⟨⟨v, rfl, dp_ex e3 _ _ d2⟩, d3⟩
theorem as_val {gs : List SD} {v : V} (h : EvV K B O G te v) (hr : EvAS K B O G t gs) : EvAS K B O G (tCons te t) (.val v :: gs) := fun B1 σ H e s Q q =>
  h B1 O σ H e (Ex.refl _) s _ fun B2 H2 e2 w2 => hr B2 σ H2 (e.trans e2) (s.ex e2 w2) _ fun vs B3 H3 e3 w3 d3 => q (v :: vs) B3 H3 (e2.trans e3) w3 ⟨rfl, d3⟩
def SpX (K : PySem.W.Frag) (Pre : List SD → Hp → Hp → (PyData → Hp → Prop) → Prop) : Sp := fun vs H Q _ => ∃ B O gs R, W B O H ∧ Slots K B (vs.map some) gs ∧ Pre gs B O R ∧ ∀ v d B' O' H', Ex B B' → R d O' → W B' O' H' → Dt K B' v d → Q v H'
variable {Pre : List SD → Hp → Hp → (PyData → Hp → Prop) → Prop} {gs : List SD} {E : XK}
theorem ex_call (h : EvAS K B O G t gs) (hr : ∀ B', Ex B B' → Pre gs B' O R) : EvX K B O G (tCall (SpX K Pre) [] E t) R := fun B1 σ H e s Q q =>
  h B1 σ H e s _ fun vs B2 H2 e2 w2 d2 => by
    rw [List.append_nil]
    exact ⟨B2, O, gs, R, w2, d2, hr B2 (e.trans e2), fun v d B3 O3 H3 e3 r3 w3 d3 => q v d B3 O3 H3 (e2.trans e3) r3 w3 d3⟩
end
theorem slots_len {K : PySem.W.Frag} {B : Hp} : ∀ {σ : L2.St} {G : List SD}, Slots K B σ G → σ.length = G.length
  | [], [], _ => rfl
  | _ :: _, _ :: _, h => congrArg Nat.succ (slots_len h.2)
  | [], _ :: _, h => h.elim
  | _ :: _, [], h => h.elim
theorem slots_fill {K : PySem.W.Frag} {B : Hp} : ∀ {σ : L2.St} {G : List SD}, Slots K B σ G → ∀ n, Slots K B (σ ++ List.replicate n none) (G ++ List.replicate n .un)
  | [], [], _, 0 => trivial
  | [], [], _, n + 1 => ⟨trivial, slots_fill (σ := []) (G := []) trivial n⟩
  | _ :: _, _ :: _, h, n => ⟨h.1, slots_fill h.2 n⟩
  | [], _ :: _, h, _ => h.elim
  | _ :: _, [], h, _ => h.elim
section
variable {P : Program} {w : World} {K : PySem.W.Frag} {mg : Str → Option Value} {base : Heap}
theorem ok_fnX {x qual : Str} {st : Stmt} {f : Addr} {fd : FuncData} {N ps : List Str} {k : Nat} {Pre : List SD → Hp → Hp → (PyData → Hp → Prop) → Prop} (F : Fun K x qual st f fd) (S : FnScope N ps (defScope st)) (hl : ∀ gs B O R, Pre gs B O R → gs.length = ps.length)
    (hb : ∀ (cdv : Value) (A : Around) (outer : List Env) (s : Shared) (H0 : Hp) (E : XK), Room k (A.deeper (envOfC qual (defScope st) s.heap.objs.size f cdv)) →
      ∃ t, PSs (cxOf CX0 P w K mg base N qual (defScope st) f cdv A outer s H0 E).nox (defBody st) t ∧
        ∀ gs B O R σ H (Q : VK), Pre gs B O R → Sta K B O (gs ++ List.replicate (N.length - ps.length) .un) σ H → (∀ v d B' O' H', Ex B B' → R d O' → W B' O' H' → Dt K B' v d → Q v H') → t { nx := fun _ H' => Q .non H', rt := Q } σ H) :
    FnOk P w K mg base CX0 (k + 1) f fd ps (SpX K Pre) := by
  refine F.ok S (fun vs H Q E h => ?_) (fun cdv A outer s H vs Q E hr h => ?_)
  · obtain ⟨B, O, gs, R, _, h2, h3, _⟩ := h
    have := slots_len h2
    rw [List.length_map] at this
    rw [this]
    exact hl gs B O R h3
  · obtain ⟨B, O, gs, R, h1, h2, h3, k⟩ := h
    obtain ⟨t, ht, hq⟩ := hb cdv A outer s H E hr
    refine ⟨t, ht, hq gs B O R _ H Q h3 ⟨h1, ?_⟩ k⟩
    have e := slots_fill h2 (N.length - ps.length)
    have hl' : vs.length = ps.length := by
      have := slots_len h2
      rw [List.length_map] at this
      rw [this]
      exact hl gs B O R h3
    unfold L2.start
    rw [hl']
    exact e
theorem SpX_false {k : Nat} {f : Addr} {fd : FuncData} {ps : List Str} {Pre : List SD → Hp → Hp → (PyData → Hp → Prop) → Prop} (h : ∀ gs B O R, ¬ Pre gs B O R) : FnOk P w K mg base CX0 k f fd ps (SpX K Pre) :=
  ⟨fun _ _ _ _ ⟨B, O, gs, R, _, _, r, _⟩ => (h gs B O R r).elim, fun _ _ _ _ _ _ _ _ _ _ _ _ _ ⟨B, O, gs, R, _, _, r, _⟩ => (h gs B O R r).elim⟩
end
/-! ### pools and rooms -/
def PoolAt (O : Hp) (p : Addr) : Prop := ∃ a b : Int, O p = some (.lst [.int a, .int b]) ∧ 0 ≤ b ∧ b < 2147483647
def RoomAt (O : Hp) (r : Addr) : Prop := ∃ z : Int, O r = some (.lst [.int z])
structure Mv (p : Addr) (O O' : Hp) : Prop where
  pool : PoolAt O' p
  fr : ∀ a, a ≠ p → O' a = O a
theorem Mv.refl {p : Addr} {O : Hp} (h : PoolAt O p) : Mv p O O := ⟨h, fun _ _ => rfl⟩
theorem Mv.trans {p : Addr} {O O1 O2 : Hp} (a : Mv p O O1) (b : Mv p O1 O2) : Mv p O O2 := ⟨b.pool, fun x h => (b.fr x h).trans (a.fr x h)⟩
structure Mv2 (p r : Addr) (O O' : Hp) : Prop where
  pool : PoolAt O' p
  room : RoomAt O' r
  fr : ∀ a, a ≠ p → a ≠ r → O' a = O a
theorem Mv2.refl {p r : Addr} {O : Hp} (h : PoolAt O p) (h2 : RoomAt O r) : Mv2 p r O O := ⟨h, h2, fun _ _ _ => rfl⟩
theorem Mv2.trans {p r : Addr} {O O1 O2 : Hp} (a : Mv2 p r O O1) (b : Mv2 p r O1 O2) : Mv2 p r O O2 := ⟨b.pool, b.room, fun x h h' => (b.fr x h h').trans (a.fr x h h')⟩
theorem PoolAt.ne {O : Hp} {p r : Addr} (h : PoolAt O p) (h2 : RoomAt O r) : r ≠ p := by
  obtain ⟨a, b, e, _⟩ := h
  obtain ⟨z, e2⟩ := h2
  intro q
  subst q
  rw [e] at e2
  cases e2
theorem Mv.two {p r : Addr} {O O' : Hp} (a : Mv p O O') (h : PoolAt O p) (h2 : RoomAt O r) : Mv2 p r O O' := by
  refine ⟨a.pool, ?_, fun x h1 _ => a.fr x h1⟩
  obtain ⟨z, e⟩ := id h2
  exact ⟨z, by rw [a.fr r (h.ne h2)]; exact e⟩
end DL

set_option Elab.async false
set_option linter.all false
set_option maxRecDepth 100000
set_option maxHeartbeats 2000000
/-! Parts of readers as plain data. -/
namespace PT
open PySem DL
inductive Part where
  | leaf (w : Str) (fs : List PyData)
  | row (ps : List Part)
  | choice (m : PyData) (os : List (Int × Part))
  | one (w : Str) (fs : List PyData) (p : Part)
mutual
def enc : Part → PyData
  | .leaf w fs => .tuple (.str w :: fs)
  | .row ps => .tuple [.str "row", .tuple (encs ps)]
  | .choice m os => .tuple [.str "choice", m, .tuple (enco os)]
  | .one w fs p => .tuple (.str w :: (fs ++ [enc p]))
def encs : List Part → List PyData
  | [] => []
  | p :: ps => enc p :: encs ps
def enco : List (Int × Part) → List PyData
  | [] => []
  | (n, p) :: os => .tuple [.int n, enc p] :: enco os
end
theorem encs_eq : ∀ ps, encs ps = ps.map enc
  | [] => rfl
  | p :: ps => by
    show enc p :: encs ps = enc p :: ps.map enc
    rw [encs_eq ps]
theorem enco_eq : ∀ os, enco os = os.map fun o => .tuple [.int o.1, enc o.2]
  | [] => rfl
  | (n, p) :: os => by
    show _ :: enco os = _
    rw [enco_eq os]
    rfl
def isLeafW (w : Str) : Bool := w == "cell" || w == "need" || w == "pad"
def isOneW (w : Str) : Bool := w == "times" || w == "counted" || w == "within" || w == "fill" || w == "if left"
def word : Part → Str
  | .leaf w _ => w
  | .row _ => "row"
  | .choice _ _ => "choice"
  | .one w _ _ => w
def good (d : PyData) : Bool := flatD d && SeqAt.shaped d
/-- the top of a part is as it should be -/
def ok0 : Part → Prop
  | .leaf w fs => isLeafW w = true ∧ fs.length ≤ 3 ∧ fs.all good = true
  | .row ps => ps.length ≤ 6
  | .choice m os => good m = true ∧ 0 < os.length ∧ os.length ≤ 6
  | .one w fs _ => isOneW w = true ∧ fs.length ≤ 4 ∧ fs.all good = true ∧ (w = "times" → ∃ n, fs = [.int n] ∧ 0 ≤ n ∧ n ≤ 6)
def kids : Part → List Part
  | .leaf _ _ => []
  | .row ps => ps
  | .choice _ os => os.map (·.2)
  | .one _ _ p => [p]
def ok : Nat → Part → Prop
  | 0, _ => False
  | h + 1, t => ok0 t ∧ ∀ p, p ∈ kids t → ok h p
def fields : Part → List PyData
  | .leaf _ fs => fs
  | .row ps => [.tuple (ps.map enc)]
  | .choice m os => [m, .tuple (os.map fun o => .tuple [.int o.1, enc o.2])]
  | .one _ fs p => fs ++ [enc p]
theorem enc_eq (t : Part) : enc t = .tuple (.str (word t) :: fields t) := by
  cases t with
  | leaf w fs => rfl
  | row ps =>
    show PyData.tuple [.str "row", .tuple (encs ps)] = _
    rw [encs_eq]
    rfl
  | choice m os =>
    show PyData.tuple [.str "choice", m, .tuple (enco os)] = _
    rw [enco_eq]
    rfl
  | one w fs p => rfl
theorem kids_len {t : Part} (h : ok0 t) : (kids t).length ≤ 6 := by
  cases t with
  | leaf => simp [kids]
  | row ps => exact h
  | choice m os =>
    obtain ⟨_, _, h3⟩ := h
    simp [kids]
    omega
  | one => simp [kids]
theorem ok_mono : ∀ {h j : Nat} {t : Part}, h ≤ j → ok h t → ok j t
  | 0, _, _, _, o => o.elim
  | h + 1, 0, _, l, _ => absurd l (by omega)
  | h + 1, j + 1, t, l, o => ⟨o.1, fun p hp => ok_mono (by omega) (o.2 p hp)⟩
/-! sizes -/
def osum : List (Option Int) → Option Int
  | [] => some 0
  | none :: _ => none
  | some n :: r => (osum r).map (n + ·)
def encN : Option Int → PyData
  | none => .none
  | some n => .int n
def numOf : List PyData → Option Int
  | .int n :: _ => some n
  | _ => none
def sizeK (w : Str) (fs : List PyData) (ss : List (Option Int)) : Option Int :=
  if w = "cell" then some 1
  else if w = "need" then some 0
  else if w = "row" ∨ w = "choice" ∨ w = "times" then
    (if none ∈ ss then none
    else if w = "row" then some ((ss.map fun s => s.getD 0).sum)
    else if w = "times" then ((numOf fs).map fun n => n * (ss.headD (some 0)).getD 0)
    else if ∀ s ∈ ss, s = ss.headD (some 0) then some (1 + (ss.headD (some 0)).getD 0) else none)
  else none
def size : Nat → Part → Option Int
  | 0, _ => none
  | h + 1, t => sizeK (word t) (fields t) ((kids t).map (size h))
/-! parts in parts -/
def subsAt (S : Part → List (List Int × Part)) (ks : List Part) (i : Nat) : List (List Int × Part) := match ks[i]? with
  | some c => (S c).map fun q => ((i : Int) :: q.1, q.2)
  | none => []
def subsTo (S : Part → List (List Int × Part)) (t : Part) (n : Nat) : List (List Int × Part) := ([], t) :: (List.range n).flatMap (subsAt S (kids t))
def subs : Nat → Part → List (List Int × Part)
  | 0, t => [([], t)]
  | h + 1, t => subsTo (subs h) t (kids t).length
theorem subsTo_succ {S : Part → List (List Int × Part)} {t : Part} {n : Nat} {c : Part} (h : (kids t)[n]? = some c) : subsTo S t (n + 1) = subsTo S t n ++ (S c).map fun q => ((n : Int) :: q.1, q.2) := by
  unfold subsTo
  rw [List.range_succ, List.flatMap_append, ← List.cons_append]
  simp [subsAt, h]
def cntP : Nat → Nat
  | 0 => 0
  | h + 1 => 1 + 6 * cntP h
theorem subsTo_len {S : Part → List (List Int × Part)} {t : Part} {m : Nat} (hS : ∀ c, c ∈ kids t → (S c).length ≤ m) : ∀ n, (subsTo S t n).length ≤ 1 + n * m
  | 0 => by simp [subsTo]
  | n + 1 => by
    have ih := subsTo_len hS n
    cases hc : (kids t)[n]? with
    | none =>
      have : subsTo S t (n + 1) = subsTo S t n := by
        unfold subsTo
        rw [List.range_succ, List.flatMap_append]
        simp [subsAt, hc]
      rw [this, Nat.succ_mul]
      omega
    | some c =>
      rw [subsTo_succ hc, List.length_append, List.length_map, Nat.succ_mul]
      have := hS c (List.mem_of_getElem? hc)
      omega
theorem subs_len : ∀ {h : Nat} {t : Part}, ok h t → (subs h t).length ≤ cntP h
  | 0, _, o => o.elim
  | h + 1, t, o => by
    have h1 := subsTo_len (S := subs h) (t := t) (m := cntP h) (fun c hc => subs_len (o.2 c hc)) (kids t).length
    have h2 := kids_len o.1
    have h3 : (kids t).length * cntP h ≤ 6 * cntP h := Nat.mul_le_mul_right _ h2
    show (subsTo (subs h) t (kids t).length).length ≤ 1 + 6 * cntP h
    omega
theorem cnt_le : ∀ {h : Nat}, h ≤ 7 → cntP h ≤ 55987
  | 0, _ => by decide
  | 1, _ => by decide
  | 2, _ => by decide
  | 3, _ => by decide
  | 4, _ => by decide
  | 5, _ => by decide
  | 6, _ => by decide
  | 7, _ => by decide
  | h + 8, l => absurd l (by omega)
theorem cnt_mono {h : Nat} (l : h + 1 ≤ 7) {n : Nat} (hn : n ≤ 6) : 1 + n * cntP h ≤ 55987 := by
  have h1 := cnt_le l
  have h2 : n * cntP h ≤ 6 * cntP h := Nat.mul_le_mul_right _ hn
  have h3 : cntP (h + 1) = 1 + 6 * cntP h := rfl
  omega
def getP : Part → List Int → Option Part
  | t, [] => some t
  | t, i :: p => if 0 ≤ i then (kids t)[i.toNat]?.bind (getP · p) else none
theorem subs_get : ∀ {h : Nat} {t : Part} {p : List Int} {c : Part}, (p, c) ∈ subs h t → getP t p = some c
  | 0, t, p, c, m => by
    simp [subs] at m
    obtain ⟨rfl, rfl⟩ := m
    rfl
  | h + 1, t, p, c, m => by
    have m' : (p, c) ∈ subsTo (subs h) t (kids t).length := m
    unfold subsTo at m'
    rw [List.mem_cons, List.mem_flatMap] at m'
    rcases m' with m' | ⟨i, _, m'⟩
    · cases m'
      rfl
    · unfold subsAt at m'
      cases hk : (kids t)[i]? with
      | none => rw [hk] at m'; cases m'
      | some k =>
        rw [hk] at m'
        obtain ⟨q, hq, e⟩ := List.mem_map.mp m'
        cases e
        have := subs_get hq
        show (if 0 ≤ (i : Int) then _ else _) = _
        rw [if_pos (by omega), Int.toNat_natCast, hk]
        exact this
theorem ok_get : ∀ {p : List Int} {h : Nat} {t c : Part}, ok h t → getP t p = some c → ok h c
  | [], h, t, c, o, e => by cases e; exact o
  | i :: p, 0, t, c, o, e => o.elim
  | i :: p, h + 1, t, c, o, e => by
    have e' : (if 0 ≤ i then (kids t)[i.toNat]?.bind (getP · p) else none) = some c := e
    split at e'
    · cases hk : (kids t)[i.toNat]? with
      | none => rw [hk] at e'; cases e'
      | some k =>
        rw [hk] at e'
        exact ok_mono (Nat.le_succ h) (ok_get (o.2 k (List.mem_of_getElem? hk)) e')
    · cases e'
theorem subs_path : ∀ {h : Nat} {t : Part} {p : List Int} {c : Part}, (p, c) ∈ subs h t → p.length ≤ h
  | 0, t, p, c, m => by
    simp [subs] at m
    simp [m.1]
  | h + 1, t, p, c, m => by
    have m' : (p, c) ∈ subsTo (subs h) t (kids t).length := m
    unfold subsTo at m'
    rw [List.mem_cons, List.mem_flatMap] at m'
    rcases m' with m' | ⟨i, _, m'⟩
    · cases m'
      simp
    · unfold subsAt at m'
      cases hk : (kids t)[i]? with
      | none => rw [hk] at m'; cases m'
      | some k =>
        rw [hk] at m'
        obtain ⟨q, hq, e⟩ := List.mem_map.mp m'
        cases e
        have := subs_path hq
        simp
        omega
/-- the parts in their places -/
def withK : Part → List Part → Part
  | .leaf w fs, _ => .leaf w fs
  | .row _, ks => .row ks
  | .choice m os, ks => .choice m ((os.zip ks).map fun z => (z.1.1, z.2))
  | .one w fs p, ks => .one w fs (ks.headD p)
def repP : Part → List Int → Part → Option Part
  | _, [], o => some o
  | t, i :: p, o => if 0 ≤ i then (kids t)[i.toNat]?.bind fun c => (repP c p o).map fun c' => withK t ((kids t).set i.toNat c') else none
theorem rep_get : ∀ {p : List Int} {t c : Part} (o : Part), getP t p = some c → ∃ d, repP t p o = some d
  | [], t, c, o, e => ⟨o, rfl⟩
  | i :: p, t, c, o, e => by
    have e' : (if 0 ≤ i then (kids t)[i.toNat]?.bind (getP · p) else none) = some c := e
    split at e'
    · rename_i hi
      cases hk : (kids t)[i.toNat]? with
      | none => rw [hk] at e'; cases e'
      | some k =>
        rw [hk] at e'
        obtain ⟨d, hd⟩ := rep_get (t := k) o e'
        refine ⟨withK t ((kids t).set i.toNat d), ?_⟩
        show (if 0 ≤ i then _ else _) = _
        rw [if_pos hi, hk]
        show (repP k p o).map _ = _
        rw [hd]
        rfl
    · cases e'
theorem withK_same (t : Part) : withK t (kids t) = t := by
  cases t with
  | leaf => rfl
  | row => rfl
  | choice m os =>
    have h : ∀ xs : List (Int × Part), ((xs.zip (xs.map (·.2))).map fun z => (z.1.1, z.2)) = xs := fun xs => by
      induction xs with
      | nil => rfl
      | cons o r ih =>
        show (o.1, o.2) :: ((r.zip (r.map (·.2))).map fun z => (z.1.1, z.2)) = _
        rw [ih]
    show Part.choice m _ = _
    exact congrArg _ (h os)
  | one => rfl
theorem set_same {α : Type} : ∀ {xs : List α} {i : Nat} {x : α}, xs[i]? = some x → xs.set i x = xs
  | [], _, _, _ => rfl
  | y :: ys, 0, x, h => by simp at h; subst h; rfl
  | y :: ys, i + 1, x, h => by simp at h; simp [set_same h]
theorem rep_same : ∀ {p : List Int} {t c : Part}, getP t p = some c → repP t p c = some t
  | [], t, c, e => by cases e; rfl
  | i :: p, t, c, e => by
    have e' : (if 0 ≤ i then (kids t)[i.toNat]?.bind (getP · p) else none) = some c := e
    split at e'
    · rename_i hi
      cases hk : (kids t)[i.toNat]? with
      | none => rw [hk] at e'; cases e'
      | some k =>
        rw [hk] at e'
        have := rep_same (t := k) e'
        show (if 0 ≤ i then _ else _) = _
        rw [if_pos hi, hk]
        show (repP k p c).map _ = _
        rw [this]
        show some (withK t _) = _
        rw [set_same hk, withK_same]
    · cases e'
def encP (p : List Int) : PyData := .tuple (p.map .int)
def encQ (q : List Int × Part) : PyData := .tuple [encP q.1, enc q.2]
theorem row_of {t : Part} (ho : ok0 t) (h : (word t == "row") = true) : ∃ ps, t = .row ps := by
  cases t with
  | row ps => exact ⟨ps, rfl⟩
  | leaf x fs =>
    have e : x = "row" := eq_of_beq h
    subst e
    exact absurd ho.1 (by decide)
  | choice m os => exact absurd (show (("choice" : Str) == "row") = true from h) (by decide)
  | one x fs p =>
    have e : x = "row" := eq_of_beq h
    subst e
    exact absurd ho.1 (by decide)
theorem choice_of {t : Part} (ho : ok0 t) (h : (word t == "choice") = true) : ∃ m os, t = .choice m os := by
  cases t with
  | choice m os => exact ⟨m, os, rfl⟩
  | leaf x fs =>
    have e : x = "choice" := eq_of_beq h
    subst e
    exact absurd ho.1 (by decide)
  | row ps => exact absurd (show (("row" : Str) == "choice") = true from h) (by decide)
  | one x fs p =>
    have e : x = "choice" := eq_of_beq h
    subst e
    exact absurd ho.1 (by decide)
theorem one_of {t : Part} (ho : ok0 t) (h1 : (word t == "row") = false) (h2 : (word t == "choice") = false) (h : isLeafW (word t) = false) : ∃ w fs p, t = .one w fs p := by
  cases t with
  | choice m os => exact absurd h2 (by show ¬ (("choice" : Str) == "choice") = false; decide)
  | leaf x fs =>
    have h' : isLeafW x = false := h
    rw [ho.1] at h'
    cases h'
  | row ps => exact absurd h1 (by show ¬ (("row" : Str) == "row") = false; decide)
  | one x fs p => exact ⟨x, fs, p, rfl⟩
theorem leaf_of {t : Part} (ho : ok0 t) (h1 : (word t == "row") = false) (h2 : (word t == "choice") = false) (h : isOneW (word t) = false) : ∃ w fs, t = .leaf w fs := by
  cases t with
  | choice m os => exact absurd h2 (by show ¬ (("choice" : Str) == "choice") = false; decide)
  | one x fs p =>
    have h' : isOneW x = false := h
    rw [ho.1] at h'
    cases h'
  | row ps => exact absurd h1 (by show ¬ (("row" : Str) == "row") = false; decide)
  | leaf x fs => exact ⟨x, fs, rfl⟩
theorem leafW_one {w : Str} (h : isLeafW w = true) : isOneW w = false := by
  unfold isLeafW at h
  simp only [Bool.or_eq_true] at h
  rcases h with (h | h) | h <;> (have e := eq_of_beq h; subst e; decide)
theorem oneW_leaf {w : Str} (h : isOneW w = true) : isLeafW w = false := by
  cases e : isLeafW w with
  | false => rfl
  | true => rw [leafW_one e] at h; cases h
end PT

set_option Elab.async false
set_option linter.all false
set_option maxRecDepth 100000
set_option maxHeartbeats 2000000
/-! More of the same: walks that are reckoned with changes, owned lists compared. -/
namespace DL
open PySem PySem.Spec PyProof.Rows L2 StX
def EvIX (K : PySem.W.Frag) (B O : Hp) (G : List SD) (wi : TI) (T : List PyData → Hp → Prop) : Prop := ∀ B1 σ H, Ex B B1 → Sta K B1 O G σ H → ∀ R : It → Hp → Prop, (∀ J es B' O' H', Ex B1 B' → T es O' → W B' O' H' → Gives K J es B' → R J H') → wi σ H R
section
variable {K : PySem.W.Frag} {B O : Hp} {G : List SD} {te ta tb th : TE} {t : TA} {d : PyData} {ds : List PyData} {σ : L2.St} {H : Hp} {D : Ends} {tz tu : TS} {i : Nat}
theorem eix_list {T : List PyData → Hp → Prop} (h : EvX K B O G te (fun d O' => ∃ es, d = .list es ∧ T es O')) : EvIX K B O G (iList K te) T := fun B1 σ H e1 s R r => h B1 σ H e1 s _ fun v d B2 O2 H2 e2 ⟨es, ed, hT⟩ w2 d2 => by
  subst ed
  obtain ⟨a, xs, rfl, k1, k2⟩ := dp_lst d2
  refine ⟨a, rfl, ⟨xs, .inl (.inl (w2.b _ _ k1))⟩, r _ es B2 O2 H2 e2 hT w2 ⟨xs.length, _, _, dps_len k2, walk_list (xs := xs), fun B3 O3 H3 e3 w3 => .inl (.inl (w3.b _ _ (e3 _ _ k1))), fun i H3 x H4 B3 O3 e3 w3 hi y => ?_⟩⟩
  obtain ⟨rfl, hx⟩ := y
  obtain ⟨e, he, hd⟩ := dps_getV k2 hx
  exact ⟨e, B3, he, Ex.refl _, w3, dp_ex e3 _ _ hd⟩
theorem eix_range {T : List PyData → Hp → Prop} (h : EvXs K B O G t (fun ds O' => ∃ j : Int, ds = [.int j] ∧ (-1000000 ≤ j ∧ j ≤ 1000000) ∧ T (rangeD 0 j.toNat) O')) : EvIX K B O G (iRng1 t) T := fun B1 σ H e1 s R r => h B1 σ H e1 s _ fun vs ds B2 O2 H2 e2 ⟨j, ed, hj, hT⟩ w2 d2 => by
  subst ed
  have e := dps_ints (ns := [j]) d2
  refine ⟨j, e, by omega, by omega, r _ _ B2 O2 H2 e2 hT w2 ⟨j.toNat, _, _, rangeD_len.symm, walk_range, fun _ _ _ _ _ => trivial, fun i H3 x H4 B3 O3 e3 w3 hi y => ?_⟩⟩
  obtain ⟨rfl, rfl⟩ := y
  exact ⟨_, B3, rangeD_get hi, Ex.refl _, w3, .int _⟩
theorem sx_for {wi : TI} {g : TG} {T : List PyData → Hp → Prop} (s : Sta K B O G σ H) (hI : EvIX K B O G wi T) (P : List PyData → Nat → Hp → Hp → List SD → Prop) (mono : ∀ es i B1 B2 O1 G1, Ex B1 B2 → P es i B1 O1 G1 → P es i B2 O1 G1)
    (h0 : ∀ es O' B', Ex B B' → T es O' → P es 0 B' O' G)
    (hs : ∀ es i e B1 O1 G1 σ1 H1 v, es[i]? = some e → Ex B B1 → P es i B1 O1 G1 → Sta K B1 O1 G1 σ1 H1 → Dt K B1 v e → ∀ N : L2.St → Hp → Prop, (∀ B' O' G' σ' H', Ex B1 B' → P es (i + 1) B' O' G' → Sta K B' O' G' σ' H' → N σ' H') → g v σ1 H1 fun σ2 H2 => tu { D with nx := N, ct := N, bk := D.nx } σ2 H2)
    (hd : ∀ es B1 O1 G1 σ1 H1, Ex B B1 → P es es.length B1 O1 G1 → Sta K B1 O1 G1 σ1 H1 → D.nx σ1 H1) : tFor wi g tu D σ H := by
  refine hI B σ H (Ex.refl _) s _ fun J es B2 O2 H2 e2 hT w2 gv => ?_
  obtain ⟨n, G0, Y, hn, wk, hG0, hY⟩ := gv
  refine for_it wk (fun i σ' H' => ∃ B' O' G', Ex B2 B' ∧ P es i B' O' G' ∧ Sta K B' O' G' σ' H') ⟨B2, O2, G, Ex.refl _, h0 es O2 B2 e2 hT, ⟨w2, s.s.ex e2⟩⟩ (fun i σ' H' _ ⟨B', O', G', e', p', s'⟩ => hG0 B' O' H' e' s'.w) ?_ ?_
  · rintro i x σ' H3 H4 hi ⟨B3, O3, G3, e3, p3, s3⟩ y
    obtain ⟨e, B4, hie, e4, w4, dx⟩ := hY i H3 x H4 B3 _ e3 s3.w hi y
    refine hs es i e B4 O3 G3 σ' H4 x hie ((e2.trans e3).trans e4) (mono _ _ _ _ _ _ e4 p3) ⟨w4, s3.s.ex e4⟩ dx _ fun B' O' G' σ2 H5 e5 p5 s5 => ⟨B', O', G', (e3.trans e4).trans e5, p5, s5⟩
  · rintro σ' H3 ⟨B3, O3, G3, e3, p3, s3⟩
    exact hd es B3 O3 G3 σ' H3 (e2.trans e3) (by rw [← hn]; exact p3) s3
theorem qx_for {wi : TI} {g : TG} {T : List PyData → Hp → Prop} (s : Sta K B O G σ H) (hI : EvIX K B O G wi T) (P : List PyData → Nat → Hp → Hp → List SD → Prop) (mono : ∀ es i B1 B2 O1 G1, Ex B1 B2 → P es i B1 O1 G1 → P es i B2 O1 G1)
    (h0 : ∀ es O' B', Ex B B' → T es O' → P es 0 B' O' G)
    (hs : ∀ es i e B1 O1 G1 σ1 H1 v, es[i]? = some e → Ex B B1 → P es i B1 O1 G1 → Sta K B1 O1 G1 σ1 H1 → Dt K B1 v e → ∀ N : L2.St → Hp → Prop, (∀ B' O' G' σ' H', Ex B1 B' → P es (i + 1) B' O' G' → Sta K B' O' G' σ' H' → N σ' H') → g v σ1 H1 fun σ2 H2 => tu { D with nx := N, ct := N, bk := tz D } σ2 H2)
    (hd : ∀ es B1 O1 G1 σ1 H1, Ex B B1 → P es es.length B1 O1 G1 → Sta K B1 O1 G1 σ1 H1 → tz D σ1 H1) : tSeq (tFor wi g tu) tz D σ H := sx_for (D := { D with nx := tz D }) s hI P mono h0 hs hd
theorem ex_slL {P : Int → Hp → Prop} (h : EvD K B O G te (.list ds)) (h2 : EvX K B O G th (fun d O' => ∃ r : Int, d = .int r ∧ P r O')) : EvX K B O G (tSl (rSlL K) te tNoPart (tPart th)) (fun d O' => ∃ r : Int, d = .list (cutX ds none (some r)) ∧ P r O') := fun B1 σ H e1 s Q q =>
  h B1 O σ H e1 (Ex.refl _) s _ fun v B2 H2 e2 w2 d2 => h2 B2 σ H2 (e1.trans e2) (s.ex e2 w2) _ fun u d B4 O4 H4 e4 ⟨r, ed, hr⟩ w4 du => by
    subst ed
    obtain ⟨a, xs, rfl, k1, k2⟩ := dp_lst d2
    have k1' := e4 _ _ k1
    have k2' := dps_ex e4 _ _ k2
    exact ⟨r, dp_int du, a, xs, rfl, .inl (.inl (w4.b _ _ k1')), fun p hp => q _ _ (upd B4 p _) O4 _ ((e2.trans e4).trans (Ex.new (w4.fb hp))) ⟨r, rfl, hr⟩ (w4.newB hp) (.lst upd_same (dps_ex (Ex.new (w4.fb hp)) _ _ (cut_dps k2')))⟩
/-- an owned list compared -/
theorem ev_eqO {l : Addr} {vs : List V} {e : PyData} {b : Bool} (hg : G[i]? = some (.val (.ref l))) (ho : O l = some (.lst vs)) (hv : DtAll K B vs ds) (hb : EvD K B O G tb e) (s1 : SeqAt.shaped (.list ds) = true) (s2 : SeqAt.shaped e = true) (h : PyData.eqv (.list ds) e = b) : EvD K B O G (tOp (rEqD K) (tVar i) tb) (.bool b) := fun B1 O1 σ H e1 o s Q q => by
  obtain ⟨sv, h1, h2⟩ := s.s.get hg
  have h3 : sv = some (.ref l) := h2
  subst h3
  refine ⟨_, h1, ?_⟩
  refine hb B1 O1 σ H e1 o s _ fun v B2 H2 e2 w2 d2 => ?_
  have hl : H2 l = some (.lst vs) := w2.o _ _ (o _ _ ho)
  refine ⟨.list ds, e, .lst (.inl (.inl hl)) (dt_dps _ _ (dps_ex ((e1.trans e2).trans w2.b) _ _ hv)), dt_dp _ _ (dp_ex w2.b _ _ d2), s1, s2, ?_⟩
  rw [h]
  exact q _ B2 H2 e2 w2 (.bl _)
theorem ev_neO {l : Addr} {vs : List V} {e : PyData} {b : Bool} (hg : G[i]? = some (.val (.ref l))) (ho : O l = some (.lst vs)) (hv : DtAll K B vs ds) (hb : EvD K B O G tb e) (s1 : SeqAt.shaped (.list ds) = true) (s2 : SeqAt.shaped e = true) (h : (!PyData.eqv (.list ds) e) = b) : EvD K B O G (tOp (rNeD K) (tVar i) tb) (.bool b) := fun B1 O1 σ H e1 o s Q q => by
  obtain ⟨sv, h1, h2⟩ := s.s.get hg
  have h3 : sv = some (.ref l) := h2
  subst h3
  refine ⟨_, h1, ?_⟩
  refine hb B1 O1 σ H e1 o s _ fun v B2 H2 e2 w2 d2 => ?_
  have hl : H2 l = some (.lst vs) := w2.o _ _ (o _ _ ho)
  refine ⟨.list ds, e, .lst (.inl (.inl hl)) (dt_dps _ _ (dps_ex ((e1.trans e2).trans w2.b) _ _ hv)), dt_dp _ _ (dp_ex w2.b _ _ d2), s1, s2, ?_⟩
  rw [h]
  exact q _ B2 H2 e2 w2 (.bl _)
end
end DL
namespace PT
open PySem DL
theorem good_int {i : Int} : good (.int i) = true := by simp [good, flatD, SeqAt.shaped, PyData.canLay0, PyData.depth]
theorem good_none : good .none = true := by simp [good, flatD, SeqAt.shaped, PyData.canLay0, PyData.depth]
theorem good_str {x : Str} (h : PyData.strOk x = true) : good (.str x) = true := by simp [good, flatD, SeqAt.shaped, PyData.canLay0, PyData.depth, h]
theorem good_parts {d : PyData} (h : good d = true) : flatD d = true ∧ d.canLay0 = true ∧ d.depth = 0 := by
  unfold good at h
  rw [Bool.and_eq_true] at h
  refine ⟨h.1, PySem.SeqAt.canLay_of_shaped h.2, ?_⟩
  cases d with
  | none => simp [PyData.depth]
  | bool => simp [PyData.depth]
  | int => simp [PyData.depth]
  | str => simp [PyData.depth]
  | list => simp [flatD] at h
  | tuple => simp [flatD] at h
  | dict => simp [flatD] at h
/-- data that can be compared, at most n deep -/
def Lay (n : Nat) (d : PyData) : Prop := d.canLay0 = true ∧ d.depth ≤ n
theorem Lay.sh {n : Nat} {d : PyData} (h : Lay n d) (hn : n ≤ 64) : SeqAt.shaped d = true := by
  unfold SeqAt.shaped
  rw [h.1, decide_eq_true (Nat.le_trans h.2 hn)]
  rfl
theorem Lay.mono {n m : Nat} {d : PyData} (h : Lay n d) (l : n ≤ m) : Lay m d := ⟨h.1, Nat.le_trans h.2 l⟩
theorem lay_all {n : Nat} : ∀ {ds : List PyData}, (∀ d, d ∈ ds → Lay n d) → PyData.canLayAll0 ds = true ∧ PyData.depthAll ds ≤ n
  | [], _ => by simp [PyData.canLayAll0, PyData.depthAll]
  | d :: ds, h => by
    obtain ⟨h1, h2⟩ := lay_all (ds := ds) fun x hx => h x (List.mem_cons_of_mem _ hx)
    obtain ⟨h3, h4⟩ := h d List.mem_cons_self
    rw [PyData.canLayAll0, h1, h3, PyData.depthAll]
    exact ⟨rfl, by omega⟩
theorem lay_tup {n : Nat} {ds : List PyData} (h : ∀ d, d ∈ ds → Lay n d) : Lay (n + 1) (.tuple ds) := by
  obtain ⟨h1, h2⟩ := lay_all h
  exact ⟨by rw [PyData.canLay0]; exact h1, by rw [PyData.depth]; omega⟩
theorem lay_lst {n : Nat} {ds : List PyData} (h : ∀ d, d ∈ ds → Lay n d) : Lay (n + 1) (.list ds) := by
  obtain ⟨h1, h2⟩ := lay_all h
  exact ⟨by rw [PyData.canLay0]; exact h1, by rw [PyData.depth]; omega⟩
theorem lay_good {n : Nat} {d : PyData} (h : good d = true) : Lay n d := by
  obtain ⟨_, h2, h3⟩ := good_parts h
  exact ⟨h2, by omega⟩
theorem lay_good' {n : Nat} {ds : List PyData} (h : ds.all good = true) {d : PyData} (hd : d ∈ ds) : Lay n d := lay_good (List.all_eq_true.mp h d hd)
theorem lay_int {n : Nat} {i : Int} : Lay n (.int i) := lay_good good_int
theorem word_ok {t : Part} (h : ok0 t) : PyData.strOk (word t) = true := by
  cases t with
  | row => exact (by decide +kernel : PyData.strOk ("row" : Str) = true)
  | choice => exact (by decide +kernel : PyData.strOk ("choice" : Str) = true)
  | leaf x fs =>
    have hx := h.1
    simp only [isLeafW, Bool.or_eq_true] at hx
    show PyData.strOk x = true
    rcases hx with (e | e) | e <;> (have e' := eq_of_beq e; subst e'; decide +kernel)
  | one x fs p =>
    have hx := h.1
    simp only [isOneW, Bool.or_eq_true] at hx
    show PyData.strOk x = true
    rcases hx with (((e | e) | e) | e) | e <;> (have e' := eq_of_beq e; subst e'; decide +kernel)
theorem lay_enc : ∀ {h : Nat} {t : Part}, ok h t → Lay (3 * h) (enc t)
  | 0, _, o => o.elim
  | h + 1, t, o => by
    have ih : ∀ p, p ∈ kids t → Lay (3 * h) (enc p) := fun p hp => lay_enc (o.2 p hp)
    have hw : ∀ n, Lay n (.str (word t)) := fun n => lay_good (good_str (word_ok o.1))
    rw [enc_eq]
    have h0 : Lay (3 * h + 2 + 1) (.tuple (.str (word t) :: fields t)) := by
      refine lay_tup fun d hd => ?_
      rw [List.mem_cons] at hd
      rcases hd with e | hd
      · subst e
        exact hw _
      · cases t with
        | leaf x fs => exact lay_good' o.1.2.2 hd
        | row ps =>
          have e : d = .tuple (ps.map enc) := by simpa [fields] using hd
          subst e
          refine (lay_tup (n := 3 * h) fun d hd => ?_).mono (by omega)
          obtain ⟨p, hp, rfl⟩ := List.mem_map.mp hd
          exact ih p hp
        | choice m os =>
          have e : d = m ∨ d = .tuple (os.map fun o => .tuple [.int o.1, enc o.2]) := by simpa [fields] using hd
          rcases e with e | e
          · subst e
            exact lay_good o.1.1
          · subst e
            refine lay_tup (n := 3 * h + 1) fun d hd => ?_
            obtain ⟨p, hp, rfl⟩ := List.mem_map.mp hd
            refine lay_tup (n := 3 * h) fun d hd => ?_
            have e : d = .int p.1 ∨ d = enc p.2 := by simpa using hd
            rcases e with e | e
            · subst e
              exact lay_int
            · subst e
              exact ih p.2 (List.mem_map.mpr ⟨p, hp, rfl⟩)
        | one x fs p =>
          have e : d ∈ fs ∨ d = enc p := by simpa [fields] using hd
          rcases e with e | e
          · exact lay_good' o.1.2.2.1 e
          · subst e
            exact (ih p (by simp [kids])).mono (by omega)
    exact h0.mono (by omega)
theorem lay_opts {h : Nat} {os : List (Int × Part)} (ho : ∀ o, o ∈ os → ok h o.2) : Lay (3 * h + 2) (.list (os.map fun o => .tuple [.int o.1, enc o.2])) := by
  refine lay_lst (n := 3 * h + 1) fun d hd => ?_
  obtain ⟨p, hp, rfl⟩ := List.mem_map.mp hd
  refine lay_tup (n := 3 * h) fun d hd => ?_
  have e : d = .int p.1 ∨ d = enc p.2 := by simpa using hd
  rcases e with e | e
  · subst e
    exact lay_int
  · subst e
    exact lay_enc (ho p hp)
theorem lay_path {p : List Int} : Lay 1 (encP p) := by
  refine lay_tup (n := 0) fun d hd => ?_
  obtain ⟨i, _, rfl⟩ := List.mem_map.mp hd
  exact lay_int
theorem lay_places {h : Nat} {t : Part} (ho : ok h t) (hh : h ≤ 7) : Lay 24 (.list ((subs h t).map encQ)) := by
  refine lay_lst (n := 23) fun d hd => ?_
  obtain ⟨q, hq, rfl⟩ := List.mem_map.mp hd
  refine lay_tup (n := 22) fun d hd => ?_
  have e : d = encP q.1 ∨ d = enc q.2 := by simpa using hd
  rcases e with e | e
  · subst e
    exact lay_path.mono (by omega)
  · subst e
    exact (lay_enc (ok_get ho (subs_get (p := q.1) (c := q.2) hq))).mono (by omega)
end PT

set_option Elab.async false
set_option linter.all false
set_option maxRecDepth 100000
set_option maxHeartbeats 2000000
/-! Operators that a class of the text defines itself: in, ==, !=, |, &, -, +, <=. -/
namespace OWN
open PySem PySem.Spec PyProof.Rows
section
variable {M : Model} {prog : Program} {w : World} {A : Around} {E : Value → Shared → Prop} {s : Shared} {K : PySem.W.Frag} {x C f L : Addr} {ox : Obj} {od : Option Obj} {h₀ : Heap} {m : Str → Option Value} {b tb : Value}
theorem ifBound_objNe {args : List Value} {Q : Option Value → Shared → Prop} (X : K.In s.heap) (I : PySem.W.InstAt s.heap x ox C od) (hs : PySem.W.findIn K (.ref C) "__ne__" = some (some (.builtin "object.__ne__")))
    (h : wpAny M A (call (.builtin "object.__ne__") (.ref x :: args)) (fun v => Q (some v)) E s) : wpAny M A (callSpecialIfBound? (.ref x) "__ne__" args) Q E s := by
  simp only [callSpecialIfBound?, bindSpecialIfBound?]
  have found := PySem.W.looks_findIn (M := M) X hs
  refine wpAny_holding (wpAny_bind (wpAny_bind (wpAny_bind (I.type.here (found.here ?_)))))
  refine wpAny_bind (wpAny_askSetting (wpAny_ite ?_))
  have fin : wpAny M A (call (.builtin "object.__ne__") ([.ref x] ++ args) >>= fun v => pure (some v)) Q E s := wpAny_bind (wpAny_mono h (fun v s' h' => wpAny_pure h') fun _ _ h' => h')
  split
  · exact wpAny_bind (wpAny_of_eq (F.cmp_object.ne.bind _) (wpAny_pure (by exact fin)))
  · exact wpAny_tryCatch (wpAny_bind (wpAny_of_eq (F.cmp_object.ne.bind _) (wpAny_pure (by exact fin))))
/-- how object.__ne__ answers by an own == that answers a bool -/
theorem entry_ne {Q : Fin → Shared → Prop} (hu : A.units < cLine) (X : K.In s.heap) (I : PySem.W.InstAt s.heap x ox C od) (hs : PySem.W.findIn K (.ref C) "__eq__" = some (some (.ref f))) (hf : PySem.W.isFn K (.ref f) = true)
    (hcall : wpAny M A (call (.ref f) [.ref x, b]) (fun v s' => ∃ k, v = .bool k ∧ Q (.done (.ret (.bool (!k)))) s') E s) : wpAny M A (Builtin.«object.__ne__» ⟨[.ref x, b], []⟩) Q E s := by
  unfold Builtin.«object.__ne__»
  repeat (first
    | with_reducible refine wpAny_cRoomFor hu ?_
    | (refine wpAny_bind (m := callSpecialIfBound? (.ref x) (Str.ofString "__eq__") [b])
        (PySem.W.ifBound_K X I hs hf (wpAny_mono hcall (fun r s' hr => by
          obtain ⟨k, rfl, hq⟩ := hr
          repeat (first | exact wpAny_truthy_bool hq | exact wpAny_pure hq | exact hq | (refine wpAny_bind (m := truthy (.bool _)) (wpAny_truthy_bool ?_)) | wp_step)) fun _ _ err => err)))
    | wp_step)
theorem call_ne {Q : Value → Shared → Prop} (hu : A.units + 1 < cLine) (X : K.In s.heap) (I : PySem.W.InstAt s.heap x ox C od) (hm : PySem.W.mroIn K C (.type "object") = some true) (hs : PySem.W.findIn K (.ref C) "__eq__" = some (some (.ref f))) (hf : PySem.W.isFn K (.ref f) = true)
    (hcall : wpAny (model prog w) A.in1 (call (.ref f) [.ref x, b]) (fun v s' => ∃ k, v = .bool k ∧ Q (.bool (!k)) s') E s) :
    wpAny (model prog w) A (call (.builtin "object.__ne__") [.ref x, b]) Q E s :=
  wpAny_call (codeAny_call_builtin F.cmp_object.ne.plain F.cmpEntry_ne (PySem.W.check_slot F.cmpKind_ne F.cmpSplit_ne (I.type.andThen (PySem.W.looks_mroIn X hm)) (F.cmpArgs_ne _ _) (entry_ne (A := A.in1) hu X I hs hf hcall)))
theorem cmp_ne {Q : Value → Shared → Prop} (hu : A.units + 1 < cLine) (X : K.In s.heap) (I : PySem.W.InstAt s.heap x ox C od) (hb : PySem.W.Looks (model prog w) s.heap (typeOf b) tb) (hn : PySem.W.notFirst K C tb = true) (hm : PySem.W.mroIn K C (.type "object") = some true)
    (hne : PySem.W.findIn K (.ref C) "__ne__" = some (some (.builtin "object.__ne__"))) (hs : PySem.W.findIn K (.ref C) "__eq__" = some (some (.ref f))) (hf : PySem.W.isFn K (.ref f) = true)
    (hcall : wpAny (model prog w) A.in1 (call (.ref f) [.ref x, b]) (fun v s' => ∃ k, v = .bool k ∧ Q (.bool (!k)) s') E s) : wpAny (model prog w) A (richCompare .NotEq (.ref x) b) Q E s := by
  have one : wpAny (model prog w) A (tryCompare (.ref x) "__ne__" b) (fun r s' => ∃ v, r = some v ∧ Q v s') E s := by
    unfold tryCompare
    refine wpAny_bind (ifBound_objNe X I hne (call_ne hu X I hm hs hf (wpAny_mono hcall (fun v s' hv => ?_) fun _ _ e => e)))
    obtain ⟨k, rfl, hq⟩ := hv
    exact ⟨k, rfl, wpAny_pure ⟨_, rfl, hq⟩⟩
  unfold richCompare
  simp only [oneThing_ref]
  refine wpAny_holding (wpAny_bind (wpAny_cRoomFor (Nat.lt_of_succ_lt hu) ?_))
  refine wpAny_bind (I.type.here (wpAny_bind (hb.here ?_)))
  split
  · rename_i q
    have e : PySem.W.subIn K tb (.ref C) = some false := by
      rcases Bool.or_eq_true_iff.mp hn with e | e
      · rw [beq_iff_eq.mp e] at q; simp at q
      · exact beq_iff_eq.mp e
    refine wpAny_bind ((PySem.W.looks_subIn X e).here ?_)
    simp only [Bool.false_eq_true, if_false]
    refine wpAny_bind (wpAny_mono one (fun r s2 got => ?_) fun _ _ err => err)
    obtain ⟨v, rfl, hq⟩ := got
    exact wpAny_pure hq
  · refine wpAny_bind (wpAny_pure ?_)
    simp only [Bool.false_eq_true, if_false]
    refine wpAny_bind (wpAny_mono one (fun r s2 got => ?_) fun _ _ err => err)
    obtain ⟨v, rfl, hq⟩ := got
    exact wpAny_pure hq
end
end OWN
namespace L2
open PySem PySem.Spec PyProof.Rows
section
variable {X : Cx} {CX : CXT} {n : Nat} {C f : Addr} {fd : FuncData} {ps : List Str} {sp : Sp} {E : XK} {H : Hp} {s : Shared} {σ : St} {pins : List (Addr × Obj)}
/-- a def runs inside an operator -/
theorem run_own {A : Around} {Q : VK} {us : List Value} {vs : List V} (F : FnOk X.prog X.w X.K X.mg X.base CX n f fd ps sp) (hb : Binds X.K fd ps []) (hx : Passes CX X E) (hr : Room n A) (hf : A.frames = X.A.frames) (I : Inv X pins σ H s) (r : Vals vs us) (h : sp vs H Q E) :
    wpAny (model X.prog X.w) A (call (.ref f) us) (EP X pins σ Q) X.xe s := by
  have here : Env0 X.prog X.w X.K X.mg X.base A X.stack s H := { I.env0 with frames := by rw [hf]; exact I.env0.frames }
  have hl := F.len _ _ _ _ h
  refine wpAny_call (codeAny_mono (F.run A X.stack s H ⟨us, []⟩ us vs _ E hr here (by
    have := hb s us I.kIn (by rw [List.length_append, ← r.length]; simpa using hl)
    simpa using this) r h) fun r s' hq => ?_)
  cases r with
  | error e => exact hx pins σ H s e s' I hq
  | ok fl =>
    cases fl with
    | ret w => exact I.after hq
    | next => exact False.elim hq
    | brk => exact False.elim hq
    | cont => exact False.elim hq
/-- an instance of the heap, as the rules of operators want it -/
theorem at_ins {P : Program} {w : World} {h : Heap} {H : Hp} {a dx C : Addr} {fs : List (Str × V)} (hok : HOk P w H h) (e : H a = some (.ins C dx fs)) : ∃ ox od, PySem.W.InstAt h a ox C od :=
  (ins_get hok e).elim fun _ m => m.1.look.elim fun od j => ⟨_, od, j.1⟩
/-- x in y, y an instance of the class at C -/
def rInOwn (C : Addr) (sp : Sp) (E : XK) : R2 := fun x y H Q => ∃ a dx fs, y = .ref a ∧ H a = some (.ins C dx fs) ∧ sp [y, x] H (fun z H' => ∃ k, z = .bl k ∧ Q (.bl k) H') E
theorem op_inOwn (F : FnOk X.prog X.w X.K X.mg X.base CX n f fd ps sp) (hb : Binds X.K fd ps []) (hx : Passes CX X E) (hr : Room n X.A) (hs : PySem.W.findIn X.K (.ref C) "__contains__" = some (some (.ref f))) (hf : PySem.W.isFn X.K (.ref f) = true) :
    OpR X (compareOp .In) (rInOwn C sp E) := by
  intro pins s σ H x y v u Q I rx ry h
  obtain ⟨a, dx, fs, rfl, ha, q⟩ := h
  cases (show u = Value.ref a from ry)
  have ⟨_, _, J⟩ := at_ins I.hok ha
  obtain ⟨m, hF⟩ := I.fr
  refine PySem.W.in_K hF I.ok.mod.kin J hs hf (wpAny_mono (run_own F hb hx hr rfl I (us := [.ref a, v]) (vs := [.ref a, x]) (.cons rfl (.cons rx .nil)) q) (fun w s' z => ?_) fun _ _ x => x)
  obtain ⟨z', H', I', rz, k, ek, qk⟩ := z
  subst ek
  cases (show w = Value.bool k from rz)
  exact wpAny_truthy_bool ⟨.bl k, H', I', rfl, qk⟩
/-- x == y (x <= y, ..), x an instance of the class at C, y of that class too or of none of the text's -/
def rCmpOwn (K : PySem.W.Frag) (C : Addr) (sp : Sp) (E : XK) : R2 := fun x y H Q => ∃ a dx fs b dy gs, x = .ref a ∧ y = .ref b ∧ H a = some (.ins C dx fs) ∧ H b = some (.ins C dy gs) ∧ sp [x, y] H Q E
theorem op_cmpOwn {op : CmpOp} (hop : ∀ a b, compareOp op a b = richCompare op a b) (hs : PySem.W.findIn X.K (.ref C) (cmpInfo op).2.1 = some (some (.ref f))) (hf : PySem.W.isFn X.K (.ref f) = true)
    (F : FnOk X.prog X.w X.K X.mg X.base CX n f fd ps sp) (hb : Binds X.K fd ps []) (hr : Room n X.A) (hx : Passes CX X E) : OpR X (compareOp op) (rCmpOwn X.K C sp E) := by
  intro pins s σ H x y v u Q I rx ry h
  obtain ⟨a, dx, fs, b, dy, gs, rfl, rfl, ha, hb', q⟩ := h
  cases (show v = Value.ref a from rx)
  cases (show u = Value.ref b from ry)
  have ⟨_, _, J⟩ := at_ins I.hok ha
  have ⟨_, _, J'⟩ := at_ins I.hok hb'
  obtain ⟨m, hF⟩ := I.fr
  rw [hop]
  refine PySem.W.cmp_K (op := op) (tb := .ref C) hr.units0 hF I.ok.mod.kin J J'.type (by simp [PySem.W.notFirst]) hs hf ?_
  refine wpAny_mono (run_own F hb hx hr rfl I (us := [.ref a, .ref b]) (vs := [.ref a, .ref b]) (.cons rfl (.cons rfl .nil)) q) (fun w s' z => ?_) fun _ _ x => x
  obtain ⟨z', H', I', rz, qz⟩ := z
  exact SlX.cmpback rz ⟨z', H', I', rz, qz⟩
/-- x != y by the own == -/
def rNeOwn (C : Addr) (sp : Sp) (E : XK) : R2 := fun x y H Q => ∃ a dx fs b dy gs, x = .ref a ∧ y = .ref b ∧ H a = some (.ins C dx fs) ∧ H b = some (.ins C dy gs) ∧ sp [x, y] H (fun z H' => ∃ k, z = .bl k ∧ Q (.bl (!k)) H') E
theorem op_neOwn (hm : PySem.W.mroIn X.K C (.type "object") = some true) (hne : PySem.W.findIn X.K (.ref C) "__ne__" = some (some (.builtin "object.__ne__"))) (hs : PySem.W.findIn X.K (.ref C) "__eq__" = some (some (.ref f))) (hf : PySem.W.isFn X.K (.ref f) = true)
    (F : FnOk X.prog X.w X.K X.mg X.base CX n f fd ps sp) (hb : Binds X.K fd ps []) (hr : Room (n + 1) X.A) (hx : Passes CX X E) : OpR X (compareOp .NotEq) (rNeOwn C sp E) := by
  intro pins s σ H x y v u Q I rx ry h
  obtain ⟨a, dx, fs, b, dy, gs, rfl, rfl, ha, hb', q⟩ := h
  cases (show v = Value.ref a from rx)
  cases (show u = Value.ref b from ry)
  have ⟨_, _, J⟩ := at_ins I.hok ha
  have ⟨_, _, J'⟩ := at_ins I.hok hb'
  show wpAny (model X.prog X.w) X.A (richCompare .NotEq (.ref a) (.ref b)) _ _ _
  refine OWN.cmp_ne (tb := .ref C) (hr.in1.units0) I.kIn J J'.type (by simp [PySem.W.notFirst]) hm hne hs hf ?_
  refine wpAny_mono (run_own (A := X.A.in1) F hb hx hr.in1 rfl I (us := [.ref a, .ref b]) (vs := [.ref a, .ref b]) (.cons rfl (.cons rfl .nil)) q) (fun w s' z => ?_) fun _ _ x => x
  obtain ⟨z', H', I', rz, k, ek, qk⟩ := z
  subst ek
  cases (show w = Value.bool k from rz)
  exact ⟨k, rfl, .bl (!k), H', I', rfl, qk⟩
/-- x | y, x & y, .., x an instance of the class at C -/
def rBinOwn (C : Addr) (sp : Sp) (E : XK) : R2 := fun x y H Q => ∃ a dx fs b dy gs, x = .ref a ∧ y = .ref b ∧ H a = some (.ins C dx fs) ∧ H b = some (.ins C dy gs) ∧ sp [x, y] H Q E
theorem op_binOwn {op : Operator} (hc : PySem.W.selfFirst X.K C = true) (hs : PySem.W.findIn X.K (.ref C) (PySem.dunder op.info.2) = some (some (.ref f))) (hf : PySem.W.isFn X.K (.ref f) = true)
    (F : FnOk X.prog X.w X.K X.mg X.base CX n f fd ps sp) (hb : Binds X.K fd ps []) (hr : Room n X.A) (hx : Passes CX X E) : OpR X (binaryOp op) (rBinOwn C sp E) := by
  intro pins s σ H x y v u Q I rx ry h
  obtain ⟨a, dx, fs, b, dy, gs, rfl, rfl, ha, hb', q⟩ := h
  cases (show v = Value.ref a from rx)
  cases (show u = Value.ref b from ry)
  have ⟨_, _, J⟩ := at_ins I.hok ha
  have ⟨_, _, J'⟩ := at_ins I.hok hb'
  obtain ⟨m, hF⟩ := I.fr
  refine PySem.W.binop_K hF I.ok.mod.kin J J'.type hc hs hf ?_
  refine wpAny_mono (run_own F hb hx hr rfl I (us := [.ref a, .ref b]) (vs := [.ref a, .ref b]) (.cons rfl (.cons rfl .nil)) q) (fun w s' z => ?_) fun _ _ x => x
  obtain ⟨z', H', I', rz, qz⟩ := z
  exact SlX.cmpback rz ⟨z', H', I', rz, qz⟩
end
end L2

set_option Elab.async false
set_option linter.all false
set_option maxRecDepth 100000
set_option maxHeartbeats 2000000
/-! isinstance on data. -/
namespace DL
open PySem PySem.Spec PyProof.Rows L2 StX
def tyN : PyData → String
  | .none => "NoneType"
  | .bool _ => "bool"
  | .int _ => "int"
  | .str _ => "str"
  | .list _ => "list"
  | .tuple _ => "tuple"
  | .dict _ => "dict"
theorem ty_of {K : PySem.W.Frag} {B H : Hp} {v : V} {d : PyData} (e : Ex B H) (h : Dt K B v d) : TyX K H v (.type (tyN d)) := by
  cases h with
  | non => exact .base .non
  | bl b => exact .base (.bl b)
  | int i => exact .base (.int i)
  | str x => exact .base (.str x)
  | lst h1 h2 => exact .base (.lst (e _ _ h1))
  | tup h1 h2 =>
    rcases h1 with (h1 | ⟨o, h1⟩) | ⟨o, its, n, h1, h3, _⟩
    · exact .base (.tup (e _ _ h1))
    · exact .fTuple (e _ _ h1)
    · exact .kTuple h1 h3
def isIntD : PyData → Bool
  | .int _ => true
  | .bool _ => true
  | _ => false
def isBoolD : PyData → Bool
  | .bool _ => true
  | _ => false
def isListD : PyData → Bool
  | .list _ => true
  | _ => false
def isTupD : PyData → Bool
  | .tuple _ => true
  | _ => false
theorem kit_int : ∀ (d : PyData), kitB (tyN d) "int" = some (isIntD d)
  | .none => (by decide +kernel : kitB "NoneType" "int" = some false)
  | .bool _ => (by decide +kernel : kitB "bool" "int" = some true)
  | .int _ => (by decide +kernel : kitB "int" "int" = some true)
  | .str _ => (by decide +kernel : kitB "str" "int" = some false)
  | .list _ => (by decide +kernel : kitB "list" "int" = some false)
  | .tuple _ => (by decide +kernel : kitB "tuple" "int" = some false)
  | .dict _ => (by decide +kernel : kitB "dict" "int" = some false)
theorem kit_bool : ∀ (d : PyData), kitB (tyN d) "bool" = some (isBoolD d)
  | .none => (by decide +kernel : kitB "NoneType" "bool" = some false)
  | .bool _ => (by decide +kernel : kitB "bool" "bool" = some true)
  | .int _ => (by decide +kernel : kitB "int" "bool" = some false)
  | .str _ => (by decide +kernel : kitB "str" "bool" = some false)
  | .list _ => (by decide +kernel : kitB "list" "bool" = some false)
  | .tuple _ => (by decide +kernel : kitB "tuple" "bool" = some false)
  | .dict _ => (by decide +kernel : kitB "dict" "bool" = some false)
theorem kit_list : ∀ (d : PyData), kitB (tyN d) "list" = some (isListD d)
  | .none => (by decide +kernel : kitB "NoneType" "list" = some false)
  | .bool _ => (by decide +kernel : kitB "bool" "list" = some false)
  | .int _ => (by decide +kernel : kitB "int" "list" = some false)
  | .str _ => (by decide +kernel : kitB "str" "list" = some false)
  | .list _ => (by decide +kernel : kitB "list" "list" = some true)
  | .tuple _ => (by decide +kernel : kitB "tuple" "list" = some false)
  | .dict _ => (by decide +kernel : kitB "dict" "list" = some false)
theorem kit_tup : ∀ (d : PyData), kitB (tyN d) "tuple" = some (isTupD d)
  | .none => (by decide +kernel : kitB "NoneType" "tuple" = some false)
  | .bool _ => (by decide +kernel : kitB "bool" "tuple" = some false)
  | .int _ => (by decide +kernel : kitB "int" "tuple" = some false)
  | .str _ => (by decide +kernel : kitB "str" "tuple" = some false)
  | .list _ => (by decide +kernel : kitB "list" "tuple" = some false)
  | .tuple _ => (by decide +kernel : kitB "tuple" "tuple" = some true)
  | .dict _ => (by decide +kernel : kitB "dict" "tuple" = some false)
section
variable {K : PySem.W.Frag} {B O : Hp} {G : List SD} {te : TE} {d : PyData}
/-- isinstance(x, T), T a built-in class -/
theorem ev_isi {n : String} {b : Bool} (h : EvD K B O G te d) (k : kitB (tyN d) n = some b) : EvD K B O G (tCB (rIsi K) (tCons te (tCons (tC (.ty n)) tNil))) (.bool b) := fun B1 O1 σ H e1 o s Q q =>
  h B1 O1 σ H e1 o s _ fun v B2 H2 e2 w2 d2 => ⟨v, .ty n, _, _, b, rfl, .ty n, ty_of w2.b d2, kit_ty k, q _ B2 H2 e2 w2 (.bl b)⟩
/-- isinstance(x, (list, tuple)) -/
theorem ev_isiT {b : Bool} (h : EvD K B O G te d) (e : (isListD d || isTupD d) = b) : EvD K B O G (tCB (rIsiT K) (tCons te (tCons (tTup (tCons (tC (.ty "list")) (tCons (tC (.ty "tuple")) tNil))) tNil))) (.bool b) := fun B1 O1 σ H e1 o s Q q =>
  h B1 O1 σ H e1 o s _ fun v B2 H2 e2 w2 d2 => ⟨by decide, fun p hp => by
    refine ⟨v, p, [.ty "list", .ty "tuple"], _, [.type "list", .type "tuple"], b, rfl, upd_same, .cons (.ty _) (.cons (.ty _) .nil), ty_of (B := upd B2 p (.tup [.ty "list", .ty "tuple"])) (w2.newB hp).b (dp_ex (Ex.new (w2.fb hp)) _ _ d2), ?_, q _ (upd B2 p (.tup [.ty "list", .ty "tuple"])) _ (e2.trans (Ex.new (w2.fb hp))) (w2.newB hp) (.bl b)⟩
    refine kitAny_cons (kit_ty (kit_list d)) (fun h1 => ?_) (fun h1 => by rw [← e, h1]; rfl)
    refine kitAny_cons (kit_ty (kit_tup d)) (fun h2 => ?_) (fun h2 => by rw [← e, h1, h2]; rfl)
    rw [← e, h1, h2]
    exact kitAny_nil⟩
end
section
variable (K : PySem.W.Frag) {X : Cx}
theorem call_isiK' (h : X.K = K := by rfl) : CallR X (.builtin "isinstance") (rIsi K) := h ▸ call_isi
theorem call_isiTK (h : X.K = K := by rfl) : CallR X (.builtin "isinstance") (rIsiT K) := h ▸ call_isiT
end
/-- whole numbers that are no bool, at least lo -/
def whole : PyData → Option Int
  | .int i => some i
  | _ => none
theorem whole_int {d : PyData} : (isIntD d && !isBoolD d) = (whole d).isSome := by cases d <;> rfl
end DL

set_option Elab.async false
set_option linter.all false
set_option maxRecDepth 100000
set_option maxHeartbeats 2000000
/-! Parts of readers among all data: forms, parts, sizes, places, the first wrong one. -/
namespace PD
open PySem DL
def encO : Option Int → PyData
  | none => .none
  | some i => .int i
def under (hi : Option Int) (i : Int) : Bool := match hi with
  | none => true
  | some h => decide (i ≤ h)
def isWhole (d : PyData) : Bool := isIntD d && !isBoolD d
/-- from lo on, at most hi -/
def inFrom (d : PyData) (lo : Int) (hi : Option Int) : Bool := match d with
  | .int i => decide (lo ≤ i) && under hi i
  | _ => false
def orNone (d : PyData) (lo : Int) (hi : Option Int) : Bool := match d with
  | .none => true
  | _ => inFrom d lo hi
def intOf : PyData → Int
  | .int i => i
  | _ => 0
def oneOf (ws : List Str) : PyData → Bool
  | .str x => ws.any (x == ·)
  | _ => false
abbrev MANNERS : List Str := ["checked", "bare"]
abbrev LIMITS : List Str := ["nested", "cut", "told"]
abbrev RESTS : List Str := ["skip", "exact"]
abbrev HOLDERS : List Str := ["times", "counted", "within", "fill", "if left"]
def nextD (d : PyData) : Int := intOf d + 1
def optsOk : Int → List PyData → Bool
  | _, [] => true
  | lo, .tuple [n, _] :: r => inFrom n lo (some 99) && optsOk (nextD n) r
  | _, _ => false
def isCell : List PyData → Bool
  | [lo, hi, m] => inFrom lo 0 (some 1000000) && (orNone hi (intOf lo) (some 1000000) && oneOf MANNERS m)
  | _ => false
def isRow : List PyData → Bool
  | [.tuple ps] => decide (ps.length ≤ 12)
  | _ => false
def isChoice : List PyData → Bool
  | [m, .tuple os] => oneOf MANNERS m && (decide (1 ≤ os.length ∧ os.length ≤ 6) && optsOk 0 os)
  | _ => false
def isTimes : List PyData → Bool
  | [n, _] => inFrom n 0 (some 6)
  | _ => false
def isCounted : List PyData → Bool
  | [m, mo, ah, _] => oneOf MANNERS m && (orNone mo 0 (some 9) && orNone ah 0 (some 9))
  | _ => false
def isWithin : List PyData → Bool
  | [m, mo, l, r, _] => oneOf MANNERS m && (orNone mo 0 (some 20) && (oneOf LIMITS l && oneOf RESTS r))
  | _ => false
def isHolder : List PyData → Bool
  | [_] => true
  | _ => false
def isNeed : List PyData → Bool
  | [n] => inFrom n 1 (some 9)
  | _ => false
def isPad : List PyData → Bool
  | [n, m] => inFrom n 2 (some 6) && oneOf MANNERS m
  | _ => false
def formAt (w : Str) : Option (Nat × (List PyData → Bool)) :=
  if w = "cell" then some (4, isCell) else if w = "row" then some (2, isRow) else if w = "choice" then some (3, isChoice) else if w = "times" then some (3, isTimes) else if w = "counted" then some (5, isCounted)
  else if w = "within" then some (6, isWithin) else if w = "fill" then some (2, isHolder) else if w = "if left" then some (2, isHolder) else if w = "need" then some (2, isNeed) else if w = "pad" then some (3, isPad) else none
def hasForm : PyData → Bool
  | .tuple (.str w :: fs) => match formAt w with
    | some (n, p) => decide (fs.length + 1 = n) && p fs
    | none => false
  | _ => false
def second : PyData → PyData
  | .tuple [_, p] => p
  | _ => .none
def tupOf : PyData → List PyData
  | .tuple ps => ps
  | _ => []
def partsK (w : Str) (fs : List PyData) : List PyData :=
  if w = "row" then tupOf (fs.headD .none) else if w = "choice" then (tupOf (fs.getD 1 .none)).map second else if HOLDERS.any (w == ·) then [fs.getLastD .none] else []
def partsOf : PyData → List PyData
  | .tuple (.str w :: fs) => partsK w fs
  | _ => []
def wordOf : PyData → Str
  | .tuple (.str w :: _) => w
  | _ => ""
/-- what has the form of a part -/
inductive Form : PyData → Prop
  | cell (lo hi m : PyData) : isCell [lo, hi, m] = true → Form (.tuple [.str "cell", lo, hi, m])
  | row (ps : List PyData) : ps.length ≤ 12 → Form (.tuple [.str "row", .tuple ps])
  | choice (m : PyData) (os : List PyData) : isChoice [m, .tuple os] = true → Form (.tuple [.str "choice", m, .tuple os])
  | times (n x : PyData) : inFrom n 0 (some 6) = true → Form (.tuple [.str "times", n, x])
  | counted (m mo ah x : PyData) : isCounted [m, mo, ah, x] = true → Form (.tuple [.str "counted", m, mo, ah, x])
  | within (m mo l r x : PyData) : isWithin [m, mo, l, r, x] = true → Form (.tuple [.str "within", m, mo, l, r, x])
  | fill (x : PyData) : Form (.tuple [.str "fill", x])
  | left (x : PyData) : Form (.tuple [.str "if left", x])
  | need (n : PyData) : inFrom n 1 (some 9) = true → Form (.tuple [.str "need", n])
  | pad (n m : PyData) : isPad [n, m] = true → Form (.tuple [.str "pad", n, m])
theorem from_int {d : PyData} {lo : Int} {hi : Option Int} (h : inFrom d lo hi = true) : ∃ z, d = .int z ∧ lo ≤ z ∧ under hi z = true := by
  cases d with
  | int z =>
    unfold inFrom at h
    rw [Bool.and_eq_true, decide_eq_true_eq] at h
    exact ⟨z, rfl, h.1, h.2⟩
  | none => cases h
  | bool => cases h
  | str => cases h
  | list => cases h
  | tuple => cases h
  | dict => cases h
theorem inFrom_not {d : PyData} {lo : Int} {hi : Option Int} (h : isWhole d = false) : inFrom d lo hi = false := by
  cases d with
  | int i => cases h
  | none => rfl
  | bool => rfl
  | str => rfl
  | list => rfl
  | tuple => rfl
  | dict => rfl
theorem whole_cases {d : PyData} (h : isWhole d = true) : ∃ i, d = .int i := by
  cases d with
  | int i => exact ⟨i, rfl⟩
  | none => cases h
  | bool => cases h
  | str => cases h
  | list => cases h
  | tuple => cases h
  | dict => cases h
theorem row_inv {fs : List PyData} (h : isRow fs = true) : ∃ ps, fs = [.tuple ps] ∧ ps.length ≤ 12 := by
  unfold isRow at h
  split at h
  · exact ⟨_, rfl, of_decide_eq_true h⟩
  · cases h
theorem choice_inv {fs : List PyData} (h : isChoice fs = true) : ∃ m os, fs = [m, .tuple os] := by
  unfold isChoice at h
  split at h
  · exact ⟨_, _, rfl⟩
  · cases h
theorem form_of {d : PyData} (h : hasForm d = true) : Form d := by
  unfold hasForm at h
  split at h
  · rename_i w fs
    unfold formAt at h
    by_cases e : w = "cell"
    · subst e
      simp at h
      obtain ⟨hl, hp⟩ := h
      match fs, hl with
      | [a, b, c], _ => exact .cell a b c hp
    rw [if_neg e] at h
    by_cases e : w = "row"
    · subst e
      simp at h
      obtain ⟨ps, rfl, hl⟩ := row_inv h.2
      exact .row ps hl
    rw [if_neg e] at h
    by_cases e : w = "choice"
    · subst e
      simp at h
      obtain ⟨m, os, rfl⟩ := choice_inv h.2
      exact .choice m os h.2
    rw [if_neg e] at h
    by_cases e : w = "times"
    · subst e
      simp at h
      obtain ⟨hl, hp⟩ := h
      match fs, hl with
      | [a, b], _ => exact .times a b hp
    rw [if_neg e] at h
    by_cases e : w = "counted"
    · subst e
      simp at h
      obtain ⟨hl, hp⟩ := h
      match fs, hl with
      | [a, b, c, d], _ => exact .counted a b c d hp
    rw [if_neg e] at h
    by_cases e : w = "within"
    · subst e
      simp at h
      obtain ⟨hl, hp⟩ := h
      match fs, hl with
      | [a, b, c, d, f], _ => exact .within a b c d f hp
    rw [if_neg e] at h
    by_cases e : w = "fill"
    · subst e
      simp at h
      obtain ⟨hl, hp⟩ := h
      match fs, hl with
      | [a], _ => exact .fill a
    rw [if_neg e] at h
    by_cases e : w = "if left"
    · subst e
      simp at h
      obtain ⟨hl, hp⟩ := h
      match fs, hl with
      | [a], _ => exact .left a
    rw [if_neg e] at h
    by_cases e : w = "need"
    · subst e
      simp at h
      obtain ⟨hl, hp⟩ := h
      match fs, hl with
      | [a], _ => exact .need a hp
    rw [if_neg e] at h
    by_cases e : w = "pad"
    · subst e
      simp at h
      obtain ⟨hl, hp⟩ := h
      match fs, hl with
      | [a, b], _ => exact .pad a b hp
    rw [if_neg e] at h
    cases h
  · cases h
theorem Form.head {d : PyData} (h : Form d) : ∃ w fs, d = .tuple (.str w :: fs) := by
  cases h <;> exact ⟨_, _, rfl⟩
theorem parts_row {ps : List PyData} : partsOf (.tuple [.str "row", .tuple ps]) = ps := by
  show partsK _ _ = _
  unfold partsK
  rw [if_pos rfl]
  rfl
theorem parts_choice {m : PyData} {os : List PyData} : partsOf (.tuple [.str "choice", m, .tuple os]) = os.map second := by
  show partsK _ _ = _
  unfold partsK
  rw [if_neg (by decide), if_pos rfl]
  rfl
theorem parts_one {w : Str} {fs : List PyData} (h : HOLDERS.any (w == ·) = true) : partsOf (.tuple (.str w :: fs)) = [fs.getLastD .none] := by
  show partsK _ _ = _
  unfold partsK
  rw [if_neg, if_neg, if_pos h]
  · intro e
    rw [e] at h
    exact absurd h (by decide)
  · intro e
    rw [e] at h
    exact absurd h (by decide)
theorem parts_none {w : Str} {fs : List PyData} (h : HOLDERS.any (w == ·) = false) (h1 : w ≠ "row") (h2 : w ≠ "choice") : partsOf (.tuple (.str w :: fs)) = [] := by
  show partsK _ _ = _
  unfold partsK
  rw [if_neg h1, if_neg h2, if_neg (by rw [h]; exact Bool.false_ne_true)]
theorem opts_at : ∀ {os : List PyData} {lo : Int}, optsOk lo os = true → ∀ o, o ∈ os → ∃ n p, o = .tuple [.int n, p]
  | [], _, _, o, ho => by simp at ho
  | x :: os, lo, h, o, ho => by
    unfold optsOk at h
    split at h
    · rename_i heq
      cases heq
    · rename_i heq
      cases heq
      rw [Bool.and_eq_true] at h
      rcases List.mem_cons.mp ho with rfl | ho
      · obtain ⟨z, rfl, _⟩ := from_int h.1
        exact ⟨z, _, rfl⟩
      · exact opts_at h.2 o ho
    · cases h
theorem choice_opts {m : PyData} {os : List PyData} (h : isChoice [m, .tuple os] = true) : oneOf MANNERS m = true ∧ 1 ≤ os.length ∧ os.length ≤ 6 ∧ optsOk 0 os = true := by
  have h' : (oneOf MANNERS m && (decide (1 ≤ os.length ∧ os.length ≤ 6) && optsOk 0 os)) = true := h
  rw [Bool.and_eq_true, Bool.and_eq_true, decide_eq_true_eq] at h'
  exact ⟨h'.1, h'.2.1.1, h'.2.1.2, h'.2.2⟩
theorem Form.kids {d : PyData} (h : Form d) : (partsOf d).length ≤ 12 := by
  cases h with
  | cell => rw [parts_none (by decide) (by decide) (by decide)]; simp
  | row ps h => rw [parts_row]; exact h
  | choice m os h =>
    rw [parts_choice, List.length_map]
    have := (choice_opts h).2.2.1
    omega
  | times => rw [parts_one (by decide)]; simp
  | counted => rw [parts_one (by decide)]; simp
  | within => rw [parts_one (by decide)]; simp
  | fill => rw [parts_one (by decide)]; simp
  | left => rw [parts_one (by decide)]; simp
  | need => rw [parts_none (by decide) (by decide) (by decide)]; simp
  | pad => rw [parts_none (by decide) (by decide) (by decide)]; simp
/-! words -/
theorem Form.row_of {w : Str} {fs : List PyData} (h : Form (.tuple (.str w :: fs))) (e : (w == "row") = true) : ∃ ps, fs = [.tuple ps] ∧ ps.length ≤ 12 := by
  cases h with
  | row ps h => exact ⟨ps, rfl, h⟩
  | _ => exact absurd e (by decide)
theorem Form.choice_of {w : Str} {fs : List PyData} (h : Form (.tuple (.str w :: fs))) (e : (w == "choice") = true) : ∃ m os, fs = [m, .tuple os] ∧ isChoice [m, .tuple os] = true := by
  cases h with
  | choice m os h => exact ⟨m, os, rfl, h⟩
  | _ => exact absurd e (by decide)
theorem Form.one_of {w : Str} {fs : List PyData} (h : Form (.tuple (.str w :: fs))) (e : HOLDERS.any (w == ·) = true) : ∃ gs x, fs = gs ++ [x] ∧ partsOf (.tuple (.str w :: fs)) = [x] ∧ gs.length ≤ 4 := by
  have hp := parts_one (fs := fs) e
  cases h with
  | times n x => exact ⟨[n], x, rfl, hp, by simp⟩
  | counted a b c x => exact ⟨[a, b, c], x, rfl, hp, by simp⟩
  | within a b c d x => exact ⟨[a, b, c, d], x, rfl, hp, by simp⟩
  | fill x => exact ⟨[], x, rfl, hp, by simp⟩
  | left x => exact ⟨[], x, rfl, hp, by simp⟩
  | _ => exact absurd e (by decide)
/-! what is in a part, to a depth -/
def okB : Nat → PyData → Bool
  | 0, _ => false
  | h + 1, d => hasForm d && (partsOf d).all (okB h)
theorem ok_succ {h : Nat} {d : PyData} (o : okB (h + 1) d = true) : hasForm d = true ∧ ∀ x, x ∈ partsOf d → okB h x = true := by
  have o' : (hasForm d && (partsOf d).all (okB h)) = true := o
  rw [Bool.and_eq_true, List.all_eq_true] at o'
  exact o'
def npart : Nat → PyData → Nat
  | 0, _ => 1
  | h + 1, d => 1 + ((partsOf d).map (npart h)).sum
theorem npart_pos {h : Nat} {d : PyData} : 1 ≤ npart h d := by
  cases h with
  | zero => exact Nat.le_refl _
  | succ h => exact Nat.le_add_right _ _
theorem le_sum {f : PyData → Nat} {l : List PyData} {x : PyData} (h : x ∈ l) : f x ≤ (l.map f).sum := by
  induction l with
  | nil => cases h
  | cons y l ih =>
    rw [List.map_cons, List.sum_cons]
    rcases List.mem_cons.mp h with rfl | h
    · omega
    · have := ih h
      omega
theorem npart_kid {h : Nat} {d x : PyData} (hx : x ∈ partsOf d) : npart h x < npart (h + 1) d := by
  have := le_sum (f := npart h) hx
  show npart h x < 1 + _
  omega
def numOf : PyData → Int
  | .tuple (_ :: n :: _) => intOf n
  | _ => 0
def counted : Nat → PyData → Int
  | 0, _ => 1
  | h + 1, d => if wordOf d = "times" then 1 + numOf d * ((partsOf d).map (counted h)).sum else 1 + ((partsOf d).map (counted h)).sum
def encN : Option Int → PyData
  | none => .none
  | some n => .int n
def sizeK (d : PyData) (ss : List (Option Int)) : Option Int :=
  if wordOf d = "cell" then some 1
  else if wordOf d = "need" then some 0
  else if wordOf d = "row" ∨ wordOf d = "choice" ∨ wordOf d = "times" then
    (if none ∈ ss then none
    else if wordOf d = "row" then some ((ss.map fun s => s.getD 0).sum)
    else if wordOf d = "times" then some (numOf d * (ss.headD (some 0)).getD 0)
    else if ∀ s ∈ ss, s = ss.headD (some 0) then some (1 + (ss.headD (some 0)).getD 0) else none)
  else none
def sizeD : Nat → PyData → Option Int
  | 0, _ => none
  | h + 1, d => sizeK d ((partsOf d).map (sizeD h))
def encP (p : List Int) : PyData := .tuple (p.map .int)
def encQ (q : List Int × PyData) : PyData := .tuple [encP q.1, q.2]
def subsAt (S : PyData → List (List Int × PyData)) (ks : List PyData) (i : Nat) : List (List Int × PyData) := match ks[i]? with
  | some c => (S c).map fun q => ((i : Int) :: q.1, q.2)
  | none => []
def subsTo (S : PyData → List (List Int × PyData)) (d : PyData) (n : Nat) : List (List Int × PyData) := ([], d) :: (List.range n).flatMap (subsAt S (partsOf d))
def subsD : Nat → PyData → List (List Int × PyData)
  | 0, d => [([], d)]
  | h + 1, d => subsTo (subsD h) d (partsOf d).length
theorem subsTo_succ {S : PyData → List (List Int × PyData)} {d : PyData} {n : Nat} {c : PyData} (h : (partsOf d)[n]? = some c) : subsTo S d (n + 1) = subsTo S d n ++ (S c).map fun q => ((n : Int) :: q.1, q.2) := by
  unfold subsTo
  rw [List.range_succ, List.flatMap_append, ← List.cons_append]
  simp [subsAt, h]
theorem subsTo_len {S : PyData → List (List Int × PyData)} {d : PyData} : ∀ n, n ≤ (partsOf d).length → (subsTo S d n).length = 1 + (((partsOf d).take n).map fun c => (S c).length).sum
  | 0, _ => by simp [subsTo]
  | n + 1, hn => by
    have hc : (partsOf d)[n]? = some (partsOf d)[n] := List.getElem?_eq_getElem (by omega)
    have ht : ((partsOf d).take (n + 1)).map (fun c => (S c).length) = ((partsOf d).take n).map (fun c => (S c).length) ++ [(S (partsOf d)[n]).length] := by
      rw [List.take_succ, hc, List.map_append]
      rfl
    rw [subsTo_succ hc, List.length_append, subsTo_len n (by omega), List.length_map, ht, List.sum_append, List.sum_cons, List.sum_nil]
    omega
theorem subs_len : ∀ {h : Nat} {d : PyData}, (subsD h d).length = npart h d
  | 0, _ => rfl
  | h + 1, d => by
    show (subsTo (subsD h) d (partsOf d).length).length = 1 + ((partsOf d).map (npart h)).sum
    rw [subsTo_len _ (Nat.le_refl _), List.take_length]
    congr 2
    exact List.map_congr_left fun c _ => subs_len
theorem subsTo_le {S : PyData → List (List Int × PyData)} {d : PyData} {n : Nat} (hn : n ≤ (partsOf d).length) : (subsTo S d n).length ≤ (subsTo S d (partsOf d).length).length := by
  rw [subsTo_len n hn, subsTo_len _ (Nat.le_refl _), List.take_length]
  have key : ∀ (l : List Nat) (m : Nat), (l.take m).sum ≤ l.sum := by
    intro l
    induction l with
    | nil => intro m; simp
    | cons x l ih =>
      intro m
      cases m with
      | zero => simp
      | succ m =>
        have := ih m
        simp
        omega
  have := key ((partsOf d).map fun c => (S c).length) n
  rw [← List.map_take] at this
  omega
def isNoneD : PyData → Bool
  | .none => true
  | _ => false
def field (d : PyData) (i : Nat) : PyData := match d with
  | .tuple xs => xs.getD i .none
  | _ => .none
def isWord (x : Str) : PyData → Bool
  | .str y => y == x
  | _ => false
def barred (d : PyData) : Bool := wordOf d == "within" || wordOf d == "need" || (wordOf d == "counted" && !isNoneD (field d 3))
/-- the two conditions on what is in a part -/
def suits (h : Nat) (d : PyData) : Bool :=
  if wordOf d = "counted" ∧ isNoneD (field d 3) = false then (sizeD h (field d 4)).isSome
  else if wordOf d = "within" ∧ isWord "told" (field d 3) = true then !((subsD h (field d 5)).any fun q => barred q.2)
  else true
/-- the path of the first wrong part -/
def firstOf (W : Nat → PyData → Option (List Int)) : Nat → List PyData → Option (List Int)
  | _, [] => none
  | i, x :: xs => match W i x with
    | some p => some p
    | none => firstOf W (i + 1) xs
def fwrong : Nat → List Int → PyData → Option (List Int)
  | 0, path, _ => some path
  | h + 1, path, d => if hasForm d = false then some path else match firstOf (fun i x => fwrong h (path ++ [(i : Int)]) x) 0 (partsOf d) with
    | some p => some p
    | none => if suits h d then none else some path
theorem firstOf_none {W : Nat → PyData → Option (List Int)} : ∀ {i : Nat} {xs : List PyData}, firstOf W i xs = none → ∀ j x, xs[j]? = some x → W (i + j) x = none
  | _, [], _, j, x, e => by simp at e
  | i, y :: ys, h, j, x, e => by
    unfold firstOf at h
    cases hy : W i y with
    | some p => rw [hy] at h; cases h
    | none =>
      rw [hy] at h
      cases j with
      | zero =>
        simp at e
        subst e
        exact hy
      | succ j =>
        have := firstOf_none h j x (by simpa using e)
        rw [show i + (j + 1) = i + 1 + j by omega]
        exact this
theorem ok_of_fwrong' {h : Nat} {d : PyData} (hf : hasForm d = true) (hk : ∀ x, x ∈ partsOf d → okB h x = true) : okB (h + 1) d = true := by
  show (hasForm d && (partsOf d).all (okB h)) = true
  rw [hf, Bool.true_and, List.all_eq_true]
  exact hk
theorem ok_of_fwrong : ∀ {h : Nat} {path : List Int} {d : PyData}, fwrong h path d = none → okB h d = true
  | 0, _, _, e => by cases e
  | h + 1, path, d, e => by
    unfold fwrong at e
    cases hf : hasForm d with
    | false => rw [if_pos hf] at e; cases e
    | true =>
      rw [if_neg (by rw [hf]; exact fun z => Bool.noConfusion z)] at e
      cases hk : firstOf (fun i x => fwrong h (path ++ [(i : Int)]) x) 0 (partsOf d) with
      | some p => rw [hk] at e; cases e
      | none =>
        show (hasForm d && (partsOf d).all (okB h)) = true
        rw [hf, Bool.true_and, List.all_eq_true]
        intro x hx
        obtain ⟨j, hj⟩ := List.mem_iff_getElem?.mp hx
        exact ok_of_fwrong (firstOf_none hk j x hj)
end PD

set_option Elab.async false
set_option linter.all false
set_option maxRecDepth 100000
set_option maxHeartbeats 2000000
/-! Defs of data that may raise an own error with one field. -/
namespace DL
open PySem PySem.Spec PyProof.Rows L2 StX
/-- what __init__ of such an error does: self.f = y -/
def spInitE (C : Addr) (f : Str) : Sp := fun vs H Q _ => ∃ a y, vs = [.ref a, y] ∧ H a = some (exo a C none) ∧ ∀ dx, H dx = none → dx ≠ a → Q .non (upd (upd H dx (exd dx [(f, y)])) a (exo a C (some dx)))
theorem init_end {H1 : Hp} {a dx C : Addr} {f : Str} {y : V} (ha : H1 a = none) (hd : dx ≠ a) : upd (L2.del (upd (upd (upd H1 a (exo a C none)) dx (exd dx [(f, y)])) a (exo a C (some dx))) a) dx (.xd [(f, y)]) = upd H1 dx (.xd [(f, y)]) := by
  funext b
  by_cases h1 : b = dx
  · subst h1
    rw [upd_same, upd_same]
  · rw [upd_ne h1, upd_ne h1]
    by_cases h2 : b = a
    · subst h2
      rw [L2.del_same, ha]
    · rw [L2.del_ne h2, upd_ne h2, upd_ne h1, upd_ne h2]
section
variable {P : Program} {w : World} {K : PySem.W.Frag} {mg : Str → Option Value} {base : Heap}
theorem ok_initE {qual a f : Str} {st : Stmt} {fI C : Addr} {fd : FuncData} {p1 p2 p3 p4 : Pos} (F : Fun K "__init__" qual st fI fd) (S : FnScope ["self", a] ["self", a] (defScope st)) (hb : defBody st = [.Assign [.Attribute (.Name "self" p1) f p2] (.Name a p3) p4]) (T : OexC K C) (hno : PySem.W.findIn K (.ref C) f = some none)
    (v0 : Vis (defScope st) "self") (v1 : Vis (defScope st) a) (hsw : ∀ env, swapsWith (.Name a p3) (some (.Attribute (.Name "self" p1) f p2)) p4.line env = pure false) (ha1 : (a == ("__debug__" : Str)) = false) (ha2 : (a == ("__classdict__" : Str)) = false) :
    FnOk P w K mg base CX0 1 fI fd ["self", a] (spInitE C f) := by
  refine F.ok S (fun vs H Q E h => ?_) (fun cdv A outer s H vs Q E hr h => ?_)
  · obtain ⟨x, y, rfl, _⟩ := h
    rfl
  · obtain ⟨x, y, rfl, hx, q⟩ := h
    refine ⟨_, by rw [hb]; exact pss_one (ps_ost (pe_var (i := 0) rfl v0) (pe_var (i := 1) rfl v1 (hd := ha1) (hcd := ha2)) (hsw _)), ?_⟩
    exact ⟨y, rfl, .ref x, rfl, x, C, rfl, T, hno, .inl ⟨hx, fun dx h1 h2 => q dx h1 h2⟩⟩
end
/-- what the text says of an own error class -/
structure ErrC (P : Program) (w : World) (K : PySem.W.Frag) (mg : Str → Option Value) (base : Heap) (x : Str) (C : Addr) (f : Str) : Prop where
  g : mg x = some (.ref C)
  T : OexC K C
  no : PySem.W.findIn K (.ref C) f = some none
  X : XfC K C
  ini : ∃ fI fd ps, PySem.W.findIn K (.ref C) "__init__" = some (some (.ref fI)) ∧ PySem.W.typeIn K (.ref fI) = some (.type "function") ∧ FnOk P w K mg base CX0 1 fI fd ps (spInitE C f) ∧ Binds K fd ps []
/-- raise C(e) -/
abbrev tRaise (C : Addr) (f : Str) (W : WX) (te : TE) : TS := fun _ σ H => tMkO C (spInitE C f) [] (tCons te tNil) σ H fun cls d H' => W cls d σ H'
theorem ps_raiseE {X : Cx} {W : WX} {x f : Str} {C : Addr} {e : Expr} {te : TE} {p pos pos2 : Pos} {k : Nat} (hc : X.calm = true) (T : ErrC X.prog X.w X.K X.mg X.base x C f) (hr : Room k X.A) (hk : 2 ≤ k) (tk : Takes X W) (ha : PE X e te) (hg : Gl X x) (hd : (x == ("__debug__" : Str)) = false := by decide)
    (he : starEach [e] X.env = (false, eval e X.env) :: starEach [] X.env := by rfl) (hpl : (backTo pos (starEach [] X.env)).any (·.1) = false := by rfl) :
    PS X (.Raise (some (.Call (.Name x p) [e] [] pos)) none pos2) (tRaise C f W te) := by
  obtain ⟨fI, fd, ps, h1, h2, h3, h4⟩ := T.ini
  exact ps_raise hc tk (pmk_oex T.T h1 h2 h3 (hr.mono hk) h4 .nil pass0 hg T.g (pa_cons ha pa_nil he) hd he hpl)
section
variable {K : PySem.W.Frag} {B O : Hp} {G : List SD} {σ : L2.St} {H : Hp} {te : TE} {D : Ends}
theorem s_raise {C : Addr} {f : Str} {x : Str} {Wx : WX} (s : Sta K B O G σ H) (h : EvD K B O G te (.str x)) (k : ∀ p B' H', Ex B B' → W B' O H' → B' p = some (.xd [(f, .str x)]) → Wx (.ref C) (some p) σ H') : tRaise C f Wx te D σ H :=
  h B O σ H (Ex.refl _) (Ex.refl _) s _ fun v B' H' e w dv => ⟨by simp, fun a ha => ⟨a, v, rfl, upd_same, fun dx hdx hne => by
    have hdx' : H' dx = none := by rw [upd_ne hne] at hdx; exact hdx
    refine ⟨rfl, dx, [(f, v)], upd_same, by rw [upd_ne hne, upd_same], hdx', ?_⟩
    rw [init_end ha hne]
    have ev := dp_str dv
    subst ev
    exact k dx (upd B' dx (.xd [(f, .str x)])) _ (e.trans (Ex.new (w.fb hdx'))) (w.newB hdx') upd_same⟩⟩
end
/-- how a def may end: data, or an error of the class at C with its field -/
inductive Out where
  | ret (d : PyData)
  | exc (C : Addr) (f : Str) (x : Str)
def OutOk (K : PySem.W.Frag) (B O : Hp) (Q : VK) (E : XK) : Out → Prop
  | .ret d => ∀ v B' H', Ex B B' → W B' O H' → Dt K B' v d → Q v H'
  | .exc C f x => ∀ p B' H', Ex B B' → W B' O H' → B' p = some (.xd [(f, .str x)]) → E (.ref C) (some p) H'
theorem OutOk.imp {K : PySem.W.Frag} {B B1 O : Hp} {Q : VK} {E : XK} {o : Out} (h : OutOk K B O Q E o) (e : Ex B B1) : OutOk K B1 O Q E o := by
  cases o with
  | ret d => exact fun v B' H' e' => h v B' H' (e.trans e')
  | exc C f x => exact fun p B' H' e' => h p B' H' (e.trans e')
/-- the promise of a def of data that may raise -/
def SpE (K : PySem.W.Frag) (R : List PyData → Out → Prop) : Sp := fun vs H Q E => ∃ B O ds o, W B O H ∧ DtAll K B vs ds ∧ R ds o ∧ OutOk K B O Q E o
section
variable {K : PySem.W.Frag} {B O : Hp} {G : List SD} {σ : L2.St} {H : Hp} {D : Ends} {R : List PyData → Out → Prop} {ds : List PyData} {t : TA} {E : XK} {tz : TS}
/-- a call as a statement, of what may raise -/
theorem q_callE {o : Out} (s : Sta K B O G σ H) (h : EvA K B O G t ds) (hr : R ds o) (k1 : ∀ d, o = .ret d → ∀ B' H', Ex B B' → Sta K B' O G σ H' → tz D σ H') (k2 : ∀ C f x, o = .exc C f x → ∀ p B' H', Ex B B' → W B' O H' → B' p = some (.xd [(f, .str x)]) → E (.ref C) (some p) H') :
    tSeq (tDrop (tCall (SpE K R) [] E t)) tz D σ H :=
  h B O σ H (Ex.refl _) (Ex.refl _) s _ fun vs B' H' e w dvs => by
    refine ⟨B', O, ds, o, w, by rw [List.append_nil]; exact dvs, hr, ?_⟩
    cases o with
    | ret d => exact fun v B2 H2 e2 w2 d2 => k1 d rfl B2 H2 (e.trans e2) ⟨w2, s.s.ex (e.trans e2)⟩
    | exc C f x => exact fun p B2 H2 e2 w2 d2 => k2 C f x rfl p B2 H2 (e.trans e2) w2 d2
end
section
variable {P : Program} {w : World} {K : PySem.W.Frag} {mg : Str → Option Value} {base : Heap}
theorem ok_fnE {x qual : Str} {st : Stmt} {f : Addr} {fd : FuncData} {N ps : List Str} {k : Nat} {R : List PyData → Out → Prop} (F : Fun K x qual st f fd) (S : FnScope N ps (defScope st)) (hl : ∀ ds d, R ds d → ds.length = ps.length)
    (hb : ∀ (cdv : Value) (A : Around) (outer : List Env) (s : Shared) (H0 : Hp) (E : XK), Room k (A.deeper (envOfC qual (defScope st) s.heap.objs.size f cdv)) → ∀ ds o, R ds o →
      ∃ t, PSs (cxOf (L2.CX P w) P w K mg base N qual (defScope st) f cdv A outer s H0 E) (defBody st) t ∧
        ∀ B O σ H (Q : VK), Sta K B O (gOf ds (N.length - ps.length)) σ H → OutOk K B O Q E o → t { nx := fun _ H' => Q .non H', rt := Q } σ H) :
    FnOk P w K mg base (L2.CX P w) (k + 1) f fd ps (SpE K R) := by
  refine F.okX S (fun vs H Q E h => ?_) (fun cdv A outer s H vs Q E hr h => ?_)
  · obtain ⟨B, O, ds, d, _, h2, h3, _⟩ := h
    rw [dps_len h2]
    exact hl ds d h3
  · obtain ⟨B, O, ds, d, h1, h2, h3, k⟩ := h
    obtain ⟨t, ht, hq⟩ := hb cdv A outer s H E hr ds d h3
    refine ⟨t, ht, hq B O _ H Q ⟨h1, ?_⟩ k⟩
    have e := slots_start h2 (N.length - ps.length)
    have hl' : vs.length = ps.length := by rw [dps_len h2]; exact hl ds d h3
    unfold L2.start
    rw [hl']
    exact e
/-- a def that stands at its name, its promise, raising -/
structure CalE (P : Program) (w : World) (K : PySem.W.Frag) (mg : Str → Option Value) (base : Heap) (k : Nat) (x : Str) (ps : List Str) (sp : Sp) : Prop where
  ex : ∃ f fd, FnOk P w K mg base (L2.CX P w) k f fd ps sp ∧ mg x = some (.ref f) ∧ PySem.W.keepIn K (.ref f) = true ∧ Binds K fd ps []
theorem At.calE {x : Str} {st : Stmt} {ps : List Str} {f : Addr} {fd : FuncData} {k : Nat} {sp : Sp} (a : At K mg x st ps f fd) (h : FnOk P w K mg base (L2.CX P w) k f fd ps sp) : CalE P w K mg base k x ps sp := ⟨f, fd, h, a.mg, a.fn.kp, a.bi⟩
end
/-- a call of what may raise, where what it raises goes on -/
theorem pe_calE {X : Cx} {x : Str} {ps : List Str} {sp : Sp} {k j : Nat} {p pos : Pos} {e : Expr} {es : List Expr} {t : TA} {E : XK} (C : CalE X.prog X.w X.K X.mg X.base k x ps sp) (hr : Room j X.A) (hk : k ≤ j) (hg : Gl X x) (tk : Takes X (fun cls d _ H => E cls d H)) (ha : PA X (e :: es) t) (hd : (x == ("__debug__" : Str)) = false := by decide)
    (he : starEach (e :: es) X.env = (false, eval e X.env) :: starEach es X.env := by rfl) (hpl : (backTo pos (starEach es X.env)).any (·.1) = false := by rfl) :
    PE X (.Call (.Name x p) (e :: es) [] pos) (tCall sp [] E t) := by
  obtain ⟨f, fd, h1, h2, h3, h4⟩ := C.ex
  exact pe_call (h1.mono hk) hr hg h2 h3 h4 .nil (passes_call tk fun _ _ _ _ h => h) ha hd he hpl
/-- a walk over what is one or the other -/
theorem pi_or {X : Cx} {tg e : Expr} {w1 w2 : TI} (h1 : PI X tg e w1) (h2 : PI X tg e w2) : PI X tg e (fun σ H R => w1 σ H R ∨ w2 σ H R) := ⟨fun pins s σ H R I h => h.elim (h1.run pins s σ H R I) (h2.run pins s σ H R I)⟩
theorem ei_orL {K : PySem.W.Frag} {B O : Hp} {G : List SD} {w1 w2 : TI} {es : List PyData} (h : EvI K B O G w1 es) : EvI K B O G (fun σ H R => w1 σ H R ∨ w2 σ H R) es := fun B1 O1 σ H e o s R r => .inl (h B1 O1 σ H e o s R r)
theorem ei_orR {K : PySem.W.Frag} {B O : Hp} {G : List SD} {w1 w2 : TI} {es : List PyData} (h : EvI K B O G w2 es) : EvI K B O G (fun σ H R => w1 σ H R ∨ w2 σ H R) es := fun B1 O1 σ H e o s R r => .inr (h B1 O1 σ H e o s R r)
end DL

set_option Elab.async false
set_option linter.all false
set_option maxRecDepth 100000
set_option maxHeartbeats 2000000
/-! Calls of defs out of a dict of the module; unpacking into names; errors whose field is data; pop; truth of a list. -/
namespace DL
open PySem PySem.Spec PyProof.Rows L2 StX
section
variable {X : Cx} {K : PySem.W.Frag} {w : World} {x : Str} {pos p : Pos} {i : Nat}
theorem pe_gi {n : Int} (hg : Gl X x) (h : ∃ t, X.mg x = some (.int n t)) (hd : (x == ("__debug__" : Str)) = false := by decide) : PE X (.Name x pos) (tC (.int n)) := by
  obtain ⟨t, ht⟩ := h
  exact pe_glob (v := .int n) hg ht ⟨t, rfl⟩ hd
/-- a def that stands at f, told when it is called -/
def tCallH (P : Program) (w : World) (K : PySem.W.Frag) (mg : Str → Option Value) (base : Heap) (k i : Nat) (t : TA) : TE := fun σ H Q => ∃ f sp, σ[i]? = some (some (.ref f)) ∧ Held P w K mg base k f sp ∧ t σ H fun vs H1 => sp vs H1 Q (fun _ _ _ => False)
theorem pe_callH {k : Nat} {e : Expr} {es : List Expr} {t : TA} (hr : Room k X.A) (hN : X.N[i]? = some x) (hv : Vis X.env.scope x) (ha : PA X (e :: es) t)
    (hdb : (x == ("__debug__" : Str)) = false := by decide) (hcd : (x == ("__classdict__" : Str)) = false := by decide)
    (he : starEach (e :: es) X.env = (false, eval e X.env) :: starEach es X.env := by rfl) (hpl : (backTo pos (starEach es X.env)).any (·.1) = false := by rfl) : PE X (.Call (.Name x p) (e :: es) [] pos) (tCallH X.prog X.w X.K X.mg X.base k i t) := by
  refine ⟨fun pins s σ H Q I h => ?_⟩
  obtain ⟨f, sp, hs, hS, ht⟩ := h
  obtain ⟨fd, ps, F, hk, hb⟩ := hS.ex
  refine (pe_callL (i := i) (f := f) (sp := sp) (dvs := []) (E := fun _ _ _ => False) F hr hN hv hk hb .nil (fun _ _ _ _ _ _ _ z => z.elim) ha hdb hcd he hpl).run pins s σ H Q I ⟨hs, ?_⟩
  have e0 : (fun (vs : List V) (H1 : Hp) => sp (vs ++ []) H1 Q (fun _ _ _ => False)) = fun vs H1 => sp vs H1 Q (fun _ _ _ => False) := by
    funext vs H1
    rw [List.append_nil]
  show t σ H (fun vs H1 => sp (vs ++ []) H1 Q (fun _ _ _ => False))
  rw [e0]
  exact ht
theorem ix_kdictK (K : PySem.W.Frag) (w : World) (h : X.K = K := by rfl) (h2 : X.w = w := by rfl) : IxR X (rIxD K w) := by
  subst h h2
  exact ix_kdict
def rNotKD (K : PySem.W.Frag) (d : Addr) : R2 := fun x y H Q => ∃ (z : Str) (r : Option Value), x = .str z ∧ y = .ref d ∧ PySem.W.nsIn K d z = some r ∧ Q (.bl (!r.isSome)) H
theorem op_notKD (K : PySem.W.Frag) (w : World) {d : Addr} (D : ∃ es n, KDict K w d es n) (h : X.K = K := by rfl) (h2 : X.w = w := by rfl) : OpR X (compareOp .NotIn) (rNotKD K d) := by
  subst h h2
  obtain ⟨es, n, D⟩ := D
  exact op_notIn_kd D
theorem kd_of {a : Addr} {y : Str} {v : V} (h : KDct K w a y v) : ∃ u, PySem.W.nsIn K a y = some (some u) := by
  obtain ⟨_, _, u, _, _, e, _⟩ := h
  exact ⟨u, e⟩
end
section
variable {K : PySem.W.Frag} {w : World} {B O : Hp} {G : List SD} {σ : L2.St} {H : Hp} {ta tb te : TE} {tz : TS} {D : Ends} {d : PyData} {i : Nat}
/-- word not in FORMS -/
theorem ev_notKD {a : Addr} {y : Str} {v : V} (h1 : EvD K B O G ta (.str y)) (h2 : EvV K B O G tb (.ref a)) (h : KDct K w a y v) : EvD K B O G (tOp (rNotKD K a) ta tb) (.bool false) := fun B1 O1 σ H e o s Q q =>
  h1 B1 O1 σ H e o s _ fun u B2 H2 e2 w2 d2 => h2 B2 O1 σ H2 (e.trans e2) o (s.ex e2 w2) _ fun B3 H3 e3 w3 => by
    obtain ⟨u, hu⟩ := kd_of h
    exact ⟨y, some u, dp_str d2, rfl, hu, q _ B3 H3 (e2.trans e3) w3 (.bl _)⟩
theorem ev_notKDn {a : Addr} {y : Str} (h1 : EvD K B O G ta (.str y)) (h2 : EvV K B O G tb (.ref a)) (h : PySem.W.nsIn K a y = some none) : EvD K B O G (tOp (rNotKD K a) ta tb) (.bool true) := fun B1 O1 σ H e o s Q q =>
  h1 B1 O1 σ H e o s _ fun u B2 H2 e2 w2 d2 => h2 B2 O1 σ H2 (e.trans e2) o (s.ex e2 w2) _ fun B3 H3 e3 w3 => ⟨y, none, dp_str d2, rfl, h, q _ B3 H3 (e2.trans e3) w3 (.bl _)⟩
theorem evV_c {v : V} : EvV K B O G (tC v) v := fun B1 _ _ H _ _ s Q q => q B1 H (Ex.refl _) s.w
/-- LENGTHS[word] -/
theorem ev_ixKD {a : Addr} {y : Str} {v : V} (h1 : EvV K B O G ta (.ref a)) (h2 : EvD K B O G tb (.str y)) (h : KDct K w a y v) (hd : ∀ B', Dt K B' v d) : EvD K B O G (tOp (rIxD K w) ta tb) d := fun B1 O1 σ H e o s Q q =>
  h1 B1 O1 σ H e o s _ fun B2 H2 e2 w2 => h2 B2 O1 σ H2 (e.trans e2) o (s.ex e2 w2) _ fun u B3 H3 e3 w3 d3 => ⟨a, y, v, rfl, dp_str d3, h, q v B3 H3 (e2.trans e3) w3 (hd _)⟩
theorem evV_ixKD {a : Addr} {y : Str} {v : V} (h1 : EvV K B O G ta (.ref a)) (h2 : EvD K B O G tb (.str y)) (h : KDct K w a y v) : EvV K B O G (tOp (rIxD K w) ta tb) v := fun B1 O1 σ H e o s Q q =>
  h1 B1 O1 σ H e o s _ fun B2 H2 e2 w2 => h2 B2 O1 σ H2 (e.trans e2) o (s.ex e2 w2) _ fun u B3 H3 e3 w3 d3 => ⟨a, y, v, rfl, dp_str d3, h, q B3 H3 (e2.trans e3) w3⟩
/-- x = e, e just this value -/
theorem q_asgV {v : V} (s : Sta K B O G σ H) (h : EvV K B O G te v) (k : ∀ B' H', Ex B B' → Sta K B' O (G.set i (.val v)) (σ.set i (some v)) H' → tz D (σ.set i (some v)) H') : tSeq (tAsg te (gName i)) tz D σ H :=
  h B O σ H (Ex.refl _) (Ex.refl _) s _ fun B' H' e w => k B' H' e ((s.ex e w).setV i)
/-- form(x), form a def out of such a dict: data in, data out -/
theorem ev_callH {P : Program} {mg : Str → Option Value} {base : Heap} {k : Nat} {t : TA} {ds : List PyData} {f : Addr} {R : List PyData → PyData → Prop} (hg : G[i]? = some (.val (.ref f))) (hf : Held P w K mg base k f (SpR K R)) (h : EvA K B O G t ds) (hr : R ds d) : EvD K B O G (tCallH P w K mg base k i t) d := fun B1 O1 σ H e o s Q q => by
  obtain ⟨sv, h1, h2⟩ := s.s.get hg
  have h3 : sv = some (.ref f) := h2
  subst h3
  exact ⟨f, _, h1, hf, h B1 O1 σ H e o s _ fun vs B2 H2 e2 w2 d2 => ⟨B2, O1, ds, d, w2, d2, hr, fun v B3 H3 e3 w3 d3 => q v B3 H3 (e2.trans e3) w3 d3⟩⟩
/-! unpacking -/
def gNames : List Nat → TGs
  | [] => gNil
  | j :: js => gCons (gName j) (gNames js)
def setAll : List SD → List Nat → List PyData → List SD
  | G, j :: js, d :: ds => setAll (G.set j (.dat d)) js ds
  | G, _, _ => G
theorem names_ok {Q : L2.St → Hp → Prop} : ∀ {js : List Nat} {vs : List V} {ds : List PyData} {G : List SD} {σ : L2.St}, DtAll K B vs ds → js.length = ds.length → Sta K B O G σ H → (∀ σ', Sta K B O (setAll G js ds) σ' H → Q σ' H) → gNames js vs σ H Q
  | [], vs, [], G, σ, h, _, s, q => by
    cases h
    exact ⟨rfl, q σ s⟩
  | j :: js, vs, d :: ds, G, σ, h, hl, s, q => by
    cases h with
    | cons h1 h2 => exact ⟨_, _, rfl, names_ok h2 (by simpa using hl) (s.set j h1) q⟩
  | [], _, _ :: _, _, _, _, hl, _, _ => by simp at hl
  | _ :: _, _, [], _, _, _, hl, _, _ => by simp at hl
theorem q_unpack {js : List Nat} {ds : List PyData} (s : Sta K B O G σ H) (h : EvD K B O G te (.tuple ds)) (hl : js.length = ds.length) (k : ∀ σ' B' H', Ex B B' → Sta K B' O (setAll G js ds) σ' H' → tz D σ' H') : tSeq (tAsg te (gTup K js.length (gNames js))) tz D σ H :=
  h B O σ H (Ex.refl _) (Ex.refl _) s _ fun v B' H' e w dv => by
    obtain ⟨p, xs, rfl, h1, h2⟩ := dp_tup dv
    exact ⟨p, xs, rfl, st_ex w.b h1, (dps_len h2).trans hl.symm, names_ok h2 hl (s.ex e w) fun σ' s' => k σ' B' H' e s'⟩
/-! pop of an owned list, its truth -/
theorem ev_popP {l : Addr} {vs : List V} {y : V} {Q : VK} (s : Sta K B O G σ H) (hg : G[i]? = some (.val (.ref l))) (ho : O l = some (.lst (vs ++ [y]))) (k : W B (upd O l (.lst vs)) (upd H l (.lst vs)) → Q y (upd H l (.lst vs))) : tBM0 K "list" rPop (tVar i) σ H Q := by
  obtain ⟨sv, h1, h2⟩ := s.s.get hg
  have h3 : sv = some (.ref l) := h2
  subst h3
  refine ⟨_, h1, .inl ⟨rfl, _, SqL.of (s.w.o _ _ ho)⟩, l, vs ++ [y], y, rfl, rfl, s.w.o _ _ ho, by simp, ?_⟩
  rw [List.dropLast_concat]
  exact k (s.w.mut ho)
theorem et_listO {l : Addr} {vs : List V} {b : Bool} (hg : G[i]? = some (.val (.ref l))) (ho : O l = some (.lst vs)) (hb : (!vs.isEmpty) = b) : EvT K B O G (fun σ H Q => tVar i σ H fun x H' => ∃ k, TruV K x H' k ∧ Q k H') b := fun B1 O1 σ H e o s Q q => by
  obtain ⟨sv, h1, h2⟩ := s.s.get hg
  have h3 : sv = some (.ref l) := h2
  subst h3
  exact ⟨_, h1, b, .inl ⟨vs, SqL.of (s.w.o _ _ (o _ _ ho)), hb.symm⟩, q B1 H (Ex.refl _) s.w⟩
/-! an error whose field is data -/
theorem s_raiseD {C : Addr} {f : Str} {Wx : WX} (s : Sta K B O G σ H) (h : EvD K B O G te d) (k : ∀ p v B' H', Ex B B' → W B' O H' → B' p = some (.xd [(f, v)]) → Dt K B' v d → Wx (.ref C) (some p) σ H') : tRaise C f Wx te D σ H :=
  h B O σ H (Ex.refl _) (Ex.refl _) s _ fun v B' H' e w dv => ⟨by simp, fun a ha => ⟨a, v, rfl, upd_same, fun dx hdx hne => by
    have hdx' : H' dx = none := by rw [upd_ne hne] at hdx; exact hdx
    refine ⟨rfl, dx, [(f, v)], upd_same, by rw [upd_ne hne, upd_same], hdx', ?_⟩
    rw [init_end ha hne]
    have ex : Ex B' (upd B' dx (.xd [(f, v)])) := Ex.new (w.fb hdx')
    exact k dx v (upd B' dx (.xd [(f, v)])) _ (e.trans ex) (w.newB hdx') upd_same (dp_ex ex _ _ dv)⟩⟩
end
/-- how a def may end: data, or an error of the class at C whose field is data -/
inductive OutD where
  | ret (d : PyData)
  | exc (C : Addr) (f : Str) (d : PyData)
def OutDOk (K : PySem.W.Frag) (B O : Hp) (Q : VK) (E : XK) : OutD → Prop
  | .ret d => ∀ v B' H', Ex B B' → W B' O H' → Dt K B' v d → Q v H'
  | .exc C f d => ∀ p v B' H', Ex B B' → W B' O H' → B' p = some (.xd [(f, v)]) → Dt K B' v d → E (.ref C) (some p) H'
theorem OutDOk.imp {K : PySem.W.Frag} {B B1 O : Hp} {Q : VK} {E : XK} {o : OutD} (h : OutDOk K B O Q E o) (e : Ex B B1) : OutDOk K B1 O Q E o := by
  cases o with
  | ret d => exact fun v B' H' e' => h v B' H' (e.trans e')
  | exc C f x => exact fun p v B' H' e' => h p v B' H' (e.trans e')
def SpD (K : PySem.W.Frag) (R : List PyData → OutD → Prop) : Sp := fun vs H Q E => ∃ B O ds o, W B O H ∧ DtAll K B vs ds ∧ R ds o ∧ OutDOk K B O Q E o
section
variable {K : PySem.W.Frag} {B O : Hp} {G : List SD} {σ : L2.St} {H : Hp} {D : Ends} {R : List PyData → OutD → Prop} {ds : List PyData} {t : TA} {E : XK} {tz : TS}
theorem q_callD {o : OutD} (s : Sta K B O G σ H) (h : EvA K B O G t ds) (hr : R ds o) (k1 : ∀ d, o = .ret d → ∀ B' H', Ex B B' → Sta K B' O G σ H' → tz D σ H') (k2 : ∀ C f d, o = .exc C f d → ∀ p v B' H', Ex B B' → W B' O H' → B' p = some (.xd [(f, v)]) → Dt K B' v d → E (.ref C) (some p) H') :
    tSeq (tDrop (tCall (SpD K R) [] E t)) tz D σ H :=
  h B O σ H (Ex.refl _) (Ex.refl _) s _ fun vs B' H' e w dvs => by
    refine ⟨B', O, ds, o, w, by rw [List.append_nil]; exact dvs, hr, ?_⟩
    cases o with
    | ret d => exact fun v B2 H2 e2 w2 d2 => k1 d rfl B2 H2 (e.trans e2) ⟨w2, s.s.ex (e.trans e2)⟩
    | exc C f x => exact fun p v B2 H2 e2 w2 h2 d2 => k2 C f x rfl p v B2 H2 (e.trans e2) w2 h2 d2
end
section
variable {P : Program} {w : World} {K : PySem.W.Frag} {mg : Str → Option Value} {base : Heap}
theorem ok_fnOutD {x qual : Str} {st : Stmt} {f : Addr} {fd : FuncData} {N ps : List Str} {k : Nat} {R : List PyData → OutD → Prop} (F : Fun K x qual st f fd) (S : FnScope N ps (defScope st)) (hl : ∀ ds d, R ds d → ds.length = ps.length)
    (hb : ∀ (cdv : Value) (A : Around) (outer : List Env) (s : Shared) (H0 : Hp) (E : XK), Room k (A.deeper (envOfC qual (defScope st) s.heap.objs.size f cdv)) → ∀ ds o, R ds o →
      ∃ t, PSs (cxOf (L2.CX P w) P w K mg base N qual (defScope st) f cdv A outer s H0 E) (defBody st) t ∧
        ∀ B O σ H (Q : VK), Sta K B O (gOf ds (N.length - ps.length)) σ H → OutDOk K B O Q E o → t { nx := fun _ H' => Q .non H', rt := Q } σ H) :
    FnOk P w K mg base (L2.CX P w) (k + 1) f fd ps (SpD K R) := by
  refine F.okX S (fun vs H Q E h => ?_) (fun cdv A outer s H vs Q E hr h => ?_)
  · obtain ⟨B, O, ds, d, _, h2, h3, _⟩ := h
    rw [dps_len h2]
    exact hl ds d h3
  · obtain ⟨B, O, ds, d, h1, h2, h3, k⟩ := h
    obtain ⟨t, ht, hq⟩ := hb cdv A outer s H E hr ds d h3
    refine ⟨t, ht, hq B O _ H Q ⟨h1, ?_⟩ k⟩
    have e := slots_start h2 (N.length - ps.length)
    have hl' : vs.length = ps.length := by rw [dps_len h2]; exact hl ds d h3
    unfold L2.start
    rw [hl']
    exact e
end
end DL

set_option Elab.async false
set_option linter.all false
set_option maxRecDepth 100000
set_option maxHeartbeats 2000000
/-! Defs of data with defaults. -/
namespace DL
open PySem PySem.Spec PyProof.Rows L2 StX
/-- a def with defaults that stands at its name -/
structure AtD (K : PySem.W.Frag) (mg : Str → Option Value) (x : Str) (st : Stmt) (ps : List Str) (dvs : List V) (f : Addr) (fd : FuncData) : Prop where
  fn : FunD K x x (defArgs st) (defBody st) (defScope st) dvs [] f fd
  mg : mg x = some (.ref f)
  b0 : Binds K fd ps []
  b1 : ∃ ds, Vals dvs ds ∧ Binds K fd ps ds
section
variable {P : Program} {w : World} {K : PySem.W.Frag} {mg : Str → Option Value} {base : Heap}
/-- a def that stands at its name, its last parameters with defaults, and its promise -/
structure CalD (P : Program) (w : World) (K : PySem.W.Frag) (mg : Str → Option Value) (base : Heap) (k : Nat) (x : Str) (ps : List Str) (dvs : List V) (sp : Sp) : Prop where
  ex : ∃ f fd ds, FnOk P w K mg base CX0 k f fd ps sp ∧ mg x = some (.ref f) ∧ PySem.W.keepIn K (.ref f) = true ∧ Binds K fd ps [] ∧ Vals dvs ds ∧ Binds K fd ps ds
theorem AtD.cal {x : Str} {st : Stmt} {ps : List Str} {dvs : List V} {f : Addr} {fd : FuncData} {k : Nat} {sp : Sp} (a : AtD K mg x st ps dvs f fd) (h : FnOk P w K mg base CX0 k f fd ps sp) : CalD P w K mg base k x ps dvs sp := by
  obtain ⟨ds, h1, h2⟩ := a.b1
  exact ⟨f, fd, ds, h, a.mg, a.fn.kp, a.b0, h1, h2⟩
theorem CalD.cal {x : Str} {ps : List Str} {dvs : List V} {k : Nat} {sp : Sp} (c : CalD P w K mg base k x ps dvs sp) : Cal P w K mg base k x ps sp := by
  obtain ⟨f, fd, ds, h, m, kp, b0, _, _⟩ := c.ex
  exact ⟨f, fd, h, m, kp, b0⟩
theorem ok_fnD {x : Str} {st : Stmt} {f : Addr} {fd : FuncData} {N ps : List Str} {dvs : List V} {k : Nat} {R : List PyData → PyData → Prop} (F : FunD K x x (defArgs st) (defBody st) (defScope st) dvs [] f fd) (S : FnScope N ps (defScope st)) (hl : ∀ ds d, R ds d → ds.length = ps.length)
    (hb : ∀ (cdv : Value) (A : Around) (outer : List Env) (s : Shared) (H0 : Hp) (E : XK), Room k (A.deeper (envOfC x (defScope st) s.heap.objs.size f cdv)) → ∀ ds d, R ds d →
      ∃ t, PSs (cxOf CX0 P w K mg base N x (defScope st) f cdv A outer s H0 E).nox (defBody st) t ∧
        ∀ B O σ H (Q : VK), Sta K B O (gOf ds (N.length - ps.length)) σ H → (∀ v B' H', Ex B B' → W B' O H' → Dt K B' v d → Q v H') → t { nx := fun _ H' => Q .non H', rt := Q } σ H) :
    FnOk P w K mg base CX0 (k + 1) f fd ps (SpR K R) := by
  refine F.ok S (fun vs H Q E h => ?_) (fun cdv A outer s H vs Q E hr h => ?_)
  · obtain ⟨B, O, ds, d, _, h2, h3, _⟩ := h
    rw [dps_len h2]
    exact hl ds d h3
  · obtain ⟨B, O, ds, d, h1, h2, h3, k⟩ := h
    obtain ⟨t, ht, hq⟩ := hb cdv A outer s H E hr ds d h3
    refine ⟨t, ht.nox, hq B O _ H Q ⟨h1, ?_⟩ k⟩
    have e := slots_start h2 (N.length - ps.length)
    have hl' : vs.length = ps.length := by rw [dps_len h2]; exact hl ds d h3
    unfold L2.start
    rw [hl']
    exact e
end
theorem pe_calD {X : Cx} {x : Str} {ps : List Str} {dvs : List V} {sp : Sp} {k j : Nat} {p pos : Pos} {e : Expr} {es : List Expr} {t : TA} (C : CalD X.prog X.w X.K X.mg X.base k x ps dvs sp) (hr : Room j X.A) (hk : k ≤ j) (hg : Gl X x) (ha : PA X (e :: es) t) (hd : (x == ("__debug__" : Str)) = false := by decide)
    (he : starEach (e :: es) X.env = (false, eval e X.env) :: starEach es X.env := by rfl) (hpl : (backTo pos (starEach es X.env)).any (·.1) = false := by rfl) :
    PE X (.Call (.Name x p) (e :: es) [] pos) (tCall sp dvs E0 t) := by
  obtain ⟨f, fd, ds, h1, h2, h3, _, h4, h5⟩ := C.ex
  exact pe_call (h1.mono hk) hr hg h2 h3 h5 h4 pass0 ha hd he hpl
theorem ev_callD {K : PySem.W.Frag} {B O : Hp} {G : List SD} {R : List PyData → PyData → Prop} {ds es : List PyData} {dvs : List V} {d : PyData} {t : TA} {E : XK} (h : EvA K B O G t ds) (hv : ∀ B', DtAll K B' dvs es) (hr : R (ds ++ es) d) : EvD K B O G (tCall (SpR K R) dvs E t) d := fun B1 O1 σ H e o s Q q =>
  h B1 O1 σ H e o s _ fun vs B2 H2 e2 w2 d2 => ⟨B2, O1, ds ++ es, d, w2, dps_app d2 (hv B2), hr, fun v B3 H3 e3 w3 d3 => q v B3 H3 (e2.trans e3) w3 d3⟩
section
variable {K : PySem.W.Frag} {B O : Hp} {G : List SD}
theorem ev_words {a : Addr} {ws : List Str} (t : ∀ H : Hp, SqT K H a (ws.map V.str)) : EvD K B O G (tC (.ref a)) (.tuple (ws.map .str)) := ev_c fun H => .tup (t H) (by
  induction ws with
  | nil => exact .nil
  | cons x ws ih =>
    have key : ∀ l : List Str, DtAll K H (l.map V.str) (l.map PyData.str) := fun l => by
      induction l with
      | nil => exact .nil
      | cons y l ih => exact .cons (.str y) ih
    exact key _)
theorem in_strs {x : Str} {ys : List Str} : inV (.str x) (ys.map V.str) = ys.any (x == ·) := by
  induction ys with
  | nil => rfl
  | cons y ys ih =>
    show (eqV (.str y) (.str x) || inV (.str x) (ys.map V.str)) = _
    rw [ih]
    show (decide (y = x) || _) = ((x == y) || _)
    congr 1
    by_cases h : y = x
    · subst h
      simp
    · rw [decide_eq_false h]
      symm
      exact beq_eq_false_iff_ne.mpr fun e => h e.symm
theorem rd_inW {x : Str} {ws : List Str} : RD K (rIn K false) (.str x) (.tuple (ws.map .str)) (.bool (ws.any (x == ·))) := rd_inT rfl (by
  rw [List.all_map, List.all_eq_true]
  exact fun _ _ => rfl) (by
  have e : (ws.map PyData.str).map fv = ws.map V.str := by
    rw [List.map_map]
    rfl
  rw [if_neg Bool.false_ne_true, e]
  exact in_strs)
def isStrD : PyData → Bool
  | .str _ => true
  | _ => false
theorem kit_str : ∀ (d : PyData), kitB (tyN d) "str" = some (isStrD d)
  | .none => (by decide +kernel : kitB "NoneType" "str" = some false)
  | .bool _ => (by decide +kernel : kitB "bool" "str" = some false)
  | .int _ => (by decide +kernel : kitB "int" "str" = some false)
  | .str _ => (by decide +kernel : kitB "str" "str" = some true)
  | .list _ => (by decide +kernel : kitB "list" "str" = some false)
  | .tuple _ => (by decide +kernel : kitB "tuple" "str" = some false)
  | .dict _ => (by decide +kernel : kitB "dict" "str" = some false)
end
section
variable {K : PySem.W.Frag} {B O : Hp} {G : List SD} {ta tb tc : TE} {x y z : PyData} {r r' : R2}
theorem ev_chain {a b : Bool} (ha : EvD K B O G ta x) (hb : EvD K B O G tb y) (hc : a = true → EvD K B O G tc z) (h1 : RD K r x y (.bool a)) (h2 : a = true → RD K r' y z (.bool b)) : EvD K B O G (tChain r r' ta tb tc) (.bool (a && b)) := fun B1 O1 σ H e o s Q q =>
  ha B1 O1 σ H e o s _ fun v B2 H2 e2 w2 d2 => hb B2 O1 σ H2 (e.trans e2) o (s.ex e2 w2) _ fun u B3 H3 e3 w3 d3 =>
    h1 B3 O1 H3 v u w3 (dp_ex e3 _ _ d2) d3 _ fun zv B4 H4 e4 w4 d4 => ⟨a, dp_bool d4, by
      cases a with
      | false =>
        rw [if_neg Bool.false_ne_true]
        exact q _ B4 H4 ((e2.trans e3).trans e4) w4 (.bl _)
      | true =>
        rw [if_pos rfl]
        exact hc rfl B4 O1 σ H4 (((e.trans e2).trans e3).trans e4) o (s.ex ((e2.trans e3).trans e4) w4) _ fun zz B5 H5 e5 w5 d5 =>
          h2 rfl B5 O1 H5 u zz w5 (dp_ex (e4.trans e5) _ _ d3) d5 Q fun rr B6 H6 e6 w6 d6 => q rr B6 H6 ((((e2.trans e3).trans e4).trans e5).trans e6) w6 d6⟩
end
end DL

set_option Elab.async false
set_option linter.all false
set_option maxRecDepth 100000
set_option maxHeartbeats 4000000
namespace Toy
open PySem PySem.Spec PyProof.Rows L2 StX DL

def topS (i : Nat) : Stmt := PySem.Challenge.pw_withinlimits_k05_parts_at_their_bounds.main.body.getD i (.Pass ⟨0, 0, 0, 0⟩)
abbrev s_is_integer : Stmt := topS 11
abbrev N_sc_is_integer : List Str := ["value"]
theorem sc_is_integer : FnScope N_sc_is_integer ["value"] (defScope s_is_integer) := ⟨rfl, rfl, rfl, by decide +kernel, rfl, by decide +kernel, by decide +kernel⟩
abbrev s_is_from : Stmt := topS 12
abbrev N_sc_is_from : List Str := ["value", "low", "high"]
theorem sc_is_from : FnScope N_sc_is_from ["value", "low", "high"] (defScope s_is_from) := ⟨rfl, rfl, rfl, by decide +kernel, rfl, by decide +kernel, by decide +kernel⟩
abbrev s_is_from_or_none : Stmt := topS 13
abbrev N_sc_is_from_or_none : List Str := ["value", "low", "high"]
theorem sc_is_from_or_none : FnScope N_sc_is_from_or_none ["value", "low", "high"] (defScope s_is_from_or_none) := ⟨rfl, rfl, rfl, by decide +kernel, rfl, by decide +kernel, by decide +kernel⟩
abbrev s_is_one_of : Stmt := topS 14
abbrev N_sc_is_one_of : List Str := ["value", "words"]
theorem sc_is_one_of : FnScope N_sc_is_one_of ["value", "words"] (defScope s_is_one_of) := ⟨rfl, rfl, rfl, by decide +kernel, rfl, by decide +kernel, by decide +kernel⟩
abbrev s_is_cell : Stmt := topS 32
abbrev N_sc_is_cell : List Str := ["part", "word", "low", "high", "manner"]
theorem sc_is_cell : FnScope N_sc_is_cell ["part"] (defScope s_is_cell) := ⟨rfl, rfl, rfl, by decide +kernel, rfl, by decide +kernel, by decide +kernel⟩
abbrev s_is_row : Stmt := topS 33
abbrev N_sc_is_row : List Str := ["part", "word", "parts"]
theorem sc_is_row : FnScope N_sc_is_row ["part"] (defScope s_is_row) := ⟨rfl, rfl, rfl, by decide +kernel, rfl, by decide +kernel, by decide +kernel⟩
abbrev s_is_choice : Stmt := topS 34
abbrev N_sc_is_choice : List Str := ["part", "word", "manner", "options", "low", "option"]
theorem sc_is_choice : FnScope N_sc_is_choice ["part"] (defScope s_is_choice) := ⟨rfl, rfl, rfl, by decide +kernel, rfl, by decide +kernel, by decide +kernel⟩
abbrev s_is_times : Stmt := topS 35
abbrev N_sc_is_times : List Str := ["part"]
theorem sc_is_times : FnScope N_sc_is_times ["part"] (defScope s_is_times) := ⟨rfl, rfl, rfl, by decide +kernel, rfl, by decide +kernel, by decide +kernel⟩
abbrev s_is_counted : Stmt := topS 36
abbrev N_sc_is_counted : List Str := ["part", "word", "manner", "most", "ahead", "counted"]
theorem sc_is_counted : FnScope N_sc_is_counted ["part"] (defScope s_is_counted) := ⟨rfl, rfl, rfl, by decide +kernel, rfl, by decide +kernel, by decide +kernel⟩
abbrev s_is_within : Stmt := topS 37
abbrev N_sc_is_within : List Str := ["part", "word", "manner", "most", "limit", "rest", "inner"]
theorem sc_is_within : FnScope N_sc_is_within ["part"] (defScope s_is_within) := ⟨rfl, rfl, rfl, by decide +kernel, rfl, by decide +kernel, by decide +kernel⟩
abbrev s_is_holder : Stmt := topS 38
abbrev N_sc_is_holder : List Str := ["part"]
theorem sc_is_holder : FnScope N_sc_is_holder ["part"] (defScope s_is_holder) := ⟨rfl, rfl, rfl, by decide +kernel, rfl, by decide +kernel, by decide +kernel⟩
abbrev s_is_need : Stmt := topS 39
abbrev N_sc_is_need : List Str := ["part"]
theorem sc_is_need : FnScope N_sc_is_need ["part"] (defScope s_is_need) := ⟨rfl, rfl, rfl, by decide +kernel, rfl, by decide +kernel, by decide +kernel⟩
abbrev s_is_pad : Stmt := topS 40
abbrev N_sc_is_pad : List Str := ["part", "word", "many", "manner"]
theorem sc_is_pad : FnScope N_sc_is_pad ["part"] (defScope s_is_pad) := ⟨rfl, rfl, rfl, by decide +kernel, rfl, by decide +kernel, by decide +kernel⟩
abbrev s_has_form : Stmt := topS 43
abbrev N_sc_has_form : List Str := ["thing", "word", "form"]
theorem sc_has_form : FnScope N_sc_has_form ["thing"] (defScope s_has_form) := ⟨rfl, rfl, rfl, by decide +kernel, rfl, by decide +kernel, by decide +kernel⟩
abbrev s_is_barred_from_told : Stmt := topS 44
abbrev N_sc_is_barred_from_told : List Str := ["part"]
theorem sc_is_barred_from_told : FnScope N_sc_is_barred_from_told ["part"] (defScope s_is_barred_from_told) := ⟨rfl, rfl, rfl, by decide +kernel, rfl, by decide +kernel, by decide +kernel⟩
abbrev s_suits_its_part : Stmt := topS 45
abbrev N_sc_suits_its_part : List Str := ["part", "path", "inner"]
theorem sc_suits_its_part : FnScope N_sc_suits_its_part ["part"] (defScope s_suits_its_part) := ⟨rfl, rfl, rfl, by decide +kernel, rfl, by decide +kernel, by decide +kernel⟩
abbrev s_counted_parts : Stmt := topS 46
abbrev N_sc_counted_parts : List Str := ["part", "inner", "one"]
theorem sc_counted_parts : FnScope N_sc_counted_parts ["part"] (defScope s_counted_parts) := ⟨rfl, rfl, rfl, by decide +kernel, rfl, by decide +kernel, by decide +kernel⟩
abbrev s_is_part : Stmt := topS 47
abbrev N_sc_is_part : List Str := ["thing", "waiting", "many", "part", "deep", "inner", "path"]
theorem sc_is_part : FnScope N_sc_is_part ["thing"] (defScope s_is_part) := ⟨rfl, rfl, rfl, by decide +kernel, rfl, by decide +kernel, by decide +kernel⟩
abbrev s_size_of : Stmt := topS 48
abbrev N_sc_size_of : List Str := ["part", "word", "sizes", "inner", "size"]
theorem sc_size_of : FnScope N_sc_size_of ["part"] (defScope s_size_of) := ⟨rfl, rfl, rfl, by decide +kernel, rfl, by decide +kernel, by decide +kernel⟩
abbrev s_parts_of : Stmt := topS 49
abbrev N_sc_parts_of : List Str := ["part", "option"]
theorem sc_parts_of : FnScope N_sc_parts_of ["part"] (defScope s_parts_of) := ⟨rfl, rfl, rfl, by decide +kernel, rfl, by decide +kernel, by decide +kernel⟩
abbrev s_subparts : Stmt := topS 50
abbrev N_sc_subparts : List Str := ["part", "pairs", "index", "inner", "path", "one"]
theorem sc_subparts : FnScope N_sc_subparts ["part"] (defScope s_subparts) := ⟨rfl, rfl, rfl, by decide +kernel, rfl, by decide +kernel, by decide +kernel⟩
abbrev s_first_wrong : Stmt := topS 54
abbrev N_sc_first_wrong : List Str := ["part", "path", "index", "inner", "wrong"]
theorem sc_first_wrong : FnScope N_sc_first_wrong ["part", "path"] (defScope s_first_wrong) := ⟨rfl, rfl, rfl, by decide +kernel, rfl, by decide +kernel, by decide +kernel⟩
abbrev s_check_part : Stmt := topS 55
abbrev N_sc_check_part : List Str := ["part", "wrong"]
theorem sc_check_part : FnScope N_sc_check_part ["part"] (defScope s_check_part) := ⟨rfl, rfl, rfl, by decide +kernel, rfl, by decide +kernel, by decide +kernel⟩
abbrev s_law_pool : Stmt := topS 76
abbrev N_sc_law_pool : List Str := ["script", "k", "cell", "size", "seed"]
theorem sc_law_pool : FnScope N_sc_law_pool ["script", "k"] (defScope s_law_pool) := ⟨rfl, rfl, rfl, by decide +kernel, rfl, by decide +kernel, by decide +kernel⟩
abbrev s_law_draw : Stmt := topS 77
abbrev N_sc_law_draw : List Str := ["pool", "count", "found"]
theorem sc_law_draw : FnScope N_sc_law_draw ["pool", "count"] (defScope s_law_draw) := ⟨rfl, rfl, rfl, by decide +kernel, rfl, by decide +kernel, by decide +kernel⟩
abbrev s_law_told : Stmt := topS 78
abbrev N_sc_law_told : List Str := ["part", "reader", "e"]
theorem sc_law_told : FnScope N_sc_law_told ["part"] (defScope s_law_told) := ⟨rfl, rfl, rfl, by decide +kernel, rfl, by decide +kernel, by decide +kernel⟩
abbrev s_law_is : Stmt := topS 79
abbrev N_sc_law_is : List Str := ["part", "path", "due"]
theorem sc_law_is : FnScope N_sc_law_is ["part", "path"] (defScope s_law_is) := ⟨rfl, rfl, rfl, by decide +kernel, rfl, by decide +kernel, by decide +kernel⟩
abbrev s_law_chain : Stmt := topS 80
abbrev N_sc_law_chain : List Str := ["pool", "depth", "part", "turn", "kind"]
theorem sc_law_chain : FnScope N_sc_law_chain ["pool", "depth"] (defScope s_law_chain) := ⟨rfl, rfl, rfl, by decide +kernel, rfl, by decide +kernel, by decide +kernel⟩
abbrev s_law_rows : Stmt := topS 81
abbrev N_sc_law_rows : List Str := ["many", "rows"]
theorem sc_law_rows : FnScope N_sc_law_rows ["many"] (defScope s_law_rows) := ⟨rfl, rfl, rfl, by decide +kernel, rfl, by decide +kernel, by decide +kernel⟩
abbrev s_law : Stmt := topS 82
abbrev N_sc_law : List Str := ["script", "k", "pool", "leaf", "first", "options", "rows", "six", "most", "at"]
theorem sc_law : FnScope N_sc_law ["script"] (defScope s_law) := ⟨rfl, rfl, rfl, by decide +kernel, rfl, by decide +kernel, by decide +kernel⟩

/-- where the module's tuples and dicts stand -/
structure Ads where
  man : Addr
  lim : Addr
  rests : Addr
  hold : Addr
  forms : Addr
  lens : Addr
/-- the built-ins that the text calls, and its constants -/
structure Txt (K : PySem.W.Frag) (mg : Str → Option Value) (A : Ads) : Prop where
  b_len : mg "len" = none
  b_list : mg "list" = none
  b_tuple : mg "tuple" = none
  b_int : mg "int" = none
  b_str : mg "str" = none
  b_bool : mg "bool" = none
  b_abs : mg "abs" = none
  b_sum : mg "sum" = none
  b_all : mg "all" = none
  b_any : mg "any" = none
  b_max : mg "max" = none
  b_min : mg "min" = none
  b_range : mg "range" = none
  b_enumerate : mg "enumerate" = none
  b_isinstance : mg "isinstance" = none
  g_MANNERS : mg "MANNERS" = some (.ref A.man)
  g_LIMITS : mg "LIMITS" = some (.ref A.lim)
  g_RESTS : mg "RESTS" = some (.ref A.rests)
  g_HOLDERS : mg "HOLDERS" = some (.ref A.hold)
  g_FORMS : mg "FORMS" = some (.ref A.forms)
  g_LENGTHS : mg "LENGTHS" = some (.ref A.lens)
  t_MANNERS : ∀ H : Hp, SqT K H A.man (PD.MANNERS.map V.str)
  t_LIMITS : ∀ H : Hp, SqT K H A.lim (PD.LIMITS.map V.str)
  t_RESTS : ∀ H : Hp, SqT K H A.rests (PD.RESTS.map V.str)
  t_HOLDERS : ∀ H : Hp, SqT K H A.hold (PD.HOLDERS.map V.str)
  n_MOST_CELL_BOUND : ∃ t, mg "MOST_CELL_BOUND" = some (.int 1000000 t)
  n_MOST_DEEP : ∃ t, mg "MOST_DEEP" = some (.int 8 t)
  n_MOST_PARTS : ∃ t, mg "MOST_PARTS" = some (.int 60 t)
  n_MOST_COUNTED : ∃ t, mg "MOST_COUNTED" = some (.int 1000 t)
end Toy

set_option Elab.async false
set_option linter.all false
set_option maxRecDepth 100000
set_option maxHeartbeats 4000000
namespace Toy
open PySem PySem.Spec PyProof.Rows L2 StX DL
section
variable {P : Program} {w : World} {K : PySem.W.Frag} {mg : Str → Option Value} {base : Heap} {AD : Ads}


def R_isint (ds : List PyData) (d : PyData) : Prop := ∃ x, ds = [x] ∧ d = .bool (PD.isWhole x)
theorem ok_is_integer {f : Addr} {fd : FuncData} (T : Txt K mg AD) (a : At K mg "is_integer" s_is_integer ["value"] f fd) : FnOk P w K mg base CX0 2 f fd ["value"] (SpR K R_isint) := by
  refine ok_fn a.fn sc_is_integer (by rintro ds d ⟨x, rfl, _⟩; rfl) fun cdv A outer s H0 E hr ds d ⟨x, e1, e2⟩ => ?_
  subst e1 e2
  refine ⟨_, (pss_one (ps_ret (pe_and (pe_callB (call_isiK' K) (by rfl) T.b_isinstance (by decide +kernel) (pa_cons (pv 0) (pa_cons (pe_bltn (v := .ty "int") (by rfl) T.b_int (by decide +kernel) rfl) pa_nil))) (pe_one (pe_not (pe_callB (call_isiK' K) (by rfl) T.b_isinstance (by decide +kernel) (pa_cons (pv 0) (pa_cons (pe_bltn (v := .ty "bool") (by rfl) T.b_bool (by decide +kernel) rfl) pa_nil)))))))), fun B O σ H Q st q => ?_⟩
  refine s_ret st (ev_andV (ev_isi (ev_var rfl) (kit_int x)) fun _ => ev_notV (ev_isi (ev_var rfl) (kit_bool x))) fun v B' H' e w d => ?_
  exact q v B' H' e w d
def R_from (ds : List PyData) (d : PyData) : Prop := ∃ x lo hi, ds = [x, .int lo, PD.encO hi] ∧ d = .bool (PD.inFrom x lo hi)
theorem ok_is_from {f : Addr} {fd : FuncData} (T : Txt K mg AD) (C_is_integer : Cal P w K mg base 2 "is_integer" ["value"] (SpR K R_isint)) (a : AtD K mg "is_from" s_is_from ["value", "low", "high"] [.non] f fd) : FnOk P w K mg base CX0 4 f fd ["value", "low", "high"] (SpR K R_from) := by
  refine ok_fnD a.fn sc_is_from (by rintro ds d ⟨x, lo, hi, rfl, _⟩; rfl) fun cdv A outer s H0 E hr ds d ⟨x, lo, hi, e1, e2⟩ => ?_
  subst e1 e2
  refine ⟨_, (pss_one (ps_ret (pe_and (pe_cal C_is_integer hr (by omega) (by rfl) (pa_cons (pv 0) pa_nil)) (pe_and (pe_cmpR op_ge (pv 0) (pv 1) (nomark _)) (pe_one (pe_or (pe_cmpR op_isN (pv 2) pe_non (nomark _)) (pe_one (pe_cmpR op_le (pv 0) (pv 2) (nomark _))))))))), fun B O σ H Q st q => ?_⟩
  cases hw : PD.isWhole x with
  | false =>
    rw [PD.inFrom_not hw] at q
    refine s_ret st (ev_andV (b := true) (ev_is (ev_call (ea_cons (ev_var rfl) ea_nil) ⟨x, rfl, rfl⟩) (congrArg PyData.bool hw)) (fun z => Bool.noConfusion z)) fun v B' H' e w d => ?_
    exact q v B' H' e w d
  | true =>
    obtain ⟨i, rfl⟩ := PD.whole_cases hw
    refine s_ret st (ev_andV (ev_is (ev_call (ea_cons (ev_var rfl) ea_nil) ⟨_, rfl, rfl⟩) (congrArg PyData.bool hw)) fun _ => ev_andV (ev_op (ev_var rfl) (ev_var rfl) rd_B0) fun h2 => ev_orV (a := hi.isNone) (ev_isNone (ev_var rfl) ev_non (by cases hi <;> rfl)) (b := PD.under hi i) fun h3 => ?_) fun v B' H' e w d => ?_
    · cases hi with
      | none => cases h3
      | some h => exact ev_op (ev_var rfl) (ev_var rfl) rd_B0
    · refine q v B' H' e w ?_
      have e3 : PD.inFrom (.int i) lo hi = (true && (decide (lo ≤ i) && (hi.isNone || PD.under hi i))) := by
        cases hi <;> simp [PD.inFrom, PD.under]
      rw [e3]
      exact d
abbrev CalFrom (P : Program) (w : World) (K : PySem.W.Frag) (mg : Str → Option Value) (base : Heap) : Prop := CalD P w K mg base 4 "is_from" ["value", "low", "high"] [.non] (SpR K R_from)
def R_orn (ds : List PyData) (d : PyData) : Prop := ∃ x lo hi, ds = [x, .int lo, PD.encO hi] ∧ d = .bool (PD.orNone x lo hi)
theorem ok_is_from_or_none {f : Addr} {fd : FuncData} (T : Txt K mg AD) (C_is_from : CalFrom P w K mg base) (a : AtD K mg "is_from_or_none" s_is_from_or_none ["value", "low", "high"] [.non] f fd) : FnOk P w K mg base CX0 6 f fd ["value", "low", "high"] (SpR K R_orn) := by
  refine ok_fnD a.fn sc_is_from_or_none (by rintro ds d ⟨x, lo, hi, rfl, _⟩; rfl) fun cdv A outer s H0 E hr ds d ⟨x, lo, hi, e1, e2⟩ => ?_
  subst e1 e2
  refine ⟨_, (pss_one (ps_ret (pe_or (pe_cmpR op_isN (pv 0) pe_non (nomark _)) (pe_one (pe_cal C_is_from.cal hr (by omega) (by rfl) (pa_cons (pv 0) (pa_cons (pv 1) (pa_cons (pv 2) pa_nil)))))))), fun B O σ H Q st q => ?_⟩
  have e : PD.orNone x lo hi = (PD.isNoneD x || PD.inFrom x lo hi) := by cases x <;> rfl
  rw [e] at q
  refine s_ret st (ev_orV (a := PD.isNoneD x) (ev_isNone (ev_var rfl) ev_non (by cases x <;> rfl)) fun _ => ev_call (ea_cons (ev_var rfl) (ea_cons (ev_var rfl) (ea_cons (ev_var rfl) ea_nil))) ⟨x, lo, hi, rfl, rfl⟩) fun v B' H' e w d => ?_
  exact q v B' H' e w d
abbrev CalOrn (P : Program) (w : World) (K : PySem.W.Frag) (mg : Str → Option Value) (base : Heap) : Prop := CalD P w K mg base 6 "is_from_or_none" ["value", "low", "high"] [.non] (SpR K R_orn)
def R_one (ds : List PyData) (d : PyData) : Prop := ∃ x ws, ds = [x, .tuple (ws.map .str)] ∧ d = .bool (PD.oneOf ws x)
theorem ok_is_one_of {f : Addr} {fd : FuncData} (T : Txt K mg AD) (a : At K mg "is_one_of" s_is_one_of ["value", "words"] f fd) : FnOk P w K mg base CX0 2 f fd ["value", "words"] (SpR K R_one) := by
  refine ok_fn a.fn sc_is_one_of (by rintro ds d ⟨x, ws, rfl, _⟩; rfl) fun cdv A outer s H0 E hr ds d ⟨x, ws, e1, e2⟩ => ?_
  subst e1 e2
  refine ⟨_, (pss_one (ps_ret (pe_and (pe_callB (call_isiK' K) (by rfl) T.b_isinstance (by decide +kernel) (pa_cons (pv 0) (pa_cons (pe_bltn (v := .ty "str") (by rfl) T.b_str (by decide +kernel) rfl) pa_nil))) (pe_one (pe_cmpR (op_inK K) (pv 0) (pv 1) (by rfl)))))), fun B O σ H Q st q => ?_⟩
  cases hw : isStrD x with
  | false =>
    have e : PD.oneOf ws x = false := by cases x <;> first | rfl | cases hw
    rw [e] at q
    refine s_ret st (ev_andV (a := false) (b := true) (ev_isi (ev_var rfl) (by rw [← hw]; exact kit_str x)) (fun z => Bool.noConfusion z)) fun v B' H' e w d => ?_
    exact q v B' H' e w d
  | true =>
    obtain ⟨y, rfl⟩ : ∃ y, x = .str y := by cases x <;> first | exact ⟨_, rfl⟩ | cases hw
    refine s_ret st (ev_andV (a := true) (ev_isi (ev_var rfl) (kit_str _)) fun _ => ev_op (ev_var rfl) (ev_var rfl) rd_inW) fun v B' H' e w d => ?_
    exact q v B' H' e w d
end
end Toy

set_option Elab.async false
set_option linter.all false
set_option maxRecDepth 100000
set_option maxHeartbeats 4000000
namespace Toy
open PySem PySem.Spec PyProof.Rows L2 StX DL


def R_fp (p : List PyData → Bool) (n : Nat) (ds : List PyData) (d : PyData) : Prop := ∃ (w : Str) (fs : List PyData), fs.length + 1 = n ∧ ds = [.tuple (.str w :: fs)] ∧ d = .bool (p fs)
abbrev CalInt (P : Program) (w : World) (K : PySem.W.Frag) (mg : Str → Option Value) (base : Heap) : Prop := Cal P w K mg base 2 "is_integer" ["value"] (SpR K R_isint)
abbrev CalOne (P : Program) (w : World) (K : PySem.W.Frag) (mg : Str → Option Value) (base : Heap) : Prop := Cal P w K mg base 2 "is_one_of" ["value", "words"] (SpR K R_one)
theorem R_fp_len {p : List PyData → Bool} {n : Nat} : ∀ ds d, R_fp p n ds d → ds.length = 1 := by
  rintro ds d ⟨w, fs, _, rfl, _⟩
  rfl
section
variable {K : PySem.W.Frag} {B O : Hp} {G : List SD} {ta tb tc : TE} {x : PyData} {lo hi : Int} {E : XK}
theorem ev_from (h1 : EvD K B O G ta x) (h2 : EvD K B O G tb (.int lo)) (h3 : EvD K B O G tc (.int hi)) : EvD K B O G (tCall (SpR K R_from) [] E (tCons ta (tCons tb (tCons tc tNil)))) (.bool (PD.inFrom x lo (some hi))) := ev_call (ea_cons h1 (ea_cons h2 (ea_cons h3 ea_nil))) ⟨x, lo, some hi, rfl, rfl⟩
theorem ev_orn (h1 : EvD K B O G ta x) (h2 : EvD K B O G tb (.int lo)) (h3 : EvD K B O G tc (.int hi)) : EvD K B O G (tCall (SpR K R_orn) [] E (tCons ta (tCons tb (tCons tc tNil)))) (.bool (PD.orNone x lo (some hi))) := ev_call (ea_cons h1 (ea_cons h2 (ea_cons h3 ea_nil))) ⟨x, lo, some hi, rfl, rfl⟩
theorem ev_isTup {b : Bool} (h1 : EvD K B O G ta x) (e : isTupD x = b) : EvD K B O G (tCB (rIsi K) (tCons ta (tCons (tC (.ty "tuple")) tNil))) (.bool b) := ev_isi h1 (by rw [← e]; exact kit_tup x)
theorem ev_one {ws : List Str} (h1 : EvD K B O G ta x) (h2 : EvD K B O G tb (.tuple (ws.map .str))) : EvD K B O G (tCall (SpR K R_one) [] E (tCons ta (tCons tb tNil))) (.bool (PD.oneOf ws x)) := ev_call (ea_cons h1 (ea_cons h2 ea_nil)) ⟨x, ws, rfl, rfl⟩
end
section
variable {P : Program} {w : World} {K : PySem.W.Frag} {mg : Str → Option Value} {base : Heap} {AD : Ads}

theorem ok_is_cell {f : Addr} {fd : FuncData} (T : Txt K mg AD) (C_is_from : CalFrom P w K mg base) (C_is_from_or_none : CalOrn P w K mg base) (C_is_one_of : CalOne P w K mg base) (a : At K mg "is_cell" s_is_cell ["part"] f fd) : FnOk P w K mg base CX0 8 f fd ["part"] (SpR K (R_fp PD.isCell 4)) := by
  refine ok_fn a.fn sc_is_cell R_fp_len fun cdv A outer s H0 E hr ds d ⟨wd, fs, hl, e1, e2⟩ => ?_
  subst e1 e2
  refine ⟨_, (pss_cons (ps_asg (pv 0) (pg_tupK K (n := 4) (by rfl) (pgs_cons (pg_name (i := 1) sc_is_cell.nd rfl (Or.inl rfl)) (pgs_cons (pg_name (i := 2) sc_is_cell.nd rfl (Or.inl rfl)) (pgs_cons (pg_name (i := 3) sc_is_cell.nd rfl (Or.inl rfl)) (pgs_cons (pg_name (i := 4) sc_is_cell.nd rfl (Or.inl rfl)) pgs_nil))))))
    (pss_one (ps_ret (pe_and (pe_cal C_is_from.cal hr (by omega) (by rfl) (pa_cons (pv 2) (pa_cons pe_int (pa_cons (pe_gi (n := 1000000) (by rfl) T.n_MOST_CELL_BOUND) pa_nil)))) (pe_and (pe_cal C_is_from_or_none.cal hr (by omega) (by rfl) (pa_cons (pv 3) (pa_cons (pv 2) (pa_cons (pe_gi (n := 1000000) (by rfl) T.n_MOST_CELL_BOUND) pa_nil)))) (pe_one (pe_cal C_is_one_of hr (by omega) (by rfl) (pa_cons (pv 4) (pa_cons (pe_glob (v := .ref AD.man) (by rfl) T.g_MANNERS rfl) pa_nil))))))))), fun B O σ H Q st q => ?_⟩
  match fs, hl with
  | [lo, hi, m], _ =>
  refine q_unpack (js := [1, 2, 3, 4]) (ds := [.str wd, lo, hi, m]) st (ev_var rfl) rfl fun σ1 B1 H1 x1 st => ?_
  refine s_ret st (ev_andV (ev_from (ev_var rfl) ev_int ev_int) fun hb => ?_) fun v B2 H2 x2 w2 d2 => q v B2 H2 (x1.trans x2) w2 d2
  obtain ⟨z, rfl, _, _⟩ := PD.from_int hb
  exact ev_andV (ev_orn (ev_var rfl) (ev_var rfl) ev_int) fun _ => ev_one (ev_var rfl) (ev_words T.t_MANNERS)
theorem ok_is_row {f : Addr} {fd : FuncData} (T : Txt K mg AD) (a : At K mg "is_row" s_is_row ["part"] f fd) : FnOk P w K mg base CX0 8 f fd ["part"] (SpR K (R_fp PD.isRow 2)) := by
  refine ok_fn a.fn sc_is_row R_fp_len fun cdv A outer s H0 E hr ds d ⟨wd, fs, hl, e1, e2⟩ => ?_
  subst e1 e2
  refine ⟨_, (pss_cons (ps_asg (pv 0) (pg_tupK K (n := 2) (by rfl) (pgs_cons (pg_name (i := 1) sc_is_row.nd rfl (Or.inl rfl)) (pgs_cons (pg_name (i := 2) sc_is_row.nd rfl (Or.inl rfl)) pgs_nil))))
    (pss_one (ps_ret (pe_and (pe_callB (call_isiK' K) (by rfl) T.b_isinstance (by decide +kernel) (pa_cons (pv 2) (pa_cons (pe_bltn (v := .ty "tuple") (by rfl) T.b_tuple (by decide +kernel) rfl) pa_nil))) (pe_one (pe_cmpR op_le (pe_callB (call_lenK K) (by rfl) T.b_len PySem.boot_len (pa_cons (pv 2) pa_nil)) pe_int (nomark _))))))), fun B O σ H Q st q => ?_⟩
  match fs, hl with
  | [x], _ =>
  refine q_unpack (js := [1, 2]) (ds := [.str wd, x]) st (ev_var rfl) rfl fun σ1 B1 H1 x1 st => ?_
  cases ht : isTupD x with
  | false =>
    have e : PD.isRow [x] = false := by cases x <;> first | rfl | cases ht
    rw [e] at q
    refine s_ret st (ev_andV (a := false) (b := true) (ev_isTup (ev_var rfl) ht) (fun z => Bool.noConfusion z)) fun v B2 H2 x2 w2 d2 => q v B2 H2 (x1.trans x2) w2 d2
  | true =>
    obtain ⟨ps, rfl⟩ : ∃ ps, x = .tuple ps := by cases x <;> first | exact ⟨_, rfl⟩ | cases ht
    refine s_ret st (ev_andV (a := true) (ev_isi (ev_var rfl) (kit_tup _)) fun _ => ev_op (ev_cb (ea_cons (ev_var rfl) ea_nil) rc_lenT) ev_int rd_B0) fun v B2 H2 x2 w2 d2 => ?_
    have e : PD.isRow [.tuple ps] = (true && decide ((ps.length : Int) ≤ 12)) := by
      rw [Bool.true_and]
      exact decide_eq_decide.mpr (by omega)
    rw [e] at q
    exact q v B2 H2 (x1.trans x2) w2 d2
theorem ok_is_times {f : Addr} {fd : FuncData} (T : Txt K mg AD) (C_is_from : CalFrom P w K mg base) (a : At K mg "is_times" s_is_times ["part"] f fd) : FnOk P w K mg base CX0 8 f fd ["part"] (SpR K (R_fp PD.isTimes 3)) := by
  refine ok_fn a.fn sc_is_times R_fp_len fun cdv A outer s H0 E hr ds d ⟨wd, fs, hl, e1, e2⟩ => ?_
  subst e1 e2
  refine ⟨_, (pss_one (ps_ret (pe_cal C_is_from.cal hr (by omega) (by rfl) (pa_cons (pe_ix (ix_tupK K) (pv 0) pe_int (fun _ _ => rfl)) (pa_cons pe_int (pa_cons pe_int pa_nil)))))), fun B O σ H Q st q => ?_⟩
  match fs, hl with
  | [n, x], _ =>
  exact s_ret st (ev_from (ev_op (ev_var rfl) ev_int (rd_ixT at1)) ev_int ev_int) fun v B2 H2 x2 w2 d2 => q v B2 H2 x2 w2 d2
theorem ok_is_need {f : Addr} {fd : FuncData} (T : Txt K mg AD) (C_is_from : CalFrom P w K mg base) (a : At K mg "is_need" s_is_need ["part"] f fd) : FnOk P w K mg base CX0 8 f fd ["part"] (SpR K (R_fp PD.isNeed 2)) := by
  refine ok_fn a.fn sc_is_need R_fp_len fun cdv A outer s H0 E hr ds d ⟨wd, fs, hl, e1, e2⟩ => ?_
  subst e1 e2
  refine ⟨_, (pss_one (ps_ret (pe_cal C_is_from.cal hr (by omega) (by rfl) (pa_cons (pe_ix (ix_tupK K) (pv 0) pe_int (fun _ _ => rfl)) (pa_cons pe_int (pa_cons pe_int pa_nil)))))), fun B O σ H Q st q => ?_⟩
  match fs, hl with
  | [n], _ =>
  exact s_ret st (ev_from (ev_op (ev_var rfl) ev_int (rd_ixT at1)) ev_int ev_int) fun v B2 H2 x2 w2 d2 => q v B2 H2 x2 w2 d2
theorem ok_is_holder {f : Addr} {fd : FuncData} (T : Txt K mg AD) (a : At K mg "is_holder" s_is_holder ["part"] f fd) : FnOk P w K mg base CX0 8 f fd ["part"] (SpR K (R_fp PD.isHolder 2)) := by
  refine ok_fn a.fn sc_is_holder R_fp_len fun cdv A outer s H0 E hr ds d ⟨wd, fs, hl, e1, e2⟩ => ?_
  subst e1 e2
  refine ⟨_, (pss_one (ps_ret pe_bl)), fun B O σ H Q st q => ?_⟩
  match fs, hl with
  | [x], _ =>
  exact s_ret st ev_bl fun v B2 H2 x2 w2 d2 => q v B2 H2 x2 w2 d2
theorem ok_is_pad {f : Addr} {fd : FuncData} (T : Txt K mg AD) (C_is_from : CalFrom P w K mg base) (C_is_one_of : CalOne P w K mg base) (a : At K mg "is_pad" s_is_pad ["part"] f fd) : FnOk P w K mg base CX0 8 f fd ["part"] (SpR K (R_fp PD.isPad 3)) := by
  refine ok_fn a.fn sc_is_pad R_fp_len fun cdv A outer s H0 E hr ds d ⟨wd, fs, hl, e1, e2⟩ => ?_
  subst e1 e2
  refine ⟨_, (pss_cons (ps_asg (pv 0) (pg_tupK K (n := 3) (by rfl) (pgs_cons (pg_name (i := 1) sc_is_pad.nd rfl (Or.inl rfl)) (pgs_cons (pg_name (i := 2) sc_is_pad.nd rfl (Or.inl rfl)) (pgs_cons (pg_name (i := 3) sc_is_pad.nd rfl (Or.inl rfl)) pgs_nil)))))
    (pss_one (ps_ret (pe_and (pe_cal C_is_from.cal hr (by omega) (by rfl) (pa_cons (pv 2) (pa_cons pe_int (pa_cons pe_int pa_nil)))) (pe_one (pe_cal C_is_one_of hr (by omega) (by rfl) (pa_cons (pv 3) (pa_cons (pe_glob (v := .ref AD.man) (by rfl) T.g_MANNERS rfl) pa_nil)))))))), fun B O σ H Q st q => ?_⟩
  match fs, hl with
  | [n, m], _ =>
  refine q_unpack (js := [1, 2, 3]) (ds := [.str wd, n, m]) st (ev_var rfl) rfl fun σ1 B1 H1 x1 st => ?_
  exact s_ret st (ev_andV (ev_from (ev_var rfl) ev_int ev_int) fun _ => ev_one (ev_var rfl) (ev_words T.t_MANNERS)) fun v B2 H2 x2 w2 d2 => q v B2 H2 (x1.trans x2) w2 d2
theorem ok_is_counted {f : Addr} {fd : FuncData} (T : Txt K mg AD) (C_is_from_or_none : CalOrn P w K mg base) (C_is_one_of : CalOne P w K mg base) (a : At K mg "is_counted" s_is_counted ["part"] f fd) : FnOk P w K mg base CX0 8 f fd ["part"] (SpR K (R_fp PD.isCounted 5)) := by
  refine ok_fn a.fn sc_is_counted R_fp_len fun cdv A outer s H0 E hr ds d ⟨wd, fs, hl, e1, e2⟩ => ?_
  subst e1 e2
  refine ⟨_, (pss_cons (ps_asg (pv 0) (pg_tupK K (n := 5) (by rfl) (pgs_cons (pg_name (i := 1) sc_is_counted.nd rfl (Or.inl rfl)) (pgs_cons (pg_name (i := 2) sc_is_counted.nd rfl (Or.inl rfl)) (pgs_cons (pg_name (i := 3) sc_is_counted.nd rfl (Or.inl rfl)) (pgs_cons (pg_name (i := 4) sc_is_counted.nd rfl (Or.inl rfl)) (pgs_cons (pg_name (i := 5) sc_is_counted.nd rfl (Or.inl rfl)) pgs_nil)))))))
    (pss_one (ps_ret (pe_and (pe_cal C_is_one_of hr (by omega) (by rfl) (pa_cons (pv 2) (pa_cons (pe_glob (v := .ref AD.man) (by rfl) T.g_MANNERS rfl) pa_nil))) (pe_and (pe_cal C_is_from_or_none.cal hr (by omega) (by rfl) (pa_cons (pv 3) (pa_cons pe_int (pa_cons pe_int pa_nil)))) (pe_one (pe_cal C_is_from_or_none.cal hr (by omega) (by rfl) (pa_cons (pv 4) (pa_cons pe_int (pa_cons pe_int pa_nil)))))))))), fun B O σ H Q st q => ?_⟩
  match fs, hl with
  | [m, mo, ah, x], _ =>
  refine q_unpack (js := [1, 2, 3, 4, 5]) (ds := [.str wd, m, mo, ah, x]) st (ev_var rfl) rfl fun σ1 B1 H1 x1 st => ?_
  exact s_ret st (ev_andV (ev_one (ev_var rfl) (ev_words T.t_MANNERS)) fun _ => ev_andV (ev_orn (ev_var rfl) ev_int ev_int) fun _ => ev_orn (ev_var rfl) ev_int ev_int) fun v B2 H2 x2 w2 d2 => q v B2 H2 (x1.trans x2) w2 d2
theorem ok_is_within {f : Addr} {fd : FuncData} (T : Txt K mg AD) (C_is_from_or_none : CalOrn P w K mg base) (C_is_one_of : CalOne P w K mg base) (a : At K mg "is_within" s_is_within ["part"] f fd) : FnOk P w K mg base CX0 8 f fd ["part"] (SpR K (R_fp PD.isWithin 6)) := by
  refine ok_fn a.fn sc_is_within R_fp_len fun cdv A outer s H0 E hr ds d ⟨wd, fs, hl, e1, e2⟩ => ?_
  subst e1 e2
  refine ⟨_, (pss_cons (ps_asg (pv 0) (pg_tupK K (n := 6) (by rfl) (pgs_cons (pg_name (i := 1) sc_is_within.nd rfl (Or.inl rfl)) (pgs_cons (pg_name (i := 2) sc_is_within.nd rfl (Or.inl rfl)) (pgs_cons (pg_name (i := 3) sc_is_within.nd rfl (Or.inl rfl)) (pgs_cons (pg_name (i := 4) sc_is_within.nd rfl (Or.inl rfl)) (pgs_cons (pg_name (i := 5) sc_is_within.nd rfl (Or.inl rfl)) (pgs_cons (pg_name (i := 6) sc_is_within.nd rfl (Or.inl rfl)) pgs_nil))))))))
    (pss_one (ps_ret (pe_and (pe_cal C_is_one_of hr (by omega) (by rfl) (pa_cons (pv 2) (pa_cons (pe_glob (v := .ref AD.man) (by rfl) T.g_MANNERS rfl) pa_nil))) (pe_and (pe_cal C_is_from_or_none.cal hr (by omega) (by rfl) (pa_cons (pv 3) (pa_cons pe_int (pa_cons pe_int pa_nil)))) (pe_and (pe_cal C_is_one_of hr (by omega) (by rfl) (pa_cons (pv 4) (pa_cons (pe_glob (v := .ref AD.lim) (by rfl) T.g_LIMITS rfl) pa_nil))) (pe_one (pe_cal C_is_one_of hr (by omega) (by rfl) (pa_cons (pv 5) (pa_cons (pe_glob (v := .ref AD.rests) (by rfl) T.g_RESTS rfl) pa_nil)))))))))), fun B O σ H Q st q => ?_⟩
  match fs, hl with
  | [m, mo, l, r, x], _ =>
  refine q_unpack (js := [1, 2, 3, 4, 5, 6]) (ds := [.str wd, m, mo, l, r, x]) st (ev_var rfl) rfl fun σ1 B1 H1 x1 st => ?_
  exact s_ret st (ev_andV (ev_one (ev_var rfl) (ev_words T.t_MANNERS)) fun _ => ev_andV (ev_orn (ev_var rfl) ev_int ev_int) fun _ => ev_andV (ev_one (ev_var rfl) (ev_words T.t_LIMITS)) fun _ => ev_one (ev_var rfl) (ev_words T.t_RESTS)) fun v B2 H2 x2 w2 d2 => q v B2 H2 (x1.trans x2) w2 d2
theorem ok_is_choice {f : Addr} {fd : FuncData} (T : Txt K mg AD) (C_is_from : CalFrom P w K mg base) (C_is_one_of : CalOne P w K mg base) (a : At K mg "is_choice" s_is_choice ["part"] f fd) : FnOk P w K mg base CX0 8 f fd ["part"] (SpR K (R_fp PD.isChoice 3)) := by
  refine ok_fn a.fn sc_is_choice R_fp_len fun cdv A outer s H0 E hr ds d ⟨wd, fs, hl, e1, e2⟩ => ?_
  subst e1 e2
  refine ⟨_, (pss_cons (ps_asg (pv 0) (pg_tupK K (n := 3) (by rfl) (pgs_cons (pg_name (i := 1) sc_is_choice.nd rfl (Or.inl rfl)) (pgs_cons (pg_name (i := 2) sc_is_choice.nd rfl (Or.inl rfl)) (pgs_cons (pg_name (i := 3) sc_is_choice.nd rfl (Or.inl rfl)) pgs_nil)))))
    (pss_cons (ps_if (PW.pt (pw_or (pt_not (pt_val (pe_cal C_is_one_of hr (by omega) (by rfl) (pa_cons (pv 2) (pa_cons (pe_glob (v := .ref AD.man) (by rfl) T.g_MANNERS rfl) pa_nil))))) (pw_or (pt_not (pt_val (pe_callB (call_isiK' K) (by rfl) T.b_isinstance (by decide +kernel) (pa_cons (pv 3) (pa_cons (pe_bltn (v := .ty "tuple") (by rfl) T.b_tuple (by decide +kernel) rfl) pa_nil))))) (pw_or1 (pt_not (pt_chain op_le op_le pe_int (pe_callB (call_lenK K) (by rfl) T.b_len PySem.boot_len (pa_cons (pv 3) pa_nil)) pe_int)))))) (pss_one (ps_ret pe_bl)) pss_nil)
    (pss_cons (ps_set (i := 4) sc_is_choice.nd rfl (Or.inl rfl) pe_int)
    (pss_cons (ps_for PassesOwn.never rfl (pi_tupK K (pv 3)) (pg_name (i := 5) sc_is_choice.nd rfl (Or.inl rfl)) (pss_cons (ps_if (PW.pt (pw_or (pt_not (pt_val (pe_callB (call_isiK' K) (by rfl) T.b_isinstance (by decide +kernel) (pa_cons (pv 5) (pa_cons (pe_bltn (v := .ty "tuple") (by rfl) T.b_tuple (by decide +kernel) rfl) pa_nil))))) (pw_or (pt_cmpR op_ne (pe_callB (call_lenK K) (by rfl) T.b_len PySem.boot_len (pa_cons (pv 5) pa_nil)) pe_int (nomark _)) (pw_or1 (pt_not (pt_val (pe_cal C_is_from.cal hr (by omega) (by rfl) (pa_cons (pe_ix (ix_tupK K) (pv 5) pe_int (fun _ _ => rfl)) (pa_cons (pv 4) (pa_cons pe_int pa_nil)))))))))) (pss_one (ps_ret pe_bl)) pss_nil)
    (pss_one (ps_set (i := 4) sc_is_choice.nd rfl (Or.inl rfl) (pe_op op_add (pe_ix (ix_tupK K) (pv 5) pe_int (fun _ _ => rfl)) pe_int)))))
    (pss_one (ps_ret pe_bl)))))), fun B O σ H Q st q => ?_⟩
  match fs, hl with
  | [m, x], _ =>
  refine q_unpack (js := [1, 2, 3]) (ds := [.str wd, m, x]) st (ev_var rfl) rfl fun σ1 B1 H1 x1 st => ?_
  have no : ∀ {B2 H2 σ2 G2}, PD.isChoice [m, x] = false → Ex B B2 → Sta K B2 O G2 σ2 H2 → tRet (tC (.bl false)) { nx := fun _ H' => Q .non H', rt := Q } σ2 H2 := fun {B2 H2 σ2 G2} e x2 st => by
    rw [e] at q
    exact s_ret st ev_bl fun v B3 H3 x3 w3 d3 => q v B3 H3 (x2.trans x3) w3 d3
  cases hm : PD.oneOf PD.MANNERS m with
  | false =>
    refine q_whenT st (et_is (et_or (b := true) (et_not (et_test (ev_one (ev_var rfl) (ev_words T.t_MANNERS)))) fun z => absurd z (by rw [hm]; exact fun z => Bool.noConfusion z)) (by rw [hm]; rfl)) fun B2 H2 x2 st => ?_
    exact no (by cases x <;> first | rfl | (show (PD.oneOf PD.MANNERS m && _) = false; rw [hm]; rfl)) (x1.trans x2) st
  | true =>
  cases ht : isTupD x with
  | false =>
    refine q_whenT st (et_is (et_or (et_not (et_test (ev_one (ev_var rfl) (ev_words T.t_MANNERS)))) fun _ => et_or (a := true) (b := true) (et_is (et_not (et_test (ev_isTup (ev_var rfl) ht))) rfl) fun z => Bool.noConfusion z) (by rw [hm]; rfl)) fun B2 H2 x2 st => ?_
    exact no (by cases x <;> first | rfl | cases ht) (x1.trans x2) st
  | true =>
  obtain ⟨os, rfl⟩ : ∃ ps, x = .tuple ps := by cases x <;> first | exact ⟨_, rfl⟩ | cases ht
  have hch : PD.isChoice [m, .tuple os] = (decide (1 ≤ os.length ∧ os.length ≤ 6) && PD.optsOk 0 os) := by
    show (PD.oneOf PD.MANNERS m && _) = _
    rw [hm, Bool.true_and]
  refine q_when st (b := !(decide ((1 : Int) ≤ (os.length : Int)) && decide ((os.length : Int) ≤ 6))) (et_is (et_or (a := false) (et_is (et_not (et_test (ev_one (ev_var rfl) (ev_words T.t_MANNERS)))) (by rw [hm]; rfl)) fun _ => et_or (a := false) (et_is (et_not (et_test (ev_isi (ev_var rfl) (kit_tup _)))) rfl) fun _ =>
    et_not (et_test (ev_chain ev_int (ev_cb (ea_cons (ev_var rfl) ea_nil) rc_lenT) (fun _ => ev_int) rd_B0 (fun _ => rd_B0)))) rfl) (fun h2 B2 H2 x2 st => ?_) (fun h2 B2 H2 x2 st => ?_)
  · refine no ?_ (x1.trans x2) st
    rw [hch, decide_eq_false, Bool.false_and]
    rintro ⟨a1, a2⟩
    rw [decide_eq_true (show (1 : Int) ≤ (os.length : Int) by omega), decide_eq_true (show (os.length : Int) ≤ 6 by omega)] at h2
    cases h2
  · have hn : 1 ≤ os.length ∧ os.length ≤ 6 := by
      have h3 : (decide ((1 : Int) ≤ (os.length : Int)) && decide ((os.length : Int) ≤ 6)) = true := by
        cases h4 : (decide ((1 : Int) ≤ (os.length : Int)) && decide ((os.length : Int) ≤ 6)) with
        | true => rfl
        | false => rw [h4] at h2; cases h2
      rw [Bool.and_eq_true, decide_eq_true_eq, decide_eq_true_eq] at h3
      omega
    rw [decide_eq_true hn, Bool.true_and] at hch
    refine q_asg st ev_int fun v3 B3 H3 x3 d3 st => ?_
    refine q_for st (es := os) (ei_tup (ev_var rfl)) (fun i B' O' G' => O' = O ∧ ∃ (lo : Int) (g5 : SD), PD.optsOk 0 os = PD.optsOk lo (os.drop i) ∧ G' = [.dat (.tuple [.str wd, m, .tuple os]), .dat (.str wd), .dat m, .dat (.tuple os), .dat (.int lo), g5]) (fun i B1 B2 O1 G1 e x => x) ⟨rfl, 0, _, rfl, rfl⟩ ?_ ?_
    · rintro i e B4 O4 G4 σ4 H4 v hie x4 ⟨rfl, lo, g5, ho, rfl⟩ st dv N hN
      refine eg_name B4 _ σ4 H4 v st dv _ fun σ5 st _ => ?_
      have hd : os.drop i = e :: os.drop (i + 1) := by
        rw [List.drop_eq_getElem_cons (List.getElem?_eq_some_iff.mp hie).1, (List.getElem?_eq_some_iff.mp hie).2]
      rw [hd] at ho
      have nn : ∀ {B2 H2 σ2 G2}, PD.optsOk lo (e :: os.drop (i + 1)) = false → Ex B B2 → Sta K B2 O4 G2 σ2 H2 → tRet (tC (.bl false)) { nx := N, rt := Q } σ2 H2 := fun {B2 H2 σ2 G2} ef x2 st => by
        rw [hch, ho, ef] at q
        exact s_ret st ev_bl fun v B3 H3 x3 w3 d3 => q v B3 H3 (x2.trans x3) w3 d3
      have xx := (((x1.trans x2).trans x3).trans x4)
      cases he : isTupD e with
      | false =>
        refine q_whenT st (et_or (a := true) (b := true) (et_is (et_not (et_test (ev_isTup (ev_var rfl) he))) rfl) fun z => Bool.noConfusion z) fun B5 H5 x5 st => ?_
        exact nn (by cases e <;> first | rfl | cases he) (xx.trans x5) st
      | true =>
      obtain ⟨ds, rfl⟩ : ∃ ps, e = .tuple ps := by cases e <;> first | exact ⟨_, rfl⟩ | cases he
      by_cases h2 : ds.length = 2
      · obtain ⟨n, p, rfl⟩ : ∃ n p, ds = [n, p] := by
          match ds, h2 with
          | [n, p], _ => exact ⟨n, p, rfl⟩
        refine q_when st (b := !PD.inFrom n lo (some 99)) (et_is (et_or (a := false) (et_is (et_not (et_test (ev_isi (ev_var rfl) (kit_tup _)))) rfl) fun _ => et_or (a := false) (et_test (ev_op (ev_cb (ea_cons (ev_var rfl) ea_nil) rc_lenT) ev_int rd_neInt)) fun _ => et_not (et_test (ev_from (ev_op (ev_var rfl) ev_int (rd_ixT at0)) (ev_var rfl) ev_int))) rfl) (fun h5 B5 H5 x5 st => ?_) (fun h5 B5 H5 x5 st => ?_)
        · refine nn ?_ (xx.trans x5) st
          show (PD.inFrom n lo (some 99) && _) = false
          rw [show PD.inFrom n lo (some 99) = false by simpa using h5]
          rfl
        · have h6 : PD.inFrom n lo (some 99) = true := by simpa using h5
          obtain ⟨z, rfl, _, _⟩ := PD.from_int h6
          refine s_asg st (ev_op (ev_op (ev_var rfl) ev_int (rd_ixT at0)) ev_int rd_I0) fun v6 B6 H6 x6 d6 st => ?_
          refine hN B6 _ _ _ _ (x5.trans x6) ⟨rfl, z + 1, _, ?_, rfl⟩ st
          rw [ho]
          show (PD.inFrom (.int z) lo (some 99) && _) = _
          rw [h6]
          rfl
      · refine q_whenT st (et_is (et_or (a := false) (b := true) (et_is (et_not (et_test (ev_isi (ev_var rfl) (kit_tup _)))) rfl) fun _ => et_is (et_or (a := true) (b := true) (et_is (et_test (ev_op (ev_cb (ea_cons (ev_var rfl) ea_nil) rc_lenT) ev_int rd_neInt)) (by
          have : ¬ (ds.length : Int) = 2 := by omega
          simp [this])) fun z => Bool.noConfusion z) rfl) rfl) fun B5 H5 x5 st => ?_
        refine nn ?_ (xx.trans x5) st
        match ds, h2 with
        | [], _ => rfl
        | [_], _ => rfl
        | _ :: _ :: _ :: _, _ => rfl
        | [_, _], h => exact absurd rfl h
    · rintro B4 O4 G4 σ4 H4 x4 ⟨rfl, lo, g5, ho, rfl⟩ st
      rw [List.drop_length] at ho
      rw [hch, ho] at q
      exact s_ret st ev_bl fun v B5 H5 x5 w5 d5 => q v B5 H5 ((((x1.trans x2).trans x3).trans x4).trans x5) w5 d5
end
end Toy

set_option Elab.async false
set_option linter.all false
set_option maxRecDepth 100000
set_option maxHeartbeats 4000000
namespace Toy
open PySem PySem.Spec PyProof.Rows L2 StX DL


/-- the dicts of the module that tell forms and lengths by words -/
structure Forms (P : Program) (w : World) (K : PySem.W.Frag) (mg : Str → Option Value) (base : Heap) (AD : Ads) : Prop where
  D : ∃ es n, KDict K w AD.forms es n
  yes : ∀ wd n p, PD.formAt wd = some (n, p) → (∃ f, KDct K w AD.forms wd (.ref f) ∧ Held P w K mg base 8 f (SpR K (R_fp p n))) ∧ KDct K w AD.lens wd (.int (n : Int))
  no : ∀ wd, PD.formAt wd = none → PySem.W.nsIn K AD.forms wd = some none
def R_form (ds : List PyData) (d : PyData) : Prop := ∃ x, ds = [x] ∧ d = .bool (PD.hasForm x)
def R_parts (ds es : List PyData) : Prop := ∃ d, PD.hasForm d = true ∧ ds = [d] ∧ es = PD.partsOf d
theorem form_none {wd : Str} {fs : List PyData} (h : PD.formAt wd = none) : PD.hasForm (.tuple (.str wd :: fs)) = false := by
  show (match PD.formAt wd with | some (n, p) => decide (fs.length + 1 = n) && p fs | none => false) = false
  rw [h]
theorem form_some {wd : Str} {fs : List PyData} {n : Nat} {p : List PyData → Bool} (h : PD.formAt wd = some (n, p)) : PD.hasForm (.tuple (.str wd :: fs)) = (decide (fs.length + 1 = n) && p fs) := by
  show (match PD.formAt wd with | some (n, p) => decide (fs.length + 1 = n) && p fs | none => false) = _
  rw [h]
theorem times_of {wd : Str} {fs : List PyData} (h : PD.Form (.tuple (.str wd :: fs))) (e : wd = "times") : ∃ n x, fs = [.int n, x] ∧ 0 ≤ n ∧ n ≤ 6 := by
  subst e
  cases h with
  | times n x h =>
    obtain ⟨z, rfl, h1, h2⟩ := PD.from_int h
    exact ⟨z, x, rfl, h1, of_decide_eq_true h2⟩
theorem counted_of {wd : Str} {fs : List PyData} (h : PD.Form (.tuple (.str wd :: fs))) (e : wd = "counted") : ∃ m mo ah x, fs = [m, mo, ah, x] := by
  subst e
  cases h with
  | counted m mo ah x h => exact ⟨m, mo, ah, x, rfl⟩
theorem within_of {wd : Str} {fs : List PyData} (h : PD.Form (.tuple (.str wd :: fs))) (e : wd = "within") : ∃ m mo l r x, fs = [m, mo, l, r, x] ∧ ∃ y, l = .str y := by
  subst e
  cases h with
  | within m mo l r x h =>
    refine ⟨m, mo, l, r, x, rfl, ?_⟩
    have h' : (PD.oneOf PD.MANNERS m && (PD.orNone mo 0 (some 20) && (PD.oneOf PD.LIMITS l && PD.oneOf PD.RESTS r))) = true := h
    rw [Bool.and_eq_true, Bool.and_eq_true, Bool.and_eq_true] at h'
    have hl := h'.2.2.1
    cases l with
    | str y => exact ⟨y, rfl⟩
    | _ => cases hl
theorem at_last' {xs : List PyData} {x : PyData} {y : PyData} : atI (y :: (xs ++ [x])) (-1) = some x := at_last (xs := y :: xs)
section
variable {P : Program} {w : World} {K : PySem.W.Frag} {mg : Str → Option Value} {base : Heap} {AD : Ads}

theorem ok_has_form {f : Addr} {fd : FuncData} (T : Txt K mg AD) (Fo : Forms P w K mg base AD) (a : At K mg "has_form" s_has_form ["thing"] f fd) : FnOk P w K mg base CX0 10 f fd ["thing"] (SpR K R_form) := by
  refine ok_fn a.fn sc_has_form (by rintro ds d ⟨x, rfl, _⟩; rfl) fun cdv A outer s H0 E hr ds d ⟨x, e1, e2⟩ => ?_
  subst e1 e2
  refine ⟨_, (pss_cons (ps_if (PW.pt (pw_or (pt_not (pt_val (pe_callB (call_isiK' K) (by rfl) T.b_isinstance (by decide +kernel) (pa_cons (pv 0) (pa_cons (pe_bltn (v := .ty "tuple") (by rfl) T.b_tuple (by decide +kernel) rfl) pa_nil))))) (pw_or (pt_cmpR op_eq (pe_callB (call_lenK K) (by rfl) T.b_len PySem.boot_len (pa_cons (pv 0) pa_nil)) pe_int (nomark _)) (pw_or1 (pt_not (pt_val (pe_callB (call_isiK' K) (by rfl) T.b_isinstance (by decide +kernel) (pa_cons (pe_ix (ix_tupK K) (pv 0) pe_int (fun _ _ => rfl)) (pa_cons (pe_bltn (v := .ty "str") (by rfl) T.b_str (by decide +kernel) rfl) pa_nil))))))))) (pss_one (ps_ret pe_bl)) pss_nil)
    (pss_cons (ps_set (i := 1) sc_has_form.nd rfl (Or.inl rfl) (pe_ix (ix_tupK K) (pv 0) pe_int (fun _ _ => rfl)))
    (pss_cons (ps_if (PW.pt (pw_or (pt_cmpR (op_notKD K w Fo.D) (pv 1) (pe_glob (v := .ref AD.forms) (by rfl) T.g_FORMS rfl) (by rfl)) (pw_or1 (pt_cmpR op_ne (pe_callB (call_lenK K) (by rfl) T.b_len PySem.boot_len (pa_cons (pv 0) pa_nil)) (pe_ix (ix_kdictK K w) (pe_glob (v := .ref AD.lens) (by rfl) T.g_LENGTHS rfl) (pv 1) (fun _ _ => rfl)) (nomark _))))) (pss_one (ps_ret pe_bl)) pss_nil)
    (pss_cons (ps_set (i := 2) sc_has_form.nd rfl (Or.inl rfl) (pe_ix (ix_kdictK K w) (pe_glob (v := .ref AD.forms) (by rfl) T.g_FORMS rfl) (pv 1) (fun _ _ => rfl)))
    (pss_one (ps_ret (pe_callH (i := 2) (k := 8) (Room.mono hr (by omega)) rfl (Or.inl rfl) (pa_cons (pv 0) pa_nil)))))))), fun B O σ H Q st q => ?_⟩
  have no : ∀ {B2 H2 σ2 G2}, PD.hasForm x = false → Ex B B2 → Sta K B2 O G2 σ2 H2 → tRet (tC (.bl false)) { nx := fun _ H' => Q .non H', rt := Q } σ2 H2 := fun {B2 H2 σ2 G2} e x2 st => by
    rw [e] at q
    exact s_ret st ev_bl fun v B3 H3 x3 w3 d3 => q v B3 H3 (x2.trans x3) w3 d3
  cases ht : isTupD x with
  | false =>
    refine q_whenT st (et_or (a := true) (b := true) (et_is (et_not (et_test (ev_isTup (ev_var rfl) ht))) rfl) fun z => Bool.noConfusion z) fun B1 H1 x1 st => ?_
    exact no (by cases x <;> first | rfl | cases ht) x1 st
  | true =>
  obtain ⟨ds, rfl⟩ : ∃ ps, x = .tuple ps := by cases x <;> first | exact ⟨_, rfl⟩ | cases ht
  match ds with
  | [] =>
    refine q_whenT st (et_or (a := false) (b := true) (et_is (et_not (et_test (ev_isTup (ev_var rfl) rfl))) rfl) fun _ => et_or (a := true) (b := true) (et_test (ev_op (ev_cb (ea_cons (ev_var rfl) ea_nil) rc_lenT) ev_int rd_eqInt)) fun z => Bool.noConfusion z) fun B1 H1 x1 st => ?_
    exact no rfl x1 st
  | hd :: fs =>
  have hlen : ((((hd :: fs).length : Nat) : Int) == 0) = false := by
    rw [List.length_cons]
    exact beq_eq_false_iff_ne.mpr (by omega)
  cases hs : isStrD hd with
  | false =>
    refine q_whenT st (et_or (a := false) (b := true) (et_is (et_not (et_test (ev_isTup (ev_var rfl) rfl))) rfl) fun _ => et_or (a := false) (b := true) (et_is (et_test (ev_op (ev_cb (ea_cons (ev_var rfl) ea_nil) rc_lenT) ev_int rd_eqInt)) hlen) fun _ => et_is (et_not (et_test (ev_isi (ev_op (ev_var rfl) ev_int (rd_ixT at0)) (by have := kit_str hd; rw [hs] at this; exact this)))) rfl) fun B1 H1 x1 st => ?_
    exact no (by cases hd <;> first | rfl | cases hs) x1 st
  | true =>
  obtain ⟨wd, rfl⟩ : ∃ y, hd = .str y := by cases hd <;> first | exact ⟨_, rfl⟩ | cases hs
  refine q_whenF st (et_is (et_or (a := false) (b := false) (et_is (et_not (et_test (ev_isTup (ev_var rfl) rfl))) rfl) fun _ => et_or (a := false) (b := false) (et_is (et_test (ev_op (ev_cb (ea_cons (ev_var rfl) ea_nil) rc_lenT) ev_int rd_eqInt)) hlen) fun _ => et_is (et_not (et_test (ev_isi (ev_op (ev_var rfl) ev_int (rd_ixT at0)) (kit_str _)))) rfl) rfl) fun B1 H1 x1 st => ?_
  refine q_asg st (ev_op (ev_var rfl) ev_int (rd_ixT at0)) fun v2 B2 H2 x2 d2 st => ?_
  cases hf : PD.formAt wd with
  | none =>
    refine q_whenT st (et_or (a := true) (b := true) (et_test (ev_notKDn (ev_var rfl) evV_c (Fo.no wd hf))) fun z => Bool.noConfusion z) fun B3 H3 x3 st => ?_
    exact no (form_none hf) ((x1.trans x2).trans x3) st
  | some np =>
  obtain ⟨n, p⟩ := np
  obtain ⟨⟨f1, k1, h1⟩, k2⟩ := Fo.yes wd n p hf
  have hh := form_some (fs := fs) hf
  refine q_when st (b := !((((PyData.str wd :: fs).length : Nat) : Int) == (n : Int))) (et_is (et_or (a := false) (et_test (ev_notKD (ev_var rfl) evV_c k1)) fun _ => et_test (ev_op (ev_cb (ea_cons (ev_var rfl) ea_nil) rc_lenT) (ev_ixKD evV_c (ev_var rfl) k2 fun _ => .int _) rd_neInt)) (Bool.false_or _)) (fun h3 B3 H3 x3 st => ?_) (fun h3 B3 H3 x3 st => ?_)
  · refine no ?_ ((x1.trans x2).trans x3) st
    rw [hh, decide_eq_false, Bool.false_and]
    intro e
    rw [show (((PyData.str wd :: fs).length : Nat) : Int) = (n : Int) by rw [List.length_cons]; omega, beq_self_eq_true] at h3
    cases h3
  · have hl : fs.length + 1 = n := by
      have h4 : ((((PyData.str wd :: fs).length : Nat) : Int) == (n : Int)) = true := by
        cases h5 : ((((PyData.str wd :: fs).length : Nat) : Int) == (n : Int)) with
        | true => rfl
        | false => rw [h5] at h3; cases h3
      have h6 := eq_of_beq h4
      rw [List.length_cons] at h6
      omega
    rw [hh, decide_eq_true hl, Bool.true_and] at q
    refine q_asgV st (evV_ixKD evV_c (ev_var rfl) k1) fun B4 H4 x4 st => ?_
    exact s_ret st (ev_callH rfl h1 (ea_cons (ev_var rfl) ea_nil) ⟨wd, fs, hl, rfl, rfl⟩) fun v5 B5 H5 x5 w5 d5 => q v5 B5 H5 ((((x1.trans x2).trans x3).trans x4).trans x5) w5 d5
theorem ok_parts_of {f : Addr} {fd : FuncData} (T : Txt K mg AD) (a : At K mg "parts_of" s_parts_of ["part"] f fd) : FnOk P w K mg base CX0 2 f fd ["part"] (SpL K R_parts) := by
  refine ok_fnL a.fn sc_parts_of (by rintro ds d ⟨t, _, rfl, _⟩; rfl) fun cdv A outer s H0 E hr ds d ⟨t, ht, e1, e2⟩ => ?_
  subst e1 e2
  refine ⟨_, (pss_cons (ps_if (pt_cmpR op_eq (pe_ix (ix_tupK K) (pv 0) pe_int (fun _ _ => rfl)) pe_str (nomark _)) (pss_one (ps_ret (pe_callTy (call_listK K) (by rfl) T.b_list (by decide +kernel) (pa_cons (pe_ix (ix_tupK K) (pv 0) pe_int (fun _ _ => rfl)) pa_nil)))) pss_nil)
    (pss_cons (ps_if (pt_cmpR op_eq (pe_ix (ix_tupK K) (pv 0) pe_int (fun _ _ => rfl)) pe_str (nomark _)) (pss_one (ps_ret (pe_lc (own := [("option", 1)]) (by rfl) sc_parts_of.nd (pi_tupK K (pe_ix (ix_tupK K) (pv 0) pe_int (fun _ _ => rfl))) (blkOk_by (own := [("option", 1)]) (N := N_sc_parts_of) (sc := defScope s_parts_of) (by decide +kernel)) (fun _ _ _ _ _ => (pg_name (i := 1) sc_parts_of.nd rfl (Or.inl rfl))) (fun _ _ _ _ _ => pts_nil) (fun _ _ _ _ _ => (pe_ix (ix_tupK K) (pv 1) pe_int (fun _ _ => rfl)))))) pss_nil)
    (pss_cons (ps_if (pt_cmpR (op_inK K) (pe_ix (ix_tupK K) (pv 0) pe_int (fun _ _ => rfl)) (pe_glob (v := .ref AD.hold) (by rfl) T.g_HOLDERS rfl) (by rfl)) (pss_one (ps_ret (pe_lst (pa_cons (pe_ix (ix_tupK K) (pv 0) (pe_un un_neg pe_int) (fun _ _ => rfl)) pa_nil)))) pss_nil)
    (pss_one (ps_ret (pe_lst pa_nil)))))), fun B O σ H Q st q => ?_⟩
  have ho := PD.form_of ht
  obtain ⟨wd, fs, rfl⟩ := ho.head
  refine q_when st (et_test (ev_op (ev_op (ev_var rfl) ev_int (rd_ixT at0)) ev_str rd_eqStr)) (fun h1 B1 H1 x1 st => ?_) (fun h1 B1 H1 x1 st => ?_)
  · have ew := eq_of_beq h1
    obtain ⟨ps, rfl, hl⟩ := ho.row_of h1
    subst ew
    refine s_retL st (el_listT (ev_op (ev_var rfl) ev_int (rd_ixT at1))) fun p ws B2 H2 x2 n2 w2 d2 => ?_
    rw [PD.parts_row] at q
    exact q p ws B2 H2 (x1.trans x2) n2 w2 d2
  refine q_when st (et_test (ev_op (ev_op (ev_var rfl) ev_int (rd_ixT at0)) ev_str rd_eqStr)) (fun h2 B2 H2 x2 st => ?_) (fun h2 B2 H2 x2 st => ?_)
  · have ew := eq_of_beq h2
    obtain ⟨m, os, rfl, hc⟩ := ho.choice_of h2
    subst ew
    have ops := PD.choice_opts hc
    rw [PD.parts_choice] at q
    refine s_retL st (el_map os id PD.second (fun o => [.dat (.tuple [.str "choice", m, .tuple os]), .dat o]) (by rw [List.map_id]; exact ei_tup (ev_op (ev_var rfl) ev_int (rd_ixT at2))) (by have := ops.2.2.1; omega)
      (fun o _ => eg_nameW (by decide)) (fun o h3 => ?_)) fun p ws B3 H3 x3 n3 w3 d3 => q p ws B3 H3 ((x1.trans x2).trans x3) n3 w3 d3
    obtain ⟨n, p, rfl⟩ := PD.opts_at ops.2.2.2 o h3
    exact ev_op (ev_var rfl) ev_int (rd_ixT at1)
  refine q_when st (et_test (ev_op (ev_op (ev_var rfl) ev_int (rd_ixT at0)) (ev_words T.t_HOLDERS) rd_inW)) (fun h3 B3 H3 x3 st => ?_) (fun h3 B3 H3 x3 st => ?_)
  · obtain ⟨gs, x, rfl, hp, hl⟩ := ho.one_of h3
    rw [hp] at q
    refine s_retL st (el_lst (ea_cons (ev_op (ev_var rfl) (ev_un ev_int) (rd_ixT at_last')) ea_nil) (by simp)) fun pp ws B4 H4 x4 n4 w4 d4 => q pp ws B4 H4 (((x1.trans x2).trans x3).trans x4) n4 w4 d4
  · have h1' : wd ≠ "row" := fun e => by subst e; exact absurd h1 (by decide)
    have h2' : wd ≠ "choice" := fun e => by subst e; exact absurd h2 (by decide)
    rw [PD.parts_none h3 h1' h2'] at q
    refine s_retL st (el_lst ea_nil (by simp)) fun pp ws B4 H4 x4 n4 w4 d4 => q pp ws B4 H4 (((x1.trans x2).trans x3).trans x4) n4 w4 d4
end
end Toy

set_option Elab.async false
set_option linter.all false
set_option maxRecDepth 100000
set_option maxHeartbeats 4000000
namespace Toy
open PySem PySem.Spec PyProof.Rows L2 StX DL


def R_size (h : Nat) (ds : List PyData) (d : PyData) : Prop := ∃ t, PD.okB h t = true ∧ ds = [t] ∧ d = PD.encN (PD.sizeD h t)
def R_subs (h : Nat) (ds es : List PyData) : Prop := ∃ t, PD.okB h t = true ∧ PD.npart h t ≤ 50000 ∧ ds = [t] ∧ es = (PD.subsD h t).map PD.encQ
def R_cnt (h : Nat) (ds : List PyData) (d : PyData) : Prop := ∃ t, PD.okB h t = true ∧ ds = [t] ∧ d = .int (PD.counted h t)
def R_barred (ds : List PyData) (d : PyData) : Prop := ∃ t, PD.hasForm t = true ∧ ds = [t] ∧ d = .bool (PD.barred t)
def R_suits (h : Nat) (ds : List PyData) (d : PyData) : Prop := ∃ t, PD.okB (h + 1) t = true ∧ PD.npart (h + 1) t ≤ 50000 ∧ ds = [t] ∧ d = .bool (PD.suits h t)
theorem in_none {ss : List (Option Int)} : inV .non ((ss.map PD.encN).map fv) = decide (none ∈ ss) := by
  induction ss with
  | nil => rfl
  | cons s ss ih =>
    show (eqV (fv (PD.encN s)) .non || inV .non ((ss.map PD.encN).map fv)) = _
    rw [ih]
    cases s with
    | none => simp [PD.encN, fv, eqV]
    | some n => simp [PD.encN, fv, eqV]
theorem flat_encN {ss : List (Option Int)} : (ss.map PD.encN).all flatD = true := by
  rw [List.all_map, List.all_eq_true]
  intro s _
  cases s <;> rfl
theorem ints_of {ss : List (Option Int)} (h : ¬ none ∈ ss) : ss.map PD.encN = (ss.map fun s => s.getD 0).map PyData.int := by
  rw [List.map_map]
  refine List.map_congr_left fun s hs => ?_
  cases s with
  | none => exact absurd hs h
  | some n => rfl
theorem head_some {ss : List (Option Int)} (h : ¬ none ∈ ss) (hl : 0 < ss.length) : ∃ n r, ss = some n :: r := by
  cases ss with
  | nil => simp at hl
  | cons s r =>
    cases s with
    | none => simp at h
    | some n => exact ⟨n, r, rfl⟩
theorem subs_path : ∀ {h : Nat} {t : PyData} {p : List Int} {c : PyData}, (p, c) ∈ PD.subsD h t → p.length ≤ h
  | 0, t, p, c, m => by
    have m' : (p, c) ∈ [(([] : List Int), t)] := m
    simp at m'
    simp [m'.1]
  | h + 1, t, p, c, m => by
    have m' : (p, c) ∈ PD.subsTo (PD.subsD h) t (PD.partsOf t).length := m
    unfold PD.subsTo at m'
    rw [List.mem_cons, List.mem_flatMap] at m'
    rcases m' with m' | ⟨i, _, m'⟩
    · cases m'
      simp
    · unfold PD.subsAt at m'
      cases hk : (PD.partsOf t)[i]? with
      | none => rw [hk] at m'; cases m'
      | some k =>
        rw [hk] at m'
        obtain ⟨q, hq, e⟩ := List.mem_map.mp m'
        cases e
        have := subs_path hq
        simp
        omega
theorem subs_ok : ∀ {h : Nat} {t : PyData} {p : List Int} {c : PyData}, PD.okB h t = true → (p, c) ∈ PD.subsD h t → PD.hasForm c = true
  | 0, t, p, c, o, m => by cases o
  | h + 1, t, p, c, o, m => by
    have m' : (p, c) ∈ PD.subsTo (PD.subsD h) t (PD.partsOf t).length := m
    unfold PD.subsTo at m'
    rw [List.mem_cons, List.mem_flatMap] at m'
    rcases m' with m' | ⟨i, _, m'⟩
    · cases m'
      exact (PD.ok_succ o).1
    · unfold PD.subsAt at m'
      cases hk : (PD.partsOf t)[i]? with
      | none => rw [hk] at m'; cases m'
      | some k =>
        rw [hk] at m'
        obtain ⟨q, hq, e⟩ := List.mem_map.mp m'
        cases e
        exact subs_ok ((PD.ok_succ o).2 k (List.mem_of_getElem? hk)) hq
theorem choice_kids {wd : Str} {fs : List PyData} (h : PD.Form (.tuple (.str wd :: fs))) (e : wd = "choice") : 0 < (PD.partsOf (.tuple (.str wd :: fs))).length := by
  obtain ⟨m, os, rfl, hc⟩ := h.choice_of (by rw [e]; decide)
  subst e
  rw [PD.parts_choice, List.length_map]
  have := (PD.choice_opts hc).2.1
  omega
theorem times_kids {n x : PyData} : PD.partsOf (.tuple [.str "times", n, x]) = [x] := PD.parts_one (fs := [n, x]) (by decide)
section
variable {P : Program} {w : World} {K : PySem.W.Frag} {mg : Str → Option Value} {base : Heap} {AD : Ads}

theorem ok_size_of {f fp : Addr} {fd fdp : FuncData} (T : Txt K mg AD) (a : At K mg "size_of" s_size_of ["part"] f fd) (ap : At K mg "parts_of" s_parts_of ["part"] fp fdp) : ∀ h, FnOk P w K mg base CX0 (h + 3) f fd ["part"] (SpR K (R_size h))
  | 0 => SpR_false fun ds d ⟨t, o, _⟩ => Bool.noConfusion o
  | h + 1 => by
    have C_parts_of := ap.cal (ok_parts_of (P := P) (w := w) (base := base) T ap)
    have C_size_of := a.cal (ok_size_of T a ap h)
    refine ok_fn a.fn sc_size_of (by rintro ds d ⟨t, _, rfl, _⟩; rfl) fun cdv A outer s H0 E hr ds d ⟨t, ho, e1, e2⟩ => ?_
    subst e1
    refine ⟨_, (pss_cons (ps_set (i := 1) sc_size_of.nd rfl (Or.inl rfl) (pe_ix (ix_tupK K) (pv 0) pe_int (fun _ _ => rfl)))
    (pss_cons (ps_if (pt_cmpR op_eq (pv 1) pe_str (nomark _)) (pss_one (ps_ret pe_int)) pss_nil)
    (pss_cons (ps_if (pt_cmpR op_eq (pv 1) pe_str (nomark _)) (pss_one (ps_ret pe_int)) pss_nil)
    (pss_cons (ps_if (pt_cmpR (op_notInK K) (pv 1) (pe_tup (pa_cons pe_str (pa_cons pe_str (pa_cons pe_str pa_nil)))) (by rfl)) (pss_one (ps_ret pe_non)) pss_nil)
    (pss_cons (ps_set (i := 2) sc_size_of.nd rfl (Or.inr rfl) (pe_lc (own := [("inner", 3)]) (by rfl) sc_size_of.nd (pi_listK K (pe_cal C_parts_of hr (by omega) (by rfl) (pa_cons (pv 0) pa_nil))) (blkOk_by (own := [("inner", 3)]) (N := N_sc_size_of) (sc := defScope s_size_of) (by decide +kernel)) (fun _ _ _ _ _ => (pg_name (i := 3) sc_size_of.nd rfl (Or.inl rfl))) (fun _ _ _ _ _ => pts_nil) (fun _ _ _ _ _ => (pe_cal C_size_of hr (by omega) (by rfl) (pa_cons (pv 3) pa_nil)))))
    (pss_cons (ps_if (pt_cmpR (op_inK K) pe_non (pv 2) (by rfl)) (pss_one (ps_ret pe_non)) pss_nil)
    (pss_cons (ps_if (pt_cmpR op_eq (pv 1) pe_str (nomark _)) (pss_one (ps_ret (pe_callB (cr_sumK K rfl) (by rfl) T.b_sum (by decide +kernel) (pa_cons (pv 2) pa_nil)))) pss_nil)
    (pss_cons (ps_if (pt_cmpR op_eq (pv 1) pe_str (nomark _)) (pss_one (ps_ret (pe_op op_mul (pe_ix (ix_tupK K) (pv 0) pe_int (fun _ _ => rfl)) (pe_ix (ix_listK K) (pv 2) pe_int (fun _ _ => rfl))))) pss_nil)
    (pss_one (ps_ret (pe_ifExp (pt_val (pe_callB (cr_allK K rfl) (by rfl) T.b_all (by decide +kernel) (pa_cons (pe_lc (own := [("size", 4)]) (by rfl) sc_size_of.nd (pi_listK K (pv 2)) (blkOk_by (own := [("size", 4)]) (N := N_sc_size_of) (sc := defScope s_size_of) (by decide +kernel)) (fun _ _ _ _ _ => (pg_name (i := 4) sc_size_of.nd rfl (Or.inl rfl))) (fun _ _ _ _ _ => pts_nil) (fun _ _ _ _ _ => (pe_cmpR op_eq (pv 4) (pe_ix (ix_listK K) (pv 2) pe_int (fun _ _ => rfl)) (nomark _)))) pa_nil))) (pe_op op_add pe_int (pe_ix (ix_listK K) (pv 2) pe_int (fun _ _ => rfl))) pe_non))))))))))), fun B O σ H Q st q => ?_⟩
    obtain ⟨hf, hkids⟩ := PD.ok_succ ho
    have fm := PD.form_of hf
    obtain ⟨wd, fs, rfl⟩ := fm.head
    have es : PD.sizeD (h + 1) (.tuple (.str wd :: fs)) = PD.sizeK (.tuple (.str wd :: fs)) ((PD.partsOf (.tuple (.str wd :: fs))).map (PD.sizeD h)) := rfl
    have hw : PD.wordOf (.tuple (.str wd :: fs)) = wd := rfl
    refine q_asg st (ev_op (ev_var rfl) ev_int (rd_ixT at0)) fun v0 B0 H0 x0 d0 st => ?_
    refine q_when st (et_test (ev_op (ev_var rfl) ev_str rd_eqStr)) (fun h1 B1 H1 x1 st => ?_) (fun h1 B1 H1 x1 st => ?_)
    · refine s_ret st ev_int fun v B2 H2 x2 w2 d2 => ?_
      rw [e2, es, PD.sizeK, hw, if_pos (eq_of_beq h1)] at q
      exact q v B2 H2 ((x0.trans x1).trans x2) w2 d2
    refine q_when st (et_test (ev_op (ev_var rfl) ev_str rd_eqStr)) (fun h2 B2 H2 x2 st => ?_) (fun h2 B2 H2 x2 st => ?_)
    · refine s_ret st ev_int fun v B3 H3 x3 w3 d3 => ?_
      rw [e2, es, PD.sizeK, hw, if_neg (by simpa using h1), if_pos (eq_of_beq h2)] at q
      exact q v B3 H3 (((x0.trans x1).trans x2).trans x3) w3 d3
    rw [es, PD.sizeK, hw, if_neg (by simpa using h1), if_neg (by simpa using h2)] at e2
    refine q_when st (et_test (ev_op (ev_var rfl) (ev_tup (ea_cons ev_str (ea_cons ev_str (ea_cons ev_str ea_nil))) (by decide)) (rd_inT rfl rfl rfl))) (fun h3 B3 H3 x3 st => ?_) (fun h3 B3 H3 x3 st => ?_)
    · have h3' : ¬ (wd = "row" ∨ wd = "choice" ∨ wd = "times") := by
        have z : (!inV (.str wd) (([("row" : Str), "choice", "times"]).map V.str)) = true := h3
        rw [in_strs] at z
        simpa using z
      rw [if_neg h3'] at e2
      subst e2
      refine s_ret st ev_non fun v B4 H4 x4 w4 d4 => ?_
      exact q v B4 H4 ((((x0.trans x1).trans x2).trans x3).trans x4) w4 d4
    have h3' : wd = "row" ∨ wd = "choice" ∨ wd = "times" := by
      have z : (!inV (.str wd) (([("row" : Str), "choice", "times"]).map V.str)) = false := h3
      rw [in_strs] at z
      simp at z
      exact Decidable.or_iff_not_imp_left.mpr fun u1 => Decidable.or_iff_not_imp_left.mpr fun u2 => z u1 u2
    rw [if_pos h3'] at e2
    have hk := fm.kids
    refine q_asg st (d := .list (((PD.partsOf (.tuple (.str wd :: fs))).map (PD.sizeD h)).map PD.encN)) ?_ fun v4 B4 H4 x4 d4 st => ?_
    · rw [List.map_map]
      exact ev_map (PD.partsOf (.tuple (.str wd :: fs))) id (PD.encN ∘ PD.sizeD h) (fun c => [.dat (.tuple (.str wd :: fs)), .dat (.str wd), .un, .dat c, .un]) (ei_list (by rw [List.map_id]; exact (el_call (ea_cons (ev_var rfl) ea_nil) ⟨_, hf, rfl, rfl⟩).d)) (by omega) (fun c _ => eg_nameW (by decide))
        (fun c hc => ev_call (ea_cons (ev_var rfl) ea_nil) ⟨c, hkids c hc, rfl, rfl⟩)
    generalize hss : (PD.partsOf (.tuple (.str wd :: fs))).map (PD.sizeD h) = ss at e2 st d4
    refine q_when st (et_test (ev_op ev_non (ev_var rfl) (rd_inL rfl flat_encN in_none))) (fun h4 B5 H5 x5 st => ?_) (fun h4 B5 H5 x5 st => ?_)
    · rw [if_pos (of_decide_eq_true h4)] at e2
      subst e2
      refine s_ret st ev_non fun v B6 H6 x6 w6 d6 => ?_
      exact q v B6 H6 ((((((x0.trans x1).trans x2).trans x3).trans x4).trans x5).trans x6) w6 d6
    have hnn := of_decide_eq_false h4
    rw [if_neg hnn] at e2
    refine q_when st (et_test (ev_op (ev_var rfl) ev_str rd_eqStr)) (fun h5 B6 H6 x6 st => ?_) (fun h5 B6 H6 x6 st => ?_)
    · rw [if_pos (eq_of_beq h5)] at e2
      subst e2
      refine s_ret st (ev_cb (ea_cons (ev_is (ev_var rfl) (congrArg PyData.list (ints_of hnn))) ea_nil) rc_sum) fun v B7 H7 x7 w7 d7 => ?_
      exact q v B7 H7 (((((((x0.trans x1).trans x2).trans x3).trans x4).trans x5).trans x6).trans x7) w7 d7
    rw [if_neg (by simpa using h5)] at e2
    refine q_when st (et_test (ev_op (ev_var rfl) ev_str rd_eqStr)) (fun h6 B7 H7 x7 st => ?_) (fun h6 B7 H7 x7 st => ?_)
    · have hw2 : wd = "times" := eq_of_beq h6
      rw [if_pos hw2] at e2
      obtain ⟨n, x, rfl, hn0, hn6⟩ := times_of fm hw2
      subst hw2
      rw [times_kids] at hss
      obtain ⟨z, r, rfl⟩ := head_some hnn (by rw [← hss]; simp)
      subst e2
      refine s_ret st (ev_op (ev_op (ev_var rfl) ev_int (rd_ixT at1)) (ev_op (ev_var rfl) ev_int (rd_ixL at0)) (rd_I (.inl ⟨by omega, by omega⟩))) fun v B8 H8 x8 w8 d8 => ?_
      exact q v B8 H8 ((((((((x0.trans x1).trans x2).trans x3).trans x4).trans x5).trans x6).trans x7).trans x8) w8 d8
    · rw [if_neg (by simpa using h6)] at e2
      have hw2 : wd = "choice" := by
        rcases h3' with e | e | e
        · exact absurd e (by simpa using h5)
        · exact e
        · exact absurd e (by simpa using h6)
      have h0 := choice_kids fm hw2
      obtain ⟨z, r, rfl⟩ := head_some hnn (by rw [← hss, List.length_map]; exact h0)
      have e2' : d = PD.encN (if ∀ s ∈ (some z :: r), s = some z then some (1 + z) else none) := e2
      have hb : ((some z :: r).map fun s => decide (s = some z)).all id = decide (∀ s ∈ (some z :: r), s = some z) := by
        rw [Bool.eq_iff_iff]
        simp
      have hlen : (some z :: r).length ≤ 12 := by rw [← hss, List.length_map]; exact hk
      refine s_ret (d := d) st (ev_if (b := decide (∀ s ∈ (some z :: r), s = some z)) (et_B ?_) (fun _ => ?_) (fun _ => ?_)) fun v B8 H8 x8 w8 d8 => ?_
      · rw [← hb]
        refine ev_cb (ea_cons ?_ ea_nil) rc_all
        rw [List.map_map]
        refine ev_map (some z :: r) PD.encN (fun s => .bool (decide (s = some z))) (fun s => [.dat (.tuple (.str wd :: fs)), .dat (.str (wd)), .dat (.list ((some z :: r).map PD.encN)), .un, .dat (PD.encN s)]) (ei_list (ev_var rfl)) (by omega) (fun s _ => eg_nameW (by decide)) (fun s hs => ?_)
        refine ev_op (ev_var rfl) (ev_op (ev_var rfl) ev_int (rd_ixL at0)) ?_
        cases s with
        | none => exact absurd hs hnn
        | some y => exact rd_eqS rfl rfl rfl (show decide (V.int y = V.int z) = decide (some y = some z) from decide_eq_decide.mpr (by simp))
      · rename_i hall
        rw [if_pos (of_decide_eq_true hall)] at e2'
        subst e2'
        exact ev_op ev_int (ev_op (ev_var rfl) ev_int (rd_ixL at0)) rd_I0
      · rename_i hall
        rw [if_neg (of_decide_eq_false hall)] at e2'
        subst e2'
        exact ev_non
      · exact q v B8 H8 ((((((((x0.trans x1).trans x2).trans x3).trans x4).trans x5).trans x6).trans x7).trans x8) w8 d8

theorem ok_subparts {f fp : Addr} {fd fdp : FuncData} (T : Txt K mg AD) (a : At K mg "subparts" s_subparts ["part"] f fd) (ap : At K mg "parts_of" s_parts_of ["part"] fp fdp) : ∀ h, h ≤ 20 → FnOk P w K mg base CX0 (h + 3) f fd ["part"] (SpL K (R_subs h))
  | 0, _ => SpL_false fun ds d ⟨t, o, _⟩ => Bool.noConfusion o
  | h + 1, hh => by
    have C_parts_of := ap.cal (ok_parts_of (P := P) (w := w) (base := base) T ap)
    have C_subparts := a.cal (ok_subparts T a ap h (by omega))
    refine ok_fnL a.fn sc_subparts (by rintro ds d ⟨t, _, _, rfl, _⟩; rfl) fun cdv A outer s H0 E hr ds es ⟨t, ho, hcnt, e1, e2⟩ => ?_
    subst e1 e2
    refine ⟨_, (pss_cons (ps_set (i := 1) sc_subparts.nd rfl (Or.inl rfl) (pe_lst (pa_cons (pe_tup (pa_cons (pe_tup pa_nil) (pa_cons (pv 0) pa_nil))) pa_nil)))
    (pss_cons (ps_for PassesOwn.never rfl (pi_enumK K (by rfl) T.b_enumerate (pa_cons (pe_cal C_parts_of hr (by omega) (by rfl) (pa_cons (pv 0) pa_nil)) pa_nil)) (pg_tupK K (n := 2) (by rfl) (pgs_cons (pg_name (i := 2) sc_subparts.nd rfl (Or.inr rfl)) (pgs_cons (pg_name (i := 3) sc_subparts.nd rfl (Or.inl rfl)) pgs_nil))) (pss_one (ps_expr (pe_bm PySem.F.plainAttrs_list PySem.F.slot_list_extend PySem.F.type_list_extend mt_extend (pv 1) (pa_cons (pe_lc (own := [("path", 4), ("one", 5)]) (by rfl) sc_subparts.nd (pi_listK K (pe_cal C_subparts hr (by omega) (by rfl) (pa_cons (pv 3) pa_nil))) (blkOk_by (own := [("path", 4), ("one", 5)]) (N := N_sc_subparts) (sc := defScope s_subparts) (by decide +kernel)) (fun _ _ _ _ _ => (pg_tupK K (n := 2) (by rfl) (pgs_cons (pg_name (i := 4) sc_subparts.nd rfl (Or.inl rfl)) (pgs_cons (pg_name (i := 5) sc_subparts.nd rfl (Or.inl rfl)) pgs_nil)))) (fun _ _ _ _ _ => pts_nil) (fun _ _ _ _ _ => (pe_tup (pa_cons (pe_tup (pa_cons (pv 2) (pa_starK K (pv 4) pa_nil))) (pa_cons (pv 5) pa_nil))))) pa_nil)))))
    (pss_one (ps_ret (pv 1))))), fun B O σ H Q st q => ?_⟩
    obtain ⟨hf, hkids⟩ := PD.ok_succ ho
    have hk := (PD.form_of hf).kids
    have hall : (PD.subsTo (PD.subsD h) t (PD.partsOf t).length).length ≤ 50000 := by rw [show PD.subsTo (PD.subsD h) t (PD.partsOf t).length = PD.subsD (h + 1) t from rfl, PD.subs_len]; exact hcnt
    have hS : ∀ c, c ∈ PD.partsOf t → (PD.subsD h c).length ≤ 50000 := fun c hc => by rw [PD.subs_len]; have := PD.npart_kid (h := h) hc; omega
    refine q_asgL st (el_lst (ea_cons (ev_tup (ea_cons (ev_tup ea_nil (by simp)) (ea_cons (ev_var rfl) ea_nil)) (by simp)) ea_nil) (by simp)) fun l vs B1 H1 x1 nl dv st => ?_
    refine q_for st (ei_enum (ea_cons (el_call (ea_cons (ev_var rfl) ea_nil) ⟨t, hf, rfl, rfl⟩).d ea_nil))
      (fun i B' O' G' => ∃ vs, O' = upd O l (.lst vs) ∧ DtAll K B' vs ((PD.subsTo (PD.subsD h) t i).map PD.encQ) ∧ ∃ g2 g3, G' = [.dat t, .val (.ref l), g2, g3, .un, .un])
      (fun i B1 B2 O1 G1 e ⟨vs, e1, e2, e3⟩ => ⟨vs, e1, dps_ex e _ _ e2, e3⟩) ⟨vs, rfl, dv, _, _, rfl⟩ ?_ ?_
    · rintro i e B2 O2 G2 σ2 H2 v hie x2 ⟨vs2, rfl, dv2, g2, g3, rfl⟩ st dv N hN
      obtain ⟨c, hc, rfl⟩ := enum_inv hie
      have hcm : c ∈ PD.partsOf t := List.mem_of_getElem? hc
      have hi : i < (PD.partsOf t).length := (List.getElem?_eq_some_iff.mp hc).1
      refine eg_pair B2 _ σ2 H2 v st dv _ fun σ3 st _ => ?_
      have hl1 := PD.subsTo_le (S := PD.subsD h) (d := t) (n := i) (by omega)
      have hl3 := hS c hcm
      have hl4 := dps_len dv2
      rw [List.length_map] at hl4
      refine q_extend st rfl upd_same (by rw [List.length_map]; omega) (ev_map (PD.subsD h c) PD.encQ (fun q => PD.encQ ((i : Int) :: q.1, q.2)) (fun q => [.dat t, .val (.ref l), .dat (.int i), .dat c, .dat (PD.encP q.1), .dat q.2])
        (ei_list (el_call (ea_cons (ev_var rfl) ea_nil) ⟨c, hkids c hcm, by have := PD.npart_kid (h := h) hcm; omega, rfl, rfl⟩).d) (by omega) (fun q _ => eg_pairW (by decide) (by decide)) (fun q hq => ?_)) fun ws B3 H3 x3 dw st => ?_
      · exact ev_tup (ea_cons (ev_is (ev_tup (ea_cons (ev_var rfl) (ea_star (es := q.1.map .int) (ev_var rfl) ea_nil)) (by
          have := subs_path (p := q.1) (c := q.2) hq
          simp
          omega)) (by rw [List.append_nil]; rfl)) (ea_cons (ev_var rfl) ea_nil)) (by simp)
      · rw [upd_upd] at st
        refine hN B3 _ _ _ _ x3 ⟨_, rfl, ?_, _, _, rfl⟩ st
        rw [PD.subsTo_succ hc, List.map_append]
        refine dps_app (dps_ex x3 _ _ dv2) ?_
        rw [List.map_map]
        exact dw
    · rintro B2 O2 G2 σ2 H2 x2 ⟨vs2, rfl, dv2, g2, g3, rfl⟩ st
      rw [enumD_len] at dv2
      exact s_retOL st rfl rfl fun w2 => q l vs2 B2 H2 (x1.trans x2) nl w2 dv2
theorem ok_counted_parts {f fp : Addr} {fd fdp : FuncData} (T : Txt K mg AD) (a : At K mg "counted_parts" s_counted_parts ["part"] f fd) (ap : At K mg "parts_of" s_parts_of ["part"] fp fdp) : ∀ h, FnOk P w K mg base CX0 (h + 3) f fd ["part"] (SpR K (R_cnt h))
  | 0 => SpR_false fun ds d ⟨t, o, _⟩ => Bool.noConfusion o
  | h + 1 => by
    have C_parts_of := ap.cal (ok_parts_of (P := P) (w := w) (base := base) T ap)
    have C_counted_parts := a.cal (ok_counted_parts T a ap h)
    refine ok_fn a.fn sc_counted_parts (by rintro ds d ⟨t, _, rfl, _⟩; rfl) fun cdv A outer s H0 E hr ds d ⟨t, ho, e1, e2⟩ => ?_
    subst e1
    refine ⟨_, (pss_cons (ps_set (i := 1) sc_counted_parts.nd rfl (Or.inl rfl) (pe_callB (cr_sumK K rfl) (by rfl) T.b_sum (by decide +kernel) (pa_cons (pe_lc (own := [("one", 2)]) (by rfl) sc_counted_parts.nd (pi_listK K (pe_cal C_parts_of hr (by omega) (by rfl) (pa_cons (pv 0) pa_nil))) (blkOk_by (own := [("one", 2)]) (N := N_sc_counted_parts) (sc := defScope s_counted_parts) (by decide +kernel)) (fun _ _ _ _ _ => (pg_name (i := 2) sc_counted_parts.nd rfl (Or.inl rfl))) (fun _ _ _ _ _ => pts_nil) (fun _ _ _ _ _ => (pe_cal C_counted_parts hr (by omega) (by rfl) (pa_cons (pv 2) pa_nil)))) pa_nil)))
    (pss_cons (ps_if (pt_cmpR op_eq (pe_ix (ix_tupK K) (pv 0) pe_int (fun _ _ => rfl)) pe_str (nomark _)) (pss_one (ps_ret (pe_op op_add pe_int (pe_op op_mul (pe_ix (ix_tupK K) (pv 0) pe_int (fun _ _ => rfl)) (pv 1))))) pss_nil)
    (pss_one (ps_ret (pe_op op_add pe_int (pv 1)))))), fun B O σ H Q st q => ?_⟩
    obtain ⟨hf, hkids⟩ := PD.ok_succ ho
    have fm := PD.form_of hf
    obtain ⟨wd, fs, rfl⟩ := fm.head
    have hk := fm.kids
    have es : PD.counted (h + 1) (.tuple (.str wd :: fs)) = if wd = "times" then 1 + PD.numOf (.tuple (.str wd :: fs)) * ((PD.partsOf (.tuple (.str wd :: fs))).map (PD.counted h)).sum else 1 + ((PD.partsOf (.tuple (.str wd :: fs))).map (PD.counted h)).sum := rfl
    rw [es] at e2
    refine q_asg st (d := .int ((PD.partsOf (.tuple (.str wd :: fs))).map (PD.counted h)).sum) ?_ fun v1 B1 H1 x1 d1 st => ?_
    · refine ev_cb (ea_cons (ev_is (ev_map (PD.partsOf (.tuple (.str wd :: fs))) id (fun c => .int (PD.counted h c)) (fun c => [.dat (.tuple (.str wd :: fs)), .un, .dat c]) (ei_list (by rw [List.map_id]; exact (el_call (ea_cons (ev_var rfl) ea_nil) ⟨_, hf, rfl, rfl⟩).d)) (by omega) (fun c _ => eg_nameW (by decide))
        (fun c hc => ev_call (ea_cons (ev_var rfl) ea_nil) ⟨c, hkids c hc, rfl, rfl⟩)) ?_) ea_nil) rc_sum
      rw [List.map_map]
      rfl
    refine q_when st (et_test (ev_op (ev_op (ev_var rfl) ev_int (rd_ixT at0)) ev_str rd_eqStr)) (fun h2 B2 H2 x2 st => ?_) (fun h2 B2 H2 x2 st => ?_)
    · have hw2 : wd = "times" := eq_of_beq h2
      rw [if_pos hw2] at e2
      obtain ⟨n, x, rfl, hn0, hn6⟩ := times_of fm hw2
      subst e2
      refine s_ret st (ev_op ev_int (ev_op (ev_op (ev_var rfl) ev_int (rd_ixT at1)) (ev_var rfl) (rd_I (.inl ⟨by omega, by omega⟩))) rd_I0) fun v B8 H8 x8 w8 d8 => ?_
      exact q v B8 H8 ((x1.trans x2).trans x8) w8 d8
    · rw [if_neg (by simpa using h2)] at e2
      subst e2
      refine s_ret st (ev_op ev_int (ev_var rfl) rd_I0) fun v B8 H8 x8 w8 d8 => ?_
      exact q v B8 H8 ((x1.trans x2).trans x8) w8 d8
end
end Toy

set_option Elab.async false
set_option linter.all false
set_option maxRecDepth 100000
set_option maxHeartbeats 4000000
namespace Toy
open PySem PySem.Spec PyProof.Rows L2 StX DL


def R_fw (h : Nat) (ds : List PyData) (d : PyData) : Prop := ∃ t p, p.length + h = 8 ∧ PD.npart h t ≤ 50000 ∧ ds = [t, PD.encP p] ∧ d = (match PD.fwrong h p t with | some p => PD.encP p | none => .none)
def encW : Option (List Int) → PyData
  | some p => PD.encP p
  | none => .none
theorem first_cons {W : Nat → PyData → Option (List Int)} {i : Nat} {x : PyData} {xs : List PyData} : PD.firstOf W i (x :: xs) = match W i x with
  | some p => some p
  | none => PD.firstOf W (i + 1) xs := rfl
theorem not_none {K : PySem.W.Frag} {B O : Hp} {G : List SD} {d : PyData} {ta tb : TE} {b : Bool} (h : EvD K B O G ta d) (hb : EvD K B O G tb .none) (e : (!PD.isNoneD d) = b) : EvD K B O G (tOp (fun x y H Q => y = .non ∧ Q (.bl (!decide (x = .non))) H) ta tb) (.bool b) :=
  ev_op h hb fun B1 O1 H v w hw hv hx Q q => ⟨dp_none hx, by
    have : (!decide (v = V.non)) = b := by
      rw [← e]
      cases hv <;> simp [PD.isNoneD]
    rw [this]
    exact q _ B1 H (Ex.refl _) hw (.bl b)⟩
section
variable {P : Program} {w : World} {K : PySem.W.Frag} {mg : Str → Option Value} {base : Heap} {AD : Ads}

theorem ok_is_barred_from_told {f : Addr} {fd : FuncData} (T : Txt K mg AD) (a : At K mg "is_barred_from_told" s_is_barred_from_told ["part"] f fd) : FnOk P w K mg base CX0 2 f fd ["part"] (SpR K R_barred) := by
  refine ok_fn a.fn sc_is_barred_from_told (by rintro ds d ⟨t, _, rfl, _⟩; rfl) fun cdv A outer s H0 E hr ds d ⟨t, hf, e1, e2⟩ => ?_
  subst e1 e2
  refine ⟨_, (pss_one (ps_ret (pe_or (pe_cmpR (op_inK K) (pe_ix (ix_tupK K) (pv 0) pe_int (fun _ _ => rfl)) (pe_tup (pa_cons pe_str (pa_cons pe_str pa_nil))) (by rfl)) (pe_one (pe_and (pe_cmpR op_eq (pe_ix (ix_tupK K) (pv 0) pe_int (fun _ _ => rfl)) pe_str (nomark _)) (pe_one (pe_cmpR op_notN (pe_ix (ix_tupK K) (pv 0) pe_int (fun _ _ => rfl)) pe_non (nomark _)))))))), fun B O σ H Q st q => ?_⟩
  have fm := PD.form_of hf
  obtain ⟨wd, fs, rfl⟩ := fm.head
  have eb : PD.barred (.tuple (.str wd :: fs)) = (inV (.str wd) (([("within" : Str), "need"]).map V.str) || ((wd == "counted") && !PD.isNoneD (PD.field (.tuple (.str wd :: fs)) 3))) := by
    rw [in_strs]
    show ((wd == "within") || (wd == "need") || _) = ((wd == "within") || ((wd == "need") || false) || _)
    rw [Bool.or_false]
    rfl
  rw [eb] at q
  refine s_ret st (ev_orV (ev_op (ev_op (ev_var rfl) ev_int (rd_ixT at0)) (ev_tup (ea_cons ev_str (ea_cons ev_str ea_nil)) (by decide)) (rd_inT rfl rfl rfl)) fun _ => ev_andV (ev_op (ev_op (ev_var rfl) ev_int (rd_ixT at0)) ev_str rd_eqStr) fun h2 => ?_) fun v B1 H1 x1 w1 d1 => q v B1 H1 x1 w1 d1
  obtain ⟨m, mo, ah, x, rfl⟩ := counted_of fm (eq_of_beq h2)
  exact not_none (ev_op (ev_var rfl) ev_int (rd_ixT (d := ah) (by rfl))) ev_non rfl
theorem ok_suits_its_part {h : Nat} (hh : h ≤ 20) {f fp fs fu fb : Addr} {fd fdp fds fdu fdb : FuncData} (T : Txt K mg AD) (a : At K mg "suits_its_part" s_suits_its_part ["part"] f fd) (ap : At K mg "parts_of" s_parts_of ["part"] fp fdp) (as_ : At K mg "size_of" s_size_of ["part"] fs fds) (au : At K mg "subparts" s_subparts ["part"] fu fdu)
    (ab : At K mg "is_barred_from_told" s_is_barred_from_told ["part"] fb fdb) : FnOk P w K mg base CX0 (h + 5) f fd ["part"] (SpR K (R_suits h)) := by
  have C_size_of := as_.cal (ok_size_of (P := P) (w := w) (base := base) T as_ ap h)
  have C_subparts := au.cal (ok_subparts (P := P) (w := w) (base := base) T au ap h hh)
  have C_is_barred_from_told := ab.cal (ok_is_barred_from_told (P := P) (w := w) (base := base) T ab)
  refine ok_fn a.fn sc_suits_its_part (by rintro ds d ⟨t, _, _, rfl, _⟩; rfl) fun cdv A outer s H0 E hr ds d ⟨t, ho, hn, e1, e2⟩ => ?_
  subst e1 e2
  refine ⟨_, (pss_cons (ps_if (PW.pt (pw_and (pt_cmpR op_eq (pe_ix (ix_tupK K) (pv 0) pe_int (fun _ _ => rfl)) pe_str (nomark _)) (pw_and1 (pt_cmpR op_notN (pe_ix (ix_tupK K) (pv 0) pe_int (fun _ _ => rfl)) pe_non (nomark _))))) (pss_one (ps_ret (pe_cmpR op_notN (pe_cal C_size_of hr (by omega) (by rfl) (pa_cons (pe_ix (ix_tupK K) (pv 0) pe_int (fun _ _ => rfl)) pa_nil)) pe_non (nomark _)))) pss_nil)
    (pss_cons (ps_if (PW.pt (pw_and (pt_cmpR op_eq (pe_ix (ix_tupK K) (pv 0) pe_int (fun _ _ => rfl)) pe_str (nomark _)) (pw_and1 (pt_cmpR op_eq (pe_ix (ix_tupK K) (pv 0) pe_int (fun _ _ => rfl)) pe_str (nomark _))))) (pss_one (ps_ret (pe_not (pe_callB (cr_anyK K rfl) (by rfl) T.b_any (by decide +kernel) (pa_cons (pe_lc (own := [("path", 1), ("inner", 2)]) (by rfl) sc_suits_its_part.nd (pi_listK K (pe_cal C_subparts hr (by omega) (by rfl) (pa_cons (pe_ix (ix_tupK K) (pv 0) pe_int (fun _ _ => rfl)) pa_nil))) (blkOk_by (own := [("path", 1), ("inner", 2)]) (N := N_sc_suits_its_part) (sc := defScope s_suits_its_part) (by decide +kernel)) (fun _ _ _ _ _ => (pg_tupK K (n := 2) (by rfl) (pgs_cons (pg_name (i := 1) sc_suits_its_part.nd rfl (Or.inl rfl)) (pgs_cons (pg_name (i := 2) sc_suits_its_part.nd rfl (Or.inl rfl)) pgs_nil)))) (fun _ _ _ _ _ => pts_nil) (fun _ _ _ _ _ => (pe_cal C_is_barred_from_told hr (by omega) (by rfl) (pa_cons (pv 2) pa_nil)))) pa_nil))))) pss_nil)
    (pss_one (ps_ret pe_bl)))), fun B O σ H Q st q => ?_⟩
  obtain ⟨hf, hkids⟩ := PD.ok_succ ho
  have fm := PD.form_of hf
  obtain ⟨wd, fs, rfl⟩ := fm.head
  have hs : PD.suits h (.tuple (.str wd :: fs)) = if wd = "counted" ∧ PD.isNoneD (PD.field (.tuple (.str wd :: fs)) 3) = false then (PD.sizeD h (PD.field (.tuple (.str wd :: fs)) 4)).isSome
      else if wd = "within" ∧ PD.isWord "told" (PD.field (.tuple (.str wd :: fs)) 3) = true then !((PD.subsD h (PD.field (.tuple (.str wd :: fs)) 5)).any fun q => PD.barred q.2) else true := rfl
  rw [hs] at q
  by_cases h1 : wd = "counted"
  · obtain ⟨m, mo, ah, x, rfl⟩ := counted_of fm h1
    subst h1
    have hx : x ∈ PD.partsOf (.tuple [.str "counted", m, mo, ah, x]) := by
      rw [PD.parts_one (fs := [m, mo, ah, x]) (by decide)]
      exact List.mem_singleton.mpr rfl
    refine q_when st (b := !PD.isNoneD ah) (et_is (et_and (a := true) (et_test (ev_op (ev_op (ev_var rfl) ev_int (rd_ixT at0)) ev_str rd_eqStr)) fun _ => et_test (not_none (ev_op (ev_var rfl) ev_int (rd_ixT (d := ah) (by rfl))) ev_non rfl)) (Bool.true_and _)) (fun h2 B1 H1 x1 st => ?_) (fun h2 B1 H1 x1 st => ?_)
    · have h3 : PD.isNoneD ah = false := by simpa using h2
      rw [if_pos ⟨rfl, h3⟩] at q
      refine s_ret st (not_none (b := (PD.sizeD h x).isSome) (ev_call (ea_cons (ev_op (ev_var rfl) ev_int (rd_ixT (d := x) (by rfl))) ea_nil) ⟨x, hkids x hx, rfl, rfl⟩) ev_non (by cases PD.sizeD h x <;> rfl)) fun v B2 H2 x2 w2 d2 => q v B2 H2 (x1.trans x2) w2 d2
    · have h3 : PD.isNoneD ah = true := by simpa using h2
      rw [if_neg (by rintro ⟨_, z⟩; have z' : PD.isNoneD ah = false := z; rw [h3] at z'; cases z'), if_neg (by rintro ⟨z, _⟩; exact absurd z (by decide))] at q
      refine q_whenF st (et_and (a := false) (b := false) (et_test (ev_op (ev_op (ev_var rfl) ev_int (rd_ixT at0)) ev_str rd_eqStr)) fun z => Bool.noConfusion z) fun B2 H2 x2 st => ?_
      exact s_ret st ev_bl fun v B3 H3 x3 w3 d3 => q v B3 H3 ((x1.trans x2).trans x3) w3 d3
  · have hb : (wd == "counted") = false := by simpa using h1
    rw [if_neg fun z => h1 z.1] at q
    refine q_whenF st (et_is (et_and (a := wd == "counted") (b := false) (et_test (ev_op (ev_op (ev_var rfl) ev_int (rd_ixT at0)) ev_str rd_eqStr)) fun z => by rw [hb] at z; cases z) (by rw [hb]; rfl)) fun B1 H1 x1 st => ?_
    by_cases h2 : wd = "within"
    · obtain ⟨m, mo, l, r, x, rfl, y, rfl⟩ := within_of fm h2
      subst h2
      have hx : x ∈ PD.partsOf (.tuple [.str "within", m, mo, .str y, r, x]) := by
        rw [PD.parts_one (fs := [m, mo, .str y, r, x]) (by decide)]
        exact List.mem_singleton.mpr rfl
      refine q_when st (b := y == "told") (et_is (et_and (a := true) (et_test (ev_op (ev_op (ev_var rfl) ev_int (rd_ixT at0)) ev_str rd_eqStr)) fun _ => et_test (ev_op (ev_op (ev_var rfl) ev_int (rd_ixT (d := .str y) (by rfl))) ev_str rd_eqStr)) (Bool.true_and _)) (fun h2 B2 H2 x2 st => ?_) (fun h2 B2 H2 x2 st => ?_)
      · rw [if_pos ⟨rfl, h2⟩] at q
        have hnx := PD.npart_kid (h := h) hx
        have hox := hkids x hx
        have hlx := PD.subs_len (h := h) (d := x)
        refine s_ret st (ev_notV (ev_cb (ea_cons (ev_is (ev_map (PD.subsD h x) PD.encQ (fun q => .bool (PD.barred q.2)) (fun q => [.dat (.tuple [.str "within", m, mo, .str y, r, x]), .dat (PD.encP q.1), .dat q.2]) (ei_list (el_call (ea_cons (ev_op (ev_var rfl) ev_int (rd_ixT (d := x) (by rfl))) ea_nil) ⟨x, hox, by omega, rfl, rfl⟩).d) (by omega)
          (fun q _ => eg_pairW (by decide) (by decide)) (fun q hq => ev_call (ea_cons (ev_var rfl) ea_nil) ⟨q.2, subs_ok hox (p := q.1) hq, rfl, rfl⟩)) (by rw [show (PD.subsD h x).map (fun q => PyData.bool (PD.barred q.2)) = ((PD.subsD h x).map fun q => PD.barred q.2).map PyData.bool by rw [List.map_map]; rfl])) ea_nil) rc_any)) fun v B3 H3 x3 w3 d3 => ?_
        refine q v B3 H3 ((x1.trans x2).trans x3) w3 ?_
        rw [List.any_map] at d3
        exact d3
      · rw [if_neg (by rintro ⟨_, z⟩; have z' : (y == "told") = true := z; rw [h2] at z'; cases z')] at q
        exact s_ret st ev_bl fun v B3 H3 x3 w3 d3 => q v B3 H3 ((x1.trans x2).trans x3) w3 d3
    · have hb2 : (wd == "within") = false := by simpa using h2
      rw [if_neg fun z => h2 z.1] at q
      refine q_whenF st (et_is (et_and (a := wd == "within") (b := false) (et_test (ev_op (ev_op (ev_var rfl) ev_int (rd_ixT at0)) ev_str rd_eqStr)) fun z => by rw [hb2] at z; cases z) (by rw [hb2]; rfl)) fun B2 H2 x2 st => ?_
      exact s_ret st ev_bl fun v B3 H3 x3 w3 d3 => q v B3 H3 ((x1.trans x2).trans x3) w3 d3
/-- what first_wrong calls -/
structure Fws (P : Program) (w : World) (K : PySem.W.Frag) (mg : Str → Option Value) (base : Heap) : Prop where
  hf : Cal P w K mg base 10 "has_form" ["thing"] (SpR K R_form)
  po : Cal P w K mg base 2 "parts_of" ["part"] (SpL K R_parts)
  su : ∀ h, h ≤ 20 → Cal P w K mg base (h + 5) "suits_its_part" ["part"] (SpR K (R_suits h))
theorem ok_first_wrong {f : Addr} {fd : FuncData} (T : Txt K mg AD) (Fw : Fws P w K mg base) (a : At K mg "first_wrong" s_first_wrong ["part", "path"] f fd) : ∀ h, h ≤ 8 → FnOk P w K mg base CX0 (h + 12) f fd ["part", "path"] (SpR K (R_fw h))
  | 0, _ => by
    have C_has_form := Fw.hf
    have C_parts_of := Fw.po
    have C_suits_its_part := Fw.su 0 (by omega)
    have C_first_wrong : Cal P w K mg base 0 "first_wrong" ["part", "path"] (SpR K fun _ _ => False) := a.cal (SpR_false fun _ _ z => z)
    refine ok_fn a.fn sc_first_wrong (by rintro ds d ⟨t, p, _, _, rfl, _⟩; rfl) fun cdv A outer s H0 E hr ds d ⟨t, p, hp, hn, e1, e2⟩ => ?_
    subst e1 e2
    refine ⟨_, (pss_cons (ps_if (PW.pt (pw_or (pt_cmpR op_ge (pe_callB (call_lenK K) (by rfl) T.b_len PySem.boot_len (pa_cons (pv 1) pa_nil)) (pe_gi (n := 8) (by rfl) T.n_MOST_DEEP) (nomark _)) (pw_or1 (pt_not (pt_val (pe_cal C_has_form hr (by omega) (by rfl) (pa_cons (pv 0) pa_nil))))))) (pss_one (ps_ret (pv 1))) pss_nil)
    (pss_cons (ps_for PassesOwn.never rfl (pi_enumK K (by rfl) T.b_enumerate (pa_cons (pe_cal C_parts_of hr (by omega) (by rfl) (pa_cons (pv 0) pa_nil)) pa_nil)) (pg_tupK K (n := 2) (by rfl) (pgs_cons (pg_name (i := 2) sc_first_wrong.nd rfl (Or.inl rfl)) (pgs_cons (pg_name (i := 3) sc_first_wrong.nd rfl (Or.inl rfl)) pgs_nil))) (pss_cons (ps_set (i := 4) sc_first_wrong.nd rfl (Or.inl rfl) (pe_cal C_first_wrong hr (by omega) (by rfl) (pa_cons (pv 3) (pa_cons (pe_tup (pa_starK K (pv 1) (pa_cons (pv 2) pa_nil))) pa_nil))))
    (pss_one (ps_if (pt_cmpR op_notN (pv 4) pe_non (nomark _)) (pss_one (ps_ret (pv 4))) pss_nil))))
    (pss_one (ps_ret (pe_ifExp (pt_val (pe_cal C_suits_its_part hr (by omega) (by rfl) (pa_cons (pv 0) pa_nil))) pe_non (pv 1)))))), fun B O σ H Q st q => ?_⟩
    refine q_whenT st (et_is (et_or (a := true) (b := true) (et_is (et_test (ev_op (ev_cb (ea_cons (ev_var rfl) ea_nil) rc_lenT) ev_int rd_B0)) (by rw [List.length_map]; exact decide_eq_true (by omega))) fun z => Bool.noConfusion z) rfl) fun B1 H1 x1 st => ?_
    exact s_ret st (ev_var rfl) fun v B2 H2 x2 w2 d2 => q v B2 H2 (x1.trans x2) w2 d2
  | h + 1, hh => by
    have C_has_form := Fw.hf
    have C_parts_of := Fw.po
    have C_suits_its_part := Fw.su h (by omega)
    have C_first_wrong := a.cal (ok_first_wrong T Fw a h (by omega))
    refine ok_fn a.fn sc_first_wrong (by rintro ds d ⟨t, p, _, _, rfl, _⟩; rfl) fun cdv A outer s H0 E hr ds d ⟨t, p, hp, hn, e1, e2⟩ => ?_
    subst e1 e2
    refine ⟨_, (pss_cons (ps_if (PW.pt (pw_or (pt_cmpR op_ge (pe_callB (call_lenK K) (by rfl) T.b_len PySem.boot_len (pa_cons (pv 1) pa_nil)) (pe_gi (n := 8) (by rfl) T.n_MOST_DEEP) (nomark _)) (pw_or1 (pt_not (pt_val (pe_cal C_has_form hr (by omega) (by rfl) (pa_cons (pv 0) pa_nil))))))) (pss_one (ps_ret (pv 1))) pss_nil)
    (pss_cons (ps_for PassesOwn.never rfl (pi_enumK K (by rfl) T.b_enumerate (pa_cons (pe_cal C_parts_of hr (by omega) (by rfl) (pa_cons (pv 0) pa_nil)) pa_nil)) (pg_tupK K (n := 2) (by rfl) (pgs_cons (pg_name (i := 2) sc_first_wrong.nd rfl (Or.inl rfl)) (pgs_cons (pg_name (i := 3) sc_first_wrong.nd rfl (Or.inl rfl)) pgs_nil))) (pss_cons (ps_set (i := 4) sc_first_wrong.nd rfl (Or.inl rfl) (pe_cal C_first_wrong hr (by omega) (by rfl) (pa_cons (pv 3) (pa_cons (pe_tup (pa_starK K (pv 1) (pa_cons (pv 2) pa_nil))) pa_nil))))
    (pss_one (ps_if (pt_cmpR op_notN (pv 4) pe_non (nomark _)) (pss_one (ps_ret (pv 4))) pss_nil))))
    (pss_one (ps_ret (pe_ifExp (pt_val (pe_cal C_suits_its_part hr (by omega) (by rfl) (pa_cons (pv 0) pa_nil))) pe_non (pv 1)))))), fun B O σ H Q st q => ?_⟩
    have ew : PD.fwrong (h + 1) p t = if PD.hasForm t = false then some p else match PD.firstOf (fun i x => PD.fwrong h (p ++ [(i : Int)]) x) 0 (PD.partsOf t) with
      | some p => some p
      | none => if PD.suits h t then none else some p := rfl
    have hge : decide ((8 : Int) ≤ (((p.map PyData.int).length : Nat) : Int)) = false := by
      rw [List.length_map]
      exact decide_eq_false (by omega)
    refine q_when st (b := !PD.hasForm t) (et_is (et_or (a := false) (et_is (et_test (ev_op (ev_cb (ea_cons (ev_var rfl) ea_nil) rc_lenT) ev_int rd_B0)) hge) fun _ => et_not (et_test (ev_call (ea_cons (ev_var rfl) ea_nil) ⟨t, rfl, rfl⟩))) (Bool.false_or _)) (fun h1 B1 H1 x1 st => ?_) (fun h1 B1 H1 x1 st => ?_)
    · rw [ew, if_pos (by simpa using h1)] at q
      exact s_ret st (ev_var rfl) fun v B2 H2 x2 w2 d2 => q v B2 H2 (x1.trans x2) w2 d2
    have hf : PD.hasForm t = true := by simpa using h1
    rw [ew, if_neg (by rw [hf]; exact fun z => Bool.noConfusion z)] at q
    refine q_for st (es := enumD (PD.partsOf t)) (ei_enum (ea_cons (el_call (ea_cons (ev_var rfl) ea_nil) ⟨t, hf, rfl, rfl⟩).d ea_nil))
      (fun i B' O' G' => O' = O ∧ PD.firstOf (fun i x => PD.fwrong h (p ++ [(i : Int)]) x) 0 (PD.partsOf t) = PD.firstOf (fun i x => PD.fwrong h (p ++ [(i : Int)]) x) i ((PD.partsOf t).drop i) ∧ ∃ g2 g3 g4, G' = [.dat t, .dat (PD.encP p), g2, g3, g4])
      (fun i B1 B2 O1 G1 e x => x) ⟨rfl, rfl, _, _, _, rfl⟩ ?_ ?_
    · rintro i e B2 O2 G2 σ2 H2 v hie x2 ⟨rfl, hfo, g2, g3, g4, rfl⟩ st dv N hN
      obtain ⟨c, hc, rfl⟩ := enum_inv hie
      have hcm : c ∈ PD.partsOf t := List.mem_of_getElem? hc
      have hd : (PD.partsOf t).drop i = c :: (PD.partsOf t).drop (i + 1) := by
        rw [List.drop_eq_getElem_cons (List.getElem?_eq_some_iff.mp hc).1, (List.getElem?_eq_some_iff.mp hc).2]
      rw [hd] at hfo
      refine eg_pair B2 _ σ2 H2 v st dv _ fun σ3 st _ => ?_
      have hnk := PD.npart_kid (h := h) hcm
      refine q_asg st (d := encW (PD.fwrong h (p ++ [(i : Int)]) c)) (ev_call (ea_cons (ev_var rfl) (ea_cons (ev_is (ev_tup (ea_star (es := p.map .int) (ev_var rfl) (ea_cons (ev_var rfl) ea_nil)) (by simp; omega)) (show PyData.tuple (p.map .int ++ [.int (i : Int)]) = PD.encP (p ++ [(i : Int)]) by unfold PD.encP; rw [List.map_append]; rfl)) ea_nil)) ⟨c, p ++ [(i : Int)], by simp; omega, by omega, rfl, by unfold encW; rfl⟩) fun v3 B3 H3 x3 d3 st => ?_
      cases hw : PD.fwrong h (p ++ [(i : Int)]) c with
      | some pp =>
        rw [hw] at st
        refine s_if st (b := true) (et_test (not_none (d := encW (some pp)) (ev_var (i := 4) rfl) ev_non rfl)) (fun _ B4 H4 x4 st => ?_) (fun z => Bool.noConfusion z)
        refine s_ret st (ev_var rfl) fun v5 B5 H5 x5 w5 d5 => ?_
        rw [hfo, first_cons, hw] at q
        exact q v5 B5 H5 ((((x1.trans x2).trans x3).trans x4).trans x5) w5 d5
      | none =>
        rw [hw] at st
        refine s_if st (b := false) (et_test (not_none (d := encW none) (ev_var (i := 4) rfl) ev_non rfl)) (fun z => Bool.noConfusion z) fun _ B4 H4 x4 st => ?_
        refine hN B4 _ _ _ _ (x3.trans x4) ⟨rfl, ?_, _, _, _, rfl⟩ st
        rw [hfo, first_cons, hw]
    · rintro B2 O2 G2 σ2 H2 x2 ⟨rfl, hfo, g2, g3, g4, rfl⟩ st
      rw [enumD_len, List.drop_length] at hfo
      rw [hfo] at q
      have hok : PD.okB (h + 1) t = true := PD.ok_of_fwrong' hf fun c hc => by
        obtain ⟨j, hj⟩ := List.mem_iff_getElem?.mp hc
        exact PD.ok_of_fwrong (PD.firstOf_none hfo j c hj)
      have q' : ∀ v B' H', Ex B B' → W B' O2 H' → Dt K B' v (encW (if PD.suits h t then none else some p)) → Q v H' := by
        intro v B' H' e w d
        refine q v B' H' e w ?_
        unfold encW at d
        exact d
      refine s_ret st (d := encW (if PD.suits h t then none else some p)) (ev_if (b := PD.suits h t) (et_test (ev_call (ea_cons (ev_var rfl) ea_nil) ⟨t, hok, hn, rfl, rfl⟩)) (fun hs => by rw [hs]; exact ev_non) (fun hs => by rw [hs]; exact ev_var rfl)) fun v3 B3 H3 x3 w3 d3 => q' v3 B3 H3 ((x1.trans x2).trans x3) w3 d3
end
end Toy

set_option Elab.async false
set_option linter.all false
set_option maxRecDepth 100000
set_option maxHeartbeats 2000000
/-! What has the depth that it may have is told alike with more. -/
namespace PD
open PySem DL
theorem ok_up : ∀ {h : Nat} {d : PyData}, okB h d = true → okB (h + 1) d = true
  | 0, d, o => Bool.noConfusion o
  | h + 1, d, o => ok_of_fwrong' (ok_succ o).1 fun x hx => ok_up ((ok_succ o).2 x hx)
theorem ok_le {h j : Nat} {d : PyData} (l : h ≤ j) (o : okB h d = true) : okB j d = true := by
  induction l with
  | refl => exact o
  | step _ ih => exact ok_up ih
theorem npart_up : ∀ {h : Nat} {d : PyData}, okB h d = true → npart (h + 1) d = npart h d
  | 0, d, o => Bool.noConfusion o
  | h + 1, d, o => by
    show 1 + ((partsOf d).map (npart (h + 1))).sum = 1 + ((partsOf d).map (npart h)).sum
    rw [List.map_congr_left fun x hx => npart_up ((ok_succ o).2 x hx)]
theorem npart_le {h j : Nat} {d : PyData} (l : h ≤ j) (o : okB h d = true) : npart j d = npart h d := by
  induction l with
  | refl => rfl
  | step l ih => rw [npart_up (ok_le l o), ih]
theorem size_up : ∀ {h : Nat} {d : PyData}, okB h d = true → sizeD (h + 1) d = sizeD h d
  | 0, d, o => Bool.noConfusion o
  | h + 1, d, o => by
    show sizeK d ((partsOf d).map (sizeD (h + 1))) = sizeK d ((partsOf d).map (sizeD h))
    rw [List.map_congr_left fun x hx => size_up ((ok_succ o).2 x hx)]
theorem size_le {h j : Nat} {d : PyData} (l : h ≤ j) (o : okB h d = true) : sizeD j d = sizeD h d := by
  induction l with
  | refl => rfl
  | step l ih => rw [size_up (ok_le l o), ih]
theorem subs_up : ∀ {h : Nat} {d : PyData}, okB h d = true → subsD (h + 1) d = subsD h d
  | 0, d, o => Bool.noConfusion o
  | h + 1, d, o => by
    show subsTo (subsD (h + 1)) d (partsOf d).length = subsTo (subsD h) d (partsOf d).length
    unfold subsTo
    congr 1
    have key : ∀ l : List Nat, l.flatMap (subsAt (subsD (h + 1)) (partsOf d)) = l.flatMap (subsAt (subsD h) (partsOf d)) := fun l => by
      induction l with
      | nil => rfl
      | cons i l ih =>
        rw [List.flatMap_cons, List.flatMap_cons, ih]
        congr 1
        unfold subsAt
        cases hc : (partsOf d)[i]? with
        | none => rfl
        | some c =>
          show (subsD (h + 1) c).map _ = (subsD h c).map _
          rw [subs_up ((ok_succ o).2 c (List.mem_of_getElem? hc))]
    exact key _
theorem subs_le {h j : Nat} {d : PyData} (l : h ≤ j) (o : okB h d = true) : subsD j d = subsD h d := by
  induction l with
  | refl => rfl
  | step l ih => rw [subs_up (ok_le l o), ih]
theorem mem_subs {h : Nat} {d : PyData} {q : List Int × PyData} : q ∈ subsD (h + 1) d ↔ q = ([], d) ∨ ∃ (i : Nat) (c : PyData) (r : List Int × PyData), (partsOf d)[i]? = some c ∧ r ∈ subsD h c ∧ q = ((i : Int) :: r.1, r.2) := by
  show q ∈ subsTo (subsD h) d (partsOf d).length ↔ _
  unfold subsTo
  rw [List.mem_cons, List.mem_flatMap]
  constructor
  · rintro (e | ⟨i, _, m⟩)
    · exact .inl e
    · unfold subsAt at m
      cases hc : (partsOf d)[i]? with
      | none => rw [hc] at m; cases m
      | some c =>
        rw [hc] at m
        obtain ⟨r, hr, e⟩ := List.mem_map.mp m
        exact .inr ⟨i, c, r, hc, hr, e.symm⟩
  · rintro (e | ⟨i, c, r, hc, hr, e⟩)
    · exact .inl e
    · refine .inr ⟨i, List.mem_range.mpr (List.getElem?_eq_some_iff.mp hc).1, ?_⟩
      unfold subsAt
      rw [hc]
      exact List.mem_map.mpr ⟨r, hr, e.symm⟩
theorem sub_ok : ∀ {h : Nat} {t : PyData} {q : List Int × PyData}, okB h t = true → q ∈ subsD h t → okB h q.2 = true ∧ npart h q.2 ≤ npart h t
  | 0, t, q, o, _ => Bool.noConfusion o
  | h + 1, t, q, o, m => by
    rcases mem_subs.mp m with rfl | ⟨i, c, r, hc, hr, rfl⟩
    · exact ⟨o, Nat.le_refl _⟩
    · have hcm := List.mem_of_getElem? hc
      obtain ⟨o2, n2⟩ := sub_ok ((ok_succ o).2 c hcm) hr
      have n3 := npart_kid (h := h) hcm
      exact ⟨ok_up o2, by rw [npart_up o2]; omega⟩
theorem field_kid {d : PyData} (hf : hasForm d = true) : (wordOf d = "counted" → field d 4 ∈ partsOf d) ∧ (wordOf d = "within" → field d 5 ∈ partsOf d) := by
  have fm := form_of hf
  obtain ⟨wd, fs, rfl⟩ := fm.head
  constructor
  · intro e
    have e' : wd = "counted" := e
    subst e'
    cases fm with
    | counted m mo ah x h =>
      rw [parts_one (by decide)]
      exact List.mem_singleton.mpr rfl
  · intro e
    have e' : wd = "within" := e
    subst e'
    cases fm with
    | within m mo l r x h =>
      rw [parts_one (by decide)]
      exact List.mem_singleton.mpr rfl
theorem suits_le {h j : Nat} {d : PyData} (l : h ≤ j) (o : okB (h + 1) d = true) : suits j d = suits h d := by
  obtain ⟨hf, hk⟩ := ok_succ o
  obtain ⟨k1, k2⟩ := field_kid hf
  unfold suits
  by_cases c1 : wordOf d = "counted" ∧ isNoneD (field d 3) = false
  · rw [if_pos c1, if_pos c1, size_le l (hk _ (k1 c1.1))]
  · rw [if_neg c1, if_neg c1]
    by_cases c2 : wordOf d = "within" ∧ isWord "told" (field d 3) = true
    · rw [if_pos c2, if_pos c2, subs_le l (hk _ (k2 c2.1))]
    · rw [if_neg c2, if_neg c2]
theorem firstOf_all {W : Nat → PyData → Option (List Int)} : ∀ {i : Nat} {xs : List PyData}, (∀ j x, xs[j]? = some x → W (i + j) x = none) → firstOf W i xs = none
  | _, [], _ => rfl
  | i, y :: ys, h => by
    show (match W i y with | some p => some p | none => firstOf W (i + 1) ys) = none
    rw [show W i y = none from h 0 y rfl]
    exact firstOf_all fun j x hx => by
      have := h (j + 1) x (by simpa using hx)
      rwa [show i + (j + 1) = i + 1 + j by omega] at this
theorem fwrong_none : ∀ {h : Nat} {p : List Int} {t : PyData}, h ≤ 8 → (fwrong h p t = none ↔ okB h t = true ∧ ∀ q, q ∈ subsD h t → suits 8 q.2 = true)
  | 0, p, t, _ => by
    constructor
    · intro e
      cases e
    · rintro ⟨o, _⟩
      exact Bool.noConfusion o
  | h + 1, p, t, hh => by
    have ew : fwrong (h + 1) p t = if hasForm t = false then some p else match firstOf (fun i x => fwrong h (p ++ [(i : Int)]) x) 0 (partsOf t) with
      | some p => some p
      | none => if suits h t then none else some p := rfl
    constructor
    · intro e
      have o := ok_of_fwrong e
      refine ⟨o, fun q hq => ?_⟩
      rw [ew, if_neg (by rw [(ok_succ o).1]; exact fun z => Bool.noConfusion z)] at e
      cases hk : firstOf (fun i x => fwrong h (p ++ [(i : Int)]) x) 0 (partsOf t) with
      | some pp => rw [hk] at e; cases e
      | none =>
        rw [hk] at e
        rcases mem_subs.mp hq with rfl | ⟨i, c, r, hc, hr, rfl⟩
        · show suits 8 t = true
          rw [suits_le (by omega) o]
          cases hs : suits h t with
          | true => rfl
          | false => rw [hs] at e; cases e
        · exact ((fwrong_none (by omega)).mp (firstOf_none hk i c hc)).2 r hr
    · rintro ⟨o, hs⟩
      rw [ew, if_neg (by rw [(ok_succ o).1]; exact fun z => Bool.noConfusion z)]
      rw [firstOf_all fun j x hx => (fwrong_none (by omega)).mpr ⟨(ok_succ o).2 x (List.mem_of_getElem? hx), fun q hq => hs ((j : Int) :: q.1, q.2) (mem_subs.mpr (.inr ⟨j, x, q, hx, hq, rfl⟩))⟩]
      have h0 := hs ([], t) (mem_subs.mpr (.inl rfl))
      rw [suits_le (j := 8) (by omega) o] at h0
      show (if suits h t then none else some p) = none
      rw [if_pos h0]
/-- the path of a wrong part, or () for too many parts -/
def partErr (t : PyData) : Option (List Int) := match fwrong 8 [] t with
  | some p => some p
  | none => if 60 < npart 8 t ∨ 1000 < counted 8 t then some [] else none
def isPart (t : PyData) : Bool := okB 8 t && (decide (npart 8 t ≤ 60) && (decide (counted 8 t ≤ 1000) && (subsD 8 t).all fun q => suits 8 q.2))
theorem isPart_err (t : PyData) : isPart t = (partErr t).isNone := by
  rw [Bool.eq_iff_iff]
  unfold isPart partErr
  rw [Bool.and_eq_true, Bool.and_eq_true, Bool.and_eq_true, decide_eq_true_eq, decide_eq_true_eq, List.all_eq_true]
  constructor
  · rintro ⟨o, h1, h2, h3⟩
    rw [(fwrong_none (by omega)).mpr ⟨o, h3⟩]
    show (if 60 < npart 8 t ∨ 1000 < counted 8 t then some [] else none : Option (List Int)).isNone = true
    rw [if_neg (by omega)]
    rfl
  · intro e
    cases hw : fwrong 8 [] t with
    | some p => rw [hw] at e; cases e
    | none =>
      rw [hw] at e
      obtain ⟨o, h3⟩ := (fwrong_none (by omega)).mp hw
      by_cases hb : 60 < npart 8 t ∨ 1000 < counted 8 t
      · have e' : (if 60 < npart 8 t ∨ 1000 < counted 8 t then some [] else none : Option (List Int)).isNone = true := e
        rw [if_pos hb] at e'
        cases e'
      · exact ⟨o, by omega, by omega, h3⟩
end PD

set_option Elab.async false
set_option linter.all false
set_option maxRecDepth 100000
set_option maxHeartbeats 2000000
/-! Dicts by a comprehension, while, repetition, values that stand still and are told by what the heap says of them. -/
namespace L2
/-- a dict comprehension over a walk -/
theorem dc_it {J : It} {n : Nat} {G : Hp → Prop} {Y : Nat → Hp → V → Hp → Prop} (w : Walk J n G Y) {g : TG} {tt : TT} {tk tv : TE} {vs : List Nat} {σ : St} {H1 : Hp} {D : PySem.Addr} {Qd : Hp → Prop} (Iv : Nat → Hp → Prop) (start : Iv 0 (upd H1 D (.dK []))) (stays : ∀ i H, i ≤ n → Iv i H → G H)
    (turn : ∀ i x H H', i < n → Iv i H → Y i H x H' → g x (wipe σ vs) H' fun σ2 H2 => wipe σ2 vs = wipe σ vs ∧ tt σ2 H2 fun b H3 =>
      if b = true then tk σ2 H3 fun y H4 => tv σ2 H4 fun z H5 => ∃ ds key, y = kV key ∧ H5 D = some (.dK ds) ∧ ds.length < PySem.sizeLine ∧ Iv (i + 1) (upd H5 D (.dK (putK ds key z))) else Iv (i + 1) H3) (ends : ∀ H, Iv n H → Qd H) :
    ∃ W : Nat → Nat → Hp → Prop, (∃ m, W 0 m (upd H1 D (.dK []))) ∧ ∀ i m H, W i m H →
      (J.stop i H ∧ Qd H) ∨ (J.go i H ∧ ∃ Nx : Hp → Prop, (∀ H', Nx H' → ∃ m', m' < m ∧ W (i + 1) m' H') ∧ ∀ x H', J.yld i H x H' → g x (wipe σ vs) H' fun σ2 H2 => wipe σ2 vs = wipe σ vs ∧ tt σ2 H2 fun b H3 =>
        if b = true then tk σ2 H3 fun y H4 => tv σ2 H4 fun z H5 => ∃ ds key, y = kV key ∧ H5 D = some (.dK ds) ∧ ds.length < PySem.sizeLine ∧ Nx (upd H5 D (.dK (putK ds key z))) else Nx H3) := by
  refine ⟨fun i m H => m = n - i ∧ i ≤ n ∧ Iv i H, ⟨n, by simp, Nat.zero_le _, start⟩, ?_⟩
  rintro i left H ⟨rfl, hi, p⟩
  have q := stays i H hi p
  by_cases hlt : i < n
  · refine .inr ⟨w.goes i H hlt q, Iv (i + 1), fun H' p' => ⟨n - (i + 1), by omega, rfl, hlt, p'⟩, fun x H' y => turn i x H H' hlt p (w.yields i H x H' hlt q y)⟩
  · have e : i = n := by omega
    subst e
    exact .inl ⟨w.stops H q, ends H p⟩
end L2
namespace DL
open PySem PySem.Spec PyProof.Rows L2 StX
/-- evaluates to a value of which P holds where it stands -/
def EvP (K : PySem.W.Frag) (B O : Hp) (G : List SD) (te : TE) (P : Hp → V → Prop) : Prop := ∀ B1 O1 σ H, Ex B B1 → Ex O O1 → Sta K B1 O1 G σ H → ∀ Q : VK, (∀ v B' H', Ex B1 B' → W B' O1 H' → P B' v → Q v H') → te σ H Q
section
variable {K : PySem.W.Frag} {B O : Hp} {G : List SD} {σ : L2.St} {H : Hp} {te ta tb : TE} {tz : TS} {D : Ends} {P : Hp → V → Prop} {i j : Nat}
theorem q_asgP (s : Sta K B O G σ H) (h : EvP K B O G te P) (k : ∀ v B' H', Ex B B' → P B' v → Sta K B' O (G.set i (.val v)) (σ.set i (some v)) H' → tz D (σ.set i (some v)) H') : tSeq (tAsg te (gName i)) tz D σ H :=
  h B O σ H (Ex.refl _) (Ex.refl _) s _ fun v B' H' e w p => k v B' H' e p ((s.ex e w).setV i)
theorem s_retP (s : Sta K B O G σ H) (h : EvP K B O G te P) (k : ∀ v B' H', Ex B B' → W B' O H' → P B' v → D.rt v H') : tRet te D σ H :=
  h B O σ H (Ex.refl _) (Ex.refl _) s _ fun v B' H' e w p => k v B' H' e w p
/-- a dict whose keys are the ints ns -/
def Ks (ns : List Int) (B : Hp) (v : V) : Prop := ∃ D kvs, v = .ref D ∧ B D = some (.dK kvs) ∧ ∀ i : Int, (valV kvs (.inl i : Key)).isSome = ns.contains i
theorem Ks.ex {ns : List Int} {B B' : Hp} {v : V} (h : Ks ns B v) (e : Ex B B') : Ks ns B' v := by
  obtain ⟨D, kvs, h1, h2, h3⟩ := h
  exact ⟨D, kvs, h1, e _ _ h2, h3⟩
/-- {x: True for x in ..} -/
theorem ev_keys {wi : TI} {ns : List Int} (hj : j < G.length) (hI : EvI K B O G wi (ns.map .int)) (hz : ns.length ≤ 100000) : EvP K B O G (tDc wi (gName j) tYes (tVar j) (tC (.bl true)) [j]) (Ks ns) := fun B1 O1 σ H e1 o s Q q => by
  refine hI B1 O1 σ H e1 o s _ fun J B2 H2 e2 w2 gv D hD => ?_
  obtain ⟨n, G0, Y, hn, wk, hG0, hY⟩ := gv
  have oD : O1 D = none := w2.fo hD
  rw [List.length_map] at hn
  refine dc_it wk (fun i H' => ∃ B' kvs, Ex B2 B' ∧ W B' (upd O1 D (.dK kvs)) H' ∧ kvs.length ≤ i ∧ ∀ z : Int, (valV kvs (.inl z : Key)).isSome = (ns.take i).contains z)
    ⟨B2, [], Ex.refl _, w2.newO hD, Nat.zero_le _, fun z => by simp [valV]⟩ (fun i H' _ ⟨B', kvs, e', w', _⟩ => hG0 B' _ H' e' w') ?_ ?_
  · rintro i x H3 H4 hi ⟨B3, kvs, e3, w3, hl, hk⟩ y
    obtain ⟨e, B4, hie, e4, w4, dx⟩ := hY i H3 x H4 B3 _ e3 w3 hi y
    obtain ⟨z, hz', rfl⟩ := map_inv hie
    have ex := dp_int dx
    subst ex
    have hj' : j < (L2.wipe σ [j]).length := by
      rw [wipe_length]
      rw [slots_len s.s]
      exact hj
    refine ⟨wipe_set (by simp) |>.trans wipe_wipe, ?_⟩
    show ∃ v, _
    refine ⟨.int z, by rw [List.getElem?_set]; simp [hj'], kvs, .inl z, rfl, w4.o D _ upd_same, Nat.lt_of_le_of_lt (m := 100000) (by omega) (by decide), ?_⟩
    refine ⟨B4, putK kvs (.inl z) (.bl true), e3.trans e4, ?_, ?_, fun u => ?_⟩
    · have := w4.mut (v := .dK (putK kvs (.inl z) (.bl true))) upd_same
      rw [upd_upd] at this
      exact this
    · have := length_putK kvs (.inl z : Key) (.bl true)
      omega
    · rw [valV_put, List.take_add_one, hz']
      simp only [Option.toList_some, List.contains_append, List.contains_cons, List.contains_nil, Bool.or_false]
      rw [← hk u]
      by_cases hu : u = z
      · subst hu
        simp
      · have : ¬ (Sum.inl u : Key) = .inl z := by simpa using hu
        rw [if_neg this]
        simp [hu]
  · rintro H3 ⟨B3, kvs, e3, w3, hl, hk⟩
    have hb := w3.bnone upd_same
    rw [hn, List.take_length] at hk
    exact q _ (upd B3 D (.dK kvs)) H3 ((e2.trans e3).trans (Ex.new hb)) (w3.give oD) ⟨D, kvs, rfl, upd_same, hk⟩
/-- x in d -/
theorem ev_din {ns : List Int} {v : V} {z : Int} (ha : EvD K B O G ta (.int z)) (hg : G[i]? = some (.val v)) (hk : Ks ns B v) : EvD K B O G (tDIn ta (tVar i)) (.bool (ns.contains z)) := fun B1 O1 σ H e o s Q q =>
  ha B1 O1 σ H e o s _ fun u B2 H2 e2 w2 d2 => by
    obtain ⟨sv, h1, h2⟩ := s.s.get hg
    have h3 : sv = some v := h2
    subst h3
    refine ⟨v, h1, ?_⟩
    obtain ⟨D, kvs, rfl, hb, hkv⟩ := hk
    rw [dp_int d2]
    refine ⟨D, valV kvs (.inl z : Key), rfl, .inl ⟨kvs, .inl z, .inl (w2.b _ _ (e2 _ _ (e _ _ hb))), rfl, rfl⟩, ?_⟩
    rw [hkv z]
    exact q _ B2 H2 e2 w2 (.bl _)
/-- xs * k -/
theorem dps_flat : ∀ {k : Nat} {ds : List PyData} {vs : List V}, DtAll K B vs ds → DtAll K B (List.replicate k vs).flatten (List.replicate k ds).flatten
  | 0, _, _, _ => .nil
  | k + 1, ds, vs, h => by
    rw [List.replicate_succ, List.replicate_succ, List.flatten_cons, List.flatten_cons]
    exact dps_app h (dps_flat h)
theorem rd_rep {ds : List PyData} {k : Int} (hk : 0 ≤ k ∧ k ≤ 100000) (hz : ds.length * k.toNat ≤ 100000) : RD K rRep (.list ds) (.int k) (.list (List.replicate k.toNat ds).flatten) := fun B1 O1 H v w hw hv hx Q q => by
  obtain ⟨a, xs, rfl, h1, h2⟩ := dp_lst hv
  rw [dp_int hx]
  refine ⟨a, k, xs, rfl, rfl, hw.b _ _ h1, by omega, by omega, sz_of (by rw [dps_len h2]; exact hz), fun p hp => ?_⟩
  exact q _ (upd B1 p _) _ (Ex.new (hw.fb hp)) (hw.newB hp) (.lst upd_same (dps_ex (Ex.new (hw.fb hp)) _ _ (dps_flat h2)))
/-- while: a measure that falls -/
theorem q_while {tt : TT} {tu : TS} (s : Sta K B O G σ H) (Pm : Nat → Hp → Hp → List SD → Prop) (m0 : Nat) (h0 : Pm m0 B O G)
    (hs : ∀ m B1 O1 G1 σ1 H1, Ex B B1 → Pm m B1 O1 G1 → Sta K B1 O1 G1 σ1 H1 → ∃ b, EvT K B1 O1 G1 tt b ∧ (b = true → ∀ B2 H2, Ex B1 B2 → Sta K B2 O1 G1 σ1 H2 → ∀ N : L2.St → Hp → Prop, (∀ m' B' O' G' σ' H', m' < m → Ex B2 B' → Pm m' B' O' G' → Sta K B' O' G' σ' H' → N σ' H') → tu { D with nx := N, ct := N, bk := tz D } σ1 H2) ∧
      (b = false → ∀ B2 H2, Ex B1 B2 → Sta K B2 O1 G1 σ1 H2 → tz D σ1 H2)) : tSeq (tWhile tt tu) tz D σ H := by
  refine ⟨fun m σ' H' => ∃ B' O' G', Ex B B' ∧ Pm m B' O' G' ∧ Sta K B' O' G' σ' H', ⟨m0, B, O, G, Ex.refl _, h0, s⟩, ?_⟩
  rintro m σ1 H1 ⟨B1, O1, G1, e1, p1, s1⟩
  obtain ⟨b, hb, k1, k2⟩ := hs m B1 O1 G1 σ1 H1 e1 p1 s1
  refine hb B1 O1 σ1 H1 (Ex.refl _) (Ex.refl _) s1 _ fun B2 H2 e2 w2 => ?_
  cases b with
  | true =>
    rw [if_pos rfl]
    refine ⟨fun σ' H' => ∃ m', m' < m ∧ ∃ B' O' G', Ex B B' ∧ Pm m' B' O' G' ∧ Sta K B' O' G' σ' H', fun σ' H' ⟨m', hm, h⟩ => ⟨m', hm, h⟩, ?_⟩
    exact k1 rfl B2 H2 e2 (s1.ex e2 w2) _ fun m' B' O' G' σ' H' hm e' p' s' => ⟨m', hm, B', O', G', (e1.trans e2).trans e', p', s'⟩
  | false =>
    rw [if_neg Bool.false_ne_true]
    exact k2 rfl B2 H2 e2 (s1.ex e2 w2)
end
end DL

set_option Elab.async false
set_option linter.all false
set_option maxRecDepth 100000
set_option maxHeartbeats 4000000
namespace Toy
open PySem PySem.Spec PyProof.Rows L2 StX DL


def chkOut (CP : Addr) (t : PyData) : OutD := match PD.partErr t with
  | some p => .exc CP "path" (PD.encP p)
  | none => .ret .none
def R_chk (CP : Addr) (ds : List PyData) (o : OutD) : Prop := ∃ t, PD.npart 8 t ≤ 50000 ∧ ds = [t] ∧ o = chkOut CP t
def R_isp (ds : List PyData) (d : PyData) : Prop := ∃ t, PD.npart 8 t ≤ 50000 ∧ ds = [t] ∧ d = .bool (PD.isPart t)
/-- the stack of is_part -/
def stkD (s : List (PyData × Nat)) : List PyData := s.map fun z => .tuple [z.1, .int (z.2 : Int)]
def stkOk (s : List (PyData × Nat)) : Prop := ∀ z, z ∈ s → PD.okB (9 - z.2) z.1 = true
def stkN (s : List (PyData × Nat)) : Nat := (s.map fun z => PD.npart (9 - z.2) z.1).sum
section
variable {K : PySem.W.Frag} {B O : Hp} {G : List SD} {σ : L2.St} {H : Hp} {tz : TS} {D : Ends} {i j k : Nat}
theorem q_popT {l : Addr} {vs : List V} {ds : List PyData} {a b : PyData} (s : Sta K B O G σ H) (hg : G[i]? = some (.val (.ref l))) (ho : O l = some (.lst vs)) (hd : DtAll K B vs (ds ++ [.tuple [a, b]]))
    (q : ∀ vs' σ' H', DtAll K B vs' ds → Sta K B (upd O l (.lst vs')) ((G.set j (.dat a)).set k (.dat b)) σ' H' → tz D σ' H') : tSeq (tAsg (tBM0 K "list" rPop (tVar i)) (gTup K 2 (gCons (gName j) (gCons (gName k) gNil)))) tz D σ H := by
  obtain ⟨vs', y, rfl, h1, h2⟩ : ∃ vs' y, vs = vs' ++ [y] ∧ DtAll K B vs' ds ∧ Dt K B y (.tuple [a, b]) := by
    have key : ∀ (ds : List PyData) (vs : List V), DtAll K B vs (ds ++ [.tuple [a, b]]) → ∃ vs' y, vs = vs' ++ [y] ∧ DtAll K B vs' ds ∧ Dt K B y (.tuple [a, b]) := by
      intro ds
      induction ds with
      | nil =>
        intro vs h
        cases h with
        | cons h1 h2 =>
          cases h2
          exact ⟨[], _, rfl, .nil, h1⟩
      | cons d ds ih =>
        intro vs h
        cases h with
        | cons h1 h2 =>
          obtain ⟨vs', y, rfl, h3, h4⟩ := ih _ h2
          exact ⟨_ :: vs', y, rfl, .cons h1 h3, h4⟩
    exact key ds vs hd
  refine ev_popP s hg ho fun w => ?_
  have st : Sta K B (upd O l (.lst vs')) G σ (upd H l (.lst vs')) := ⟨w, s.s⟩
  exact eg_pair B _ σ _ y st h2 _ fun σ' s' _ => q vs' σ' _ h1 s'
end
theorem W_drop {B O H : Hp} {l : Addr} {u : HO} (w : W B (upd O l u) H) (n : O l = none) : W B O H := ⟨w.b, fun a o h => w.o a o (Ex.new n a o h), fun a => by
  rcases w.d a with h | h
  · exact .inl h
  · by_cases e : a = l
    · subst e
      exact .inr n
    · rw [upd_ne e] at h
      exact .inr h⟩
theorem sum_app {a b : List Nat} : (a ++ b).sum = a.sum + b.sum := List.sum_append
section
variable {P : Program} {w : World} {K : PySem.W.Frag} {mg : Str → Option Value} {base : Heap} {AD : Ads}

/-- what the checks of a whole part call -/
structure Chks (P : Program) (w : World) (K : PySem.W.Frag) (mg : Str → Option Value) (base : Heap) : Prop where
  hf : Cal P w K mg base 10 "has_form" ["thing"] (SpR K R_form)
  po : Cal P w K mg base 2 "parts_of" ["part"] (SpL K R_parts)
  su : Cal P w K mg base 13 "suits_its_part" ["part"] (SpR K (R_suits 8))
  fw : Cal P w K mg base 20 "first_wrong" ["part", "path"] (SpR K (R_fw 8))
  sp : Cal P w K mg base 11 "subparts" ["part"] (SpL K (R_subs 8))
  cn : Cal P w K mg base 11 "counted_parts" ["part"] (SpR K (R_cnt 8))
theorem ok_check_part {f CP : Addr} {fd : FuncData} (T : Txt K mg AD) (Ck : Chks P w K mg base) (Er_NoPart : ErrC P w K mg base "NoPart" CP "path") (a : At K mg "check_part" s_check_part ["part"] f fd) : FnOk P w K mg base (L2.CX P w) 22 f fd ["part"] (SpD K (R_chk CP)) := by
  have C_first_wrong := Ck.fw
  have C_subparts := Ck.sp
  have C_counted_parts := Ck.cn
  refine ok_fnOutD a.fn sc_check_part (by rintro ds d ⟨t, _, rfl, _⟩; rfl) fun cdv A outer s H0 E hr ds o ⟨t, hn, e1, e2⟩ => ?_
  subst e1 e2
  refine ⟨_, (pss_cons (ps_set (i := 1) sc_check_part.nd rfl (Or.inl rfl) (pe_cal C_first_wrong hr (by omega) (by rfl) (pa_cons (pv 0) (pa_cons (pe_tup pa_nil) pa_nil))))
    (pss_cons (ps_if (pt_cmpR op_notN (pv 1) pe_non (nomark _)) (pss_one (ps_raiseE rfl Er_NoPart hr (by omega) (takes_of rfl rfl rfl rfl) (pv 1) (by rfl))) pss_nil)
    (pss_one (ps_if (PW.pt (pw_or (pt_cmpR op_gt (pe_callB (call_lenK K) (by rfl) T.b_len PySem.boot_len (pa_cons (pe_cal C_subparts hr (by omega) (by rfl) (pa_cons (pv 0) pa_nil)) pa_nil)) (pe_gi (n := 60) (by rfl) T.n_MOST_PARTS) (nomark _)) (pw_or1 (pt_cmpR op_gt (pe_cal C_counted_parts hr (by omega) (by rfl) (pa_cons (pv 0) pa_nil)) (pe_gi (n := 1000) (by rfl) T.n_MOST_COUNTED) (nomark _))))) (pss_one (ps_raiseE rfl Er_NoPart hr (by omega) (takes_of rfl rfl rfl rfl) (pe_tup pa_nil) (by rfl))) pss_nil)))), fun B O σ H Q st q => ?_⟩
  unfold chkOut PD.partErr at q
  refine q_asg st (d := encW (PD.fwrong 8 [] t)) (ev_call (ea_cons (ev_var rfl) (ea_cons (ev_tup ea_nil (by simp)) ea_nil)) ⟨t, [], rfl, hn, rfl, by unfold encW; rfl⟩) fun v1 B1 H1 x1 d1 st => ?_
  cases hw : PD.fwrong 8 [] t with
  | some p =>
    rw [hw] at st q
    refine q_whenT st (et_test (not_none (d := encW (some p)) (ev_var (i := 1) rfl) ev_non rfl)) fun B2 H2 x2 st => ?_
    exact s_raiseD st (d := PD.encP p) (ev_var (i := 1) rfl) fun pp v B3 H3 x3 w3 hp hv => q pp v B3 H3 ((x1.trans x2).trans x3) w3 hp hv
  | none =>
    rw [hw] at st q
    obtain ⟨ho, _⟩ := (PD.fwrong_none (by omega)).mp hw
    refine q_whenF st (et_test (not_none (d := encW none) (ev_var (i := 1) rfl) ev_non rfl)) fun B2 H2 x2 st => ?_
    have hl := PD.subs_len (h := 8) (d := t)
    refine s_if st (b := decide (60 < PD.npart 8 t ∨ 1000 < PD.counted 8 t)) (et_is (et_or (a := decide ((60 : Int) < ((PD.npart 8 t : Nat) : Int))) (b := decide ((1000 : Int) < PD.counted 8 t)) (et_is (et_test (ev_op (ev_cb (ea_cons (el_call (ea_cons (ev_var rfl) ea_nil) ⟨t, ho, hn, rfl, rfl⟩).d ea_nil) rc_lenL) ev_int rd_B0)) (by rw [List.length_map, hl])) fun _ => et_test (ev_op (ev_call (ea_cons (ev_var rfl) ea_nil) ⟨t, ho, rfl, rfl⟩) ev_int rd_B0)) ?_) (fun h3 B3 H3 x3 st => ?_) (fun h3 B3 H3 x3 st => ?_)
    · rw [Bool.eq_iff_iff, Bool.or_eq_true, decide_eq_true_eq, decide_eq_true_eq, decide_eq_true_eq]
      omega
    · have q' := q
      rw [if_pos (of_decide_eq_true h3)] at q'
      exact s_raiseD st (d := PD.encP []) (ev_tup ea_nil (by simp)) fun pp v B4 H4 x4 w4 hp hv => q' pp v B4 H4 (((x1.trans x2).trans x3).trans x4) w4 hp hv
    · have q' := q
      rw [if_neg (of_decide_eq_false h3)] at q'
      exact q' .non B3 H3 ((x1.trans x2).trans x3) st.w .non
theorem ok_is_part {f : Addr} {fd : FuncData} (T : Txt K mg AD) (Ck : Chks P w K mg base) (a : At K mg "is_part" s_is_part ["thing"] f fd) : FnOk P w K mg base CX0 15 f fd ["thing"] (SpR K R_isp) := by
  have C_has_form := Ck.hf
  have C_parts_of := Ck.po
  have C_subparts := Ck.sp
  have C_counted_parts := Ck.cn
  have C_suits_its_part := Ck.su
  refine ok_fn a.fn sc_is_part (by rintro ds d ⟨t, _, rfl, _⟩; rfl) fun cdv A outer s H0 E hr ds d ⟨t, hn, e1, e2⟩ => ?_
  subst e1 e2
  refine ⟨_, (pss_cons (ps_set (i := 1) sc_is_part.nd rfl (Or.inl rfl) (pe_lst (pa_cons (pe_tup (pa_cons (pv 0) (pa_cons pe_int pa_nil))) pa_nil)))
    (pss_cons (ps_set (i := 2) sc_is_part.nd rfl (Or.inl rfl) pe_int)
    (pss_cons (ps_while PassesOwn.never (pt_truth (pv 1) (fun _ => rfl)) (pss_cons (ps_asg (pe_bm0 PySem.F.plainAttrs_list PySem.F.slot_list_pop PySem.F.type_list_pop mt_pop (pv 1)) (pg_tupK K (n := 2) (by rfl) (pgs_cons (pg_name (i := 3) sc_is_part.nd rfl (Or.inl rfl)) (pgs_cons (pg_name (i := 4) sc_is_part.nd rfl (Or.inr rfl)) pgs_nil))))
    (pss_cons (ps_set (i := 2) sc_is_part.nd rfl (Or.inl rfl) (pe_op op_add (pv 2) pe_int))
    (pss_cons (ps_if (PW.pt (pw_or (pt_cmpR op_gt (pv 2) (pe_gi (n := 60) (by rfl) T.n_MOST_PARTS) (nomark _)) (pw_or (pt_cmpR op_gt (pv 4) (pe_gi (n := 8) (by rfl) T.n_MOST_DEEP) (nomark _)) (pw_or1 (pt_not (pt_val (pe_cal C_has_form hr (by omega) (by rfl) (pa_cons (pv 3) pa_nil)))))))) (pss_one (ps_ret pe_bl)) pss_nil)
    (pss_one (ps_expr (pe_bm PySem.F.plainAttrs_list PySem.F.slot_list_extend PySem.F.type_list_extend mt_extend (pv 1) (pa_cons (pe_lc (own := [("inner", 5)]) (by rfl) sc_is_part.nd (pi_listK K (pe_cal C_parts_of hr (by omega) (by rfl) (pa_cons (pv 3) pa_nil))) (blkOk_by (own := [("inner", 5)]) (N := N_sc_is_part) (sc := defScope s_is_part) (by decide +kernel)) (fun _ _ _ _ _ => (pg_name (i := 5) sc_is_part.nd rfl (Or.inl rfl))) (fun _ _ _ _ _ => pts_nil) (fun _ _ _ _ _ => (pe_tup (pa_cons (pv 5) (pa_cons (pe_op op_add (pv 4) pe_int) pa_nil))))) pa_nil))))))))
    (pss_cons (ps_if (pt_cmpR op_gt (pe_cal C_counted_parts hr (by omega) (by rfl) (pa_cons (pv 0) pa_nil)) (pe_gi (n := 1000) (by rfl) T.n_MOST_COUNTED) (nomark _)) (pss_one (ps_ret pe_bl)) pss_nil)
    (pss_one (ps_ret (pe_callB (cr_allK K rfl) (by rfl) T.b_all (by decide +kernel) (pa_cons (pe_lc (own := [("path", 6), ("part", 3)]) (by rfl) sc_is_part.nd (pi_listK K (pe_cal C_subparts hr (by omega) (by rfl) (pa_cons (pv 0) pa_nil))) (blkOk_by (own := [("path", 6), ("part", 3)]) (N := N_sc_is_part) (sc := defScope s_is_part) (by decide +kernel)) (fun _ _ _ _ _ => (pg_tupK K (n := 2) (by rfl) (pgs_cons (pg_name (i := 6) sc_is_part.nd rfl (Or.inl rfl)) (pgs_cons (pg_name (i := 3) sc_is_part.nd rfl (Or.inl rfl)) pgs_nil)))) (fun _ _ _ _ _ => pts_nil) (fun _ _ _ _ _ => (pe_cal C_suits_its_part hr (by omega) (by rfl) (pa_cons (pv 3) pa_nil)))) pa_nil)))))))), fun B O σ H Q st q => ?_⟩
  refine q_asgL st (el_lst (ea_cons (ev_tup (ea_cons (ev_var rfl) (ea_cons ev_int ea_nil)) (by simp)) ea_nil) (by simp)) fun l vs B1 H1 x1 nl dv st => ?_
  refine q_asg st ev_int fun v2 B2 H2 x2 d2 st => ?_
  have no : ∀ {B3 O3 H3 : Hp} {σ3 : L2.St} {G3 : List SD} {D : Ends}, D.rt = Q → ¬ (PD.okB 8 t = true ∧ PD.npart 8 t ≤ 60) → Ex B B3 → (∀ v B' H', Ex B3 B' → W B' O3 H' → ∃ B4, Ex B3 B4 ∧ W B4 O H') → Sta K B3 O3 G3 σ3 H3 → tRet (tC (.bl false)) D σ3 H3 := fun {B3 O3 H3 σ3 G3 D} hD hno e3 hO st => by
    have ef : PD.isPart t = false := by
      unfold PD.isPart
      rw [Bool.eq_false_iff]
      intro z
      rw [Bool.and_eq_true, Bool.and_eq_true, decide_eq_true_eq] at z
      exact hno ⟨z.1, z.2.1⟩
    rw [ef] at q
    refine s_ret st ev_bl fun v B4 H4 x4 w4 d4 => ?_
    obtain ⟨B5, x5, w5⟩ := hO v B4 H4 x4 w4
    rw [dp_bool d4, hD]
    exact q _ B5 H4 (e3.trans x5) w5 (.bl _)
  have dropO : ∀ {B3 H3 : Hp} {vs : List V}, W B3 (upd O l (.lst vs)) H3 → W B3 O H3 := fun {B3 H3 vs} w => W_drop w nl
  refine q_while st (fun m B' O' G' => ∃ (stk : List (PyData × Nat)) (many : Nat) (vs : List V) (g3 g4 : SD), O' = upd O l (.lst vs) ∧ DtAll K B' vs (stkD stk) ∧ many ≤ 60 ∧ m = 61 - many ∧ stk.length ≤ 12 * many + 1 ∧ (∀ z, z ∈ stk → 1 ≤ z.2 ∧ z.2 ≤ 9) ∧
      ((PD.okB 8 t = true ∧ PD.npart 8 t ≤ 60) ↔ (stkOk stk ∧ many + stkN stk ≤ 60)) ∧ G' = [.dat t, .val (.ref l), .dat (.int (many : Int)), g3, g4, .un, .un]) 61 ⟨[(t, 1)], 0, vs, _, _, rfl, dps_ex x2 _ _ dv, by omega, rfl, by simp, by simp, ?_, rfl⟩ ?_
  · constructor
    · rintro ⟨h1, h2⟩
      refine ⟨fun z hz => ?_, ?_⟩
      · have : z = (t, 1) := by simpa using hz
        subst this
        exact h1
      · show 0 + ([PD.npart 8 t].sum) ≤ 60
        simp
        exact h2
    · rintro ⟨h1, h2⟩
      refine ⟨h1 (t, 1) (by simp), ?_⟩
      have h3 : 0 + ([PD.npart 8 t].sum) ≤ 60 := h2
      simpa using h3
  · rintro m B3 O3 G3 σ3 H3 x3 ⟨stk, many, vs3, g3, g4, rfl, dv3, hm, hmm, hlen, hdeep, hiff, rfl⟩ st
    have hvl := dps_len dv3
    have hsl : (stkD stk).length = stk.length := by unfold stkD; rw [List.length_map]
    rcases List.eq_nil_or_concat stk with rfl | ⟨init, last, rfl⟩
    · have hv0 : vs3 = [] := List.eq_nil_of_length_eq_zero (by rw [hvl, hsl]; rfl)
      subst hv0
      refine ⟨false, et_listO rfl upd_same rfl, fun z => Bool.noConfusion z, fun _ B4 H4 x4 st => ?_⟩
      obtain ⟨ho, hn60⟩ := hiff.mpr ⟨(fun z hz => by cases hz), by show many + 0 ≤ 60; omega⟩
      have hl := PD.subs_len (h := 8) (d := t)
      have xx := (((x1.trans x2).trans x3).trans x4)
      have ei : PD.isPart t = (decide (PD.counted 8 t ≤ 1000) && (PD.subsD 8 t).all fun q => PD.suits 8 q.2) := by
        unfold PD.isPart
        rw [ho, decide_eq_true hn60, Bool.true_and, Bool.true_and]
      rw [ei] at q
      refine q_when st (b := decide ((1000 : Int) < PD.counted 8 t)) (et_test (ev_op (ev_call (ea_cons (ev_var rfl) ea_nil) ⟨t, ho, rfl, rfl⟩) ev_int rd_B0)) (fun h5 B5 H5 x5 st => ?_) (fun h5 B5 H5 x5 st => ?_)
      · have h6 := of_decide_eq_true h5
        rw [decide_eq_false (by omega), Bool.false_and] at q
        exact s_ret st ev_bl fun v B6 H6 x6 w6 d6 => q v B6 H6 ((xx.trans x5).trans x6) (dropO w6) d6
      · have h6 := of_decide_eq_false h5
        rw [decide_eq_true (by omega), Bool.true_and] at q
        refine s_ret st (ev_cb (ea_cons (ev_is (ev_map (PD.subsD 8 t) PD.encQ (fun q => .bool (PD.suits 8 q.2)) (fun q => [.dat t, .val (.ref l), .dat (.int (many : Int)), .dat q.2, g4, .un, .dat (PD.encP q.1)]) (ei_list (el_call (ea_cons (ev_var rfl) ea_nil) ⟨t, ho, hn, rfl, rfl⟩).d) (by omega)
          (fun q _ => eg_pairW (by decide) (by decide)) (fun q hq => ?_)) (show PyData.list ((PD.subsD 8 t).map (fun q => PyData.bool (PD.suits 8 q.2))) = .list (((PD.subsD 8 t).map fun q => PD.suits 8 q.2).map PyData.bool) by rw [List.map_map]; rfl)) ea_nil) rc_all) fun v B6 H6 x6 w6 d6 => ?_
        · obtain ⟨o2, n2⟩ := PD.sub_ok ho hq
          exact ev_call (ea_cons (ev_var rfl) ea_nil) ⟨q.2, PD.ok_up o2, by rw [PD.npart_up o2]; omega, rfl, rfl⟩
        · refine q v B6 H6 ((xx.trans x5).trans x6) (dropO w6) ?_
          rw [List.all_map] at d6
          exact d6
    · have hv1 : (!vs3.isEmpty) = true := by
        cases vs3 with
        | nil => rw [hsl] at hvl; simp at hvl
        | cons => rfl
      refine ⟨true, et_listO rfl upd_same hv1, fun _ B4 H4 x4 st N hN => ?_, fun z => Bool.noConfusion z⟩
      obtain ⟨x, n⟩ := last
      have hdl : DtAll K B4 vs3 (stkD init ++ [.tuple [x, .int (n : Int)]]) := by
        have := dps_ex x4 _ _ dv3
        unfold stkD at this ⊢
        rw [List.concat_eq_append, List.map_append] at this
        exact this
      have hn9 : 1 ≤ n ∧ n ≤ 9 := hdeep (x, n) (by simp)
      have hsum : stkN (init.concat (x, n)) = stkN init + PD.npart (9 - n) x := by
        unfold stkN
        rw [List.concat_eq_append, List.map_append, sum_app]
        simp
      have hokc : stkOk (init.concat (x, n)) ↔ stkOk init ∧ PD.okB (9 - n) x = true := by
        unfold stkOk
        constructor
        · intro h
          exact ⟨fun z hz => h z (by rw [List.concat_eq_append]; exact List.mem_append_left _ hz), h (x, n) (by simp)⟩
        · rintro ⟨h1, h2⟩ z hz
          rw [List.concat_eq_append] at hz
          rcases List.mem_append.mp hz with hz | hz
          · exact h1 z hz
          · have : z = (x, n) := by simpa using hz
            subst this
            exact h2
      rw [hsum, hokc] at hiff
      have hp1 := PD.npart_pos (h := 9 - n) (d := x)
      have xx := (((x1.trans x2).trans x3).trans x4)
      refine q_popT st rfl upd_same hdl fun vs5 σ5 H5 dv5 st => ?_
      rw [upd_upd] at st
      refine q_asg st (ev_is (ev_op (ev_var rfl) ev_int rd_I0) (show PyData.int ((many : Int) + 1) = .int (((many + 1 : Nat) : Int)) from congrArg PyData.int (by omega))) fun v6 B6 H6 x6 d6 st => ?_
      have hO : ∀ {B7 : Hp} {vs7 : List V}, (∀ (v : V) (B' H' : Hp), Ex B7 B' → W B' (upd O l (.lst vs7)) H' → ∃ B4, Ex B7 B4 ∧ W B4 O H') := fun {B7 vs7} v B' H' e w => ⟨B', e, dropO w⟩
      refine q_when st (et_or (a := decide ((60 : Int) < ((many + 1 : Nat) : Int))) (b := decide ((8 : Int) < (n : Int)) || !PD.hasForm x) (et_test (ev_op (ev_var rfl) ev_int rd_B0)) fun _ => et_or (et_test (ev_op (ev_var rfl) ev_int rd_B0)) fun _ => et_not (et_test (ev_call (ea_cons (ev_var rfl) ea_nil) ⟨x, rfl, rfl⟩))) (fun h7 B7 H7 x7 st => ?_) (fun h7 B7 H7 x7 st => ?_)
      · refine no rfl ?_ ((xx.trans x6).trans x7) hO st
        rw [hiff]
        rintro ⟨⟨_, z2⟩, z3⟩
        have hf : PD.hasForm x = true := by
          cases hh : 9 - n with
          | zero => rw [hh] at z2; exact Bool.noConfusion z2
          | succ h => rw [hh] at z2; exact (PD.ok_succ z2).1
        have hn8 : n ≤ 8 := by
          rcases Nat.lt_or_ge n 9 with h | h
          · omega
          · rw [show 9 - n = 0 by omega] at z2
            exact Bool.noConfusion z2
        rw [decide_eq_false (show ¬ (60 : Int) < ((many + 1 : Nat) : Int) by omega), decide_eq_false (show ¬ (8 : Int) < (n : Int) by omega), hf] at h7
        cases h7
      · rw [Bool.or_eq_false_iff, Bool.or_eq_false_iff] at h7
        have h8 := of_decide_eq_false h7.1
        have h9 := of_decide_eq_false h7.2.1
        have hf : PD.hasForm x = true := by simpa using h7.2.2
        have hk := (PD.form_of hf).kids
        have hvl5 := dps_len dv5
        have hsl5 : (stkD init).length = init.length := by unfold stkD; rw [List.length_map]
        have hlen' : init.length + 1 ≤ 12 * many + 1 := by simpa using hlen
        obtain ⟨h, hh⟩ : ∃ h, 9 - n = h + 1 := ⟨8 - n, by omega⟩
        rw [hh] at hiff
        have hh2 : 9 - (n + 1) = h := by omega
        refine q_extend st rfl upd_same (ds := (PD.partsOf x).map fun c => .tuple [c, .int (((n + 1 : Nat)) : Int)]) (by rw [List.length_map]; omega) (ev_map (PD.partsOf x) id (fun c => .tuple [c, .int (((n + 1 : Nat)) : Int)]) (fun c => [.dat t, .val (.ref l), .dat (.int ((many + 1 : Nat) : Int)), .dat x, .dat (.int (n : Int)), .dat c, .un]) (ei_list (by rw [List.map_id]; exact (el_call (ea_cons (ev_var rfl) ea_nil) ⟨x, hf, rfl, rfl⟩).d)) (by omega) (fun c _ => eg_nameW (by decide))
          (fun c _ => ev_tup (ea_cons (ev_var rfl) (ea_cons (ev_is (ev_op (ev_var rfl) ev_int rd_I0) (congrArg PyData.int (by omega))) ea_nil)) (by simp))) fun ws B8 H8 x8 dw st => ?_
        rw [upd_upd] at st
        refine hN (61 - (many + 1)) B8 _ _ _ _ (by omega) ((x6.trans x7).trans x8) ⟨init ++ (PD.partsOf x).map fun c => (c, n + 1), many + 1, vs5 ++ ws, _, _, rfl, ?_, by omega, rfl, ?_, ?_, ?_, rfl⟩ st
        · unfold stkD at dv5 ⊢
          rw [List.map_append]
          refine dps_app (dps_ex ((x6.trans x7).trans x8) _ _ dv5) ?_
          rw [List.map_map]
          exact dw
        · rw [List.length_append, List.length_map]
          omega
        · intro z hz
          rcases List.mem_append.mp hz with hz | hz
          · exact hdeep z (by rw [List.concat_eq_append]; exact List.mem_append_left _ hz)
          · obtain ⟨c, _, rfl⟩ := List.mem_map.mp hz
            show 1 ≤ n + 1 ∧ n + 1 ≤ 9
            omega
        · rw [hiff]
          have hsn : stkN (init ++ (PD.partsOf x).map fun c => (c, n + 1)) = stkN init + ((PD.partsOf x).map (PD.npart h)).sum := by
            unfold stkN
            rw [List.map_append, sum_app, List.map_map]
            congr 2
            refine List.map_congr_left fun c _ => ?_
            show PD.npart (9 - (n + 1)) c = _
            rw [hh2]
          have hpn : PD.npart (h + 1) x = 1 + ((PD.partsOf x).map (PD.npart h)).sum := rfl
          rw [hsn, hpn]
          constructor
          · rintro ⟨⟨z1, z2⟩, z3⟩
            refine ⟨fun z hz => ?_, by omega⟩
            rcases List.mem_append.mp hz with hz | hz
            · exact z1 z hz
            · obtain ⟨c, hc, rfl⟩ := List.mem_map.mp hz
              show PD.okB (9 - (n + 1)) c = true
              rw [hh2]
              exact (PD.ok_succ z2).2 c hc
          · rintro ⟨z1, z3⟩
            refine ⟨⟨fun z hz => z1 z (List.mem_append_left _ hz), PD.ok_of_fwrong' hf fun c hc => ?_⟩, by omega⟩
            have := z1 (c, n + 1) (List.mem_append_right _ (List.mem_map.mpr ⟨c, hc, rfl⟩))
            have this' : PD.okB (9 - (n + 1)) c = true := this
            rw [hh2] at this'
            exact this'
end
end Toy

set_option Elab.async false
set_option linter.all false
set_option maxRecDepth 100000
set_option maxHeartbeats 2000000
/-! Instances: owned while they are made, standing still afterwards. -/
namespace DL
open PySem PySem.Spec PyProof.Rows L2 StX
section
variable {K : PySem.W.Frag} {B B' O : Hp} {G : List SD} {σ : L2.St} {H : Hp} {te ta tb : TE} {tz : TS} {D : Ends} {d : PyData} {i : Nat} {x dx C : Addr} {fs : List (Str × V)} {f : Str} {v : V}
/-- self.f = e, self owned -/
theorem s_fld (c : Cls K C) (n : NoAttr K C f) (s : Sta K B O G σ H) (hg : G[i]? = some (.val (.ref x))) (ho : O x = some (.ins C dx fs)) (hl : fs.length < 1000) (h : EvD K B O G te d)
    (k : ∀ v B' H', Ex B B' → Dt K B' v d → Sta K B' (upd O x (.ins C dx (putF f v fs))) G σ H' → D.nx σ H') : sFld K (tVar i) te f D σ H := by
  refine h B O σ H (Ex.refl _) (Ex.refl _) s _ fun v B' H' e w dv => ?_
  obtain ⟨sv, h1, h2⟩ := s.s.get hg
  have h3 : sv = some (.ref x) := h2
  subst h3
  exact ⟨_, h1, x, C, dx, fs, rfl, w.o _ _ ho, c, n, hl, k v B' _ e dv ⟨w.mut ho, s.s.ex e⟩⟩
theorem q_fld (c : Cls K C) (n : NoAttr K C f) (s : Sta K B O G σ H) (hg : G[i]? = some (.val (.ref x))) (ho : O x = some (.ins C dx fs)) (hl : fs.length < 1000) (h : EvD K B O G te d)
    (k : ∀ v B' H', Ex B B' → Dt K B' v d → Sta K B' (upd O x (.ins C dx (putF f v fs))) G σ H' → tz D σ H') : tSeq (sFld K (tVar i) te f) tz D σ H := s_fld (D := { D with nx := tz D }) c n s hg ho hl h k
/-- self.f, self owned -/
theorem ev_fldO (c : Cls K C) (n : NoAttr K C f) (hg : G[i]? = some (.val (.ref x))) (ho : O x = some (.ins C dx fs)) (hf : fs.lookup f = some v) (hd : Dt K B v d) : EvD K B O G (tFld K (tVar i) f) d := fun B1 O1 σ H e o s Q q => by
  obtain ⟨sv, h1, h2⟩ := s.s.get hg
  have h3 : sv = some (.ref x) := h2
  subst h3
  exact ⟨_, h1, x, C, dx, fs, v, rfl, s.w.o _ _ (o _ _ ho), c, n, hf, q v B1 H (Ex.refl _) s.w (dp_ex e _ _ hd)⟩
/-- e.f, e a value of which B says that it is an instance with that field -/
theorem ev_fld {P : Hp → V → Prop} (c : Cls K C) (n : NoAttr K C f) (h : EvP K B O G te P) (hp : ∀ B1 v, Ex B B1 → P B1 v → ∃ x dx fs u, v = .ref x ∧ B1 x = some (.ins C dx fs) ∧ fs.lookup f = some u ∧ Dt K B1 u d) : EvD K B O G (tFld K te f) d := fun B1 O1 σ H e o s Q q =>
  h B1 O1 σ H e o s _ fun v B2 H2 e2 w2 p => by
    obtain ⟨x, dx, fs, u, rfl, h1, h2, h3⟩ := hp B2 v (e.trans e2) p
    exact ⟨x, C, dx, fs, u, rfl, w2.b _ _ h1, c, n, h2, q u B2 H2 e2 w2 h3⟩
theorem evP_var {P : Hp → V → Prop} (hg : G[i]? = some (.val v)) (hp : ∀ B1, Ex B B1 → P B1 v) : EvP K B O G (tVar i) P := fun B1 O1 σ H e o s Q q => by
  obtain ⟨sv, h1, h2⟩ := s.s.get hg
  have h3 : sv = some v := h2
  subst h3
  exact ⟨_, h1, q v B1 H (Ex.refl _) s.w (hp B1 e)⟩
theorem EvP.ex {P : Hp → V → Prop} (h : EvP K B O G te P) (e : Ex B B') : EvP K B' O G te P := fun B1 O1 σ H e1 o s Q q => h B1 O1 σ H (e.trans e1) o s Q q
end
/-- a set of lengths as it is kept -/
structure LS where
  period : Nat
  cycle : List Bool
  start : Nat
  marks : List Bool
abbrev blist (bs : List Bool) : List PyData := bs.map .bool
/-- v is an instance of the class at C that keeps L -/
def IsLS (K : PySem.W.Frag) (C : Addr) (L : LS) (B : Hp) (v : V) : Prop := ∃ x dx fs cv mv, v = .ref x ∧ B x = some (.ins C dx fs) ∧ fs.lookup ("period" : Str) = some (.int L.period) ∧ fs.lookup ("cycle" : Str) = some cv ∧ Dt K B cv (.tuple (blist L.cycle)) ∧
  fs.lookup ("start" : Str) = some (.int L.start) ∧ fs.lookup ("marks" : Str) = some mv ∧ Dt K B mv (.tuple (blist L.marks))
theorem IsLS.ex {K : PySem.W.Frag} {C : Addr} {L : LS} {B B' : Hp} {v : V} (h : IsLS K C L B v) (e : Ex B B') : IsLS K C L B' v := by
  obtain ⟨x, dx, fs, cv, mv, h1, h2, h3, h4, h5, h6, h7, h8⟩ := h
  exact ⟨x, dx, fs, cv, mv, h1, e _ _ h2, h3, h4, dp_ex e _ _ h5, h6, h7, dp_ex e _ _ h8⟩
end DL

set_option Elab.async false
set_option linter.all false
set_option maxRecDepth 100000
set_option maxHeartbeats 2000000
/-! Several except clauses that all bind the same name; isinstance of such an error that has fields. -/
namespace L2
open PySem PySem.Spec PyProof.Rows
/-- behind a suite the name's slot is empty again -/
abbrev Ends.gone (D : Ends) (i : Nat) : Ends := ⟨fun σ H => D.nx (σ.set i none) H, D.rt, fun σ H => D.bk (σ.set i none) H, fun σ H => D.ct (σ.set i none) H⟩
/-- the wish of the clauses, from the first on -/
def wAll (K : PySem.W.Frag) (i : Nat) (Wout : WX) (D : Ends) : List (Value × (Addr → Value → Option Addr → TS)) → WX
  | [] => Wout
  | cl :: more => fun cls d σ H => ∃ hit, PySem.W.exmOne K cls cl.1 = some hit ∧ (hit = true → ∀ a, H a = none → cl.2 a cls d (D.gone i) (σ.set i (some (.ref a))) H) ∧ (hit = false → wAll K i Wout D more cls d σ H)
/-- clauses: except x as n, n in every one -/
inductive Clauses (X : Cx) (n : Str) : List ExceptHandler → List (Value × (Addr → Value → Option Addr → TS)) → Prop
  | none : Clauses X n [] []
  | more {x : Str} {c : Value} {ts : Addr → Value → Option Addr → TS} {first : Stmt} {rest : List Stmt} {p q : Pos} {hs : List ExceptHandler} {l : List (Value × (Addr → Value → Option Addr → TS))} (names : Names X x c)
      (suite : ∀ (a : Addr) (oe : Obj) (cls : Value) (d : Option Addr) (pn : List (Addr × Obj)), Zc cls d oe → (∃ vs, oe.data = .fields vs) → PSs (X.suite a ((a, oe) :: pn)) (first :: rest) (ts a cls d)) (tail : Clauses X n hs l) :
      Clauses X n (.ExceptHandler (some (.Name x p)) (some n) (first :: rest) q :: hs) ((c, ts) :: l)
section
variable {X : Cx} {n : Str} {i : Nat} {body : List Stmt} {h₀ : ExceptHandler} {hds : List ExceptHandler} {l : List (Value × (Addr → Value → Option Addr → TS))} {pos : Pos} {tb : WX → TS} {Wout : WX}
/-- where an exception at a has landed in the running body -/
structure Landed (X : Cx) (pins : List (Addr × Obj)) (σ : St) (H : Hp) (B : Heap) (a : Addr) (cls : Value) (d : Option Addr) (sI s : Shared) (h : Heap) : Prop where
  J : Inv X pins σ H sI
  nb : ∀ b o, sI.heap.get? b = some o → b ∉ frs X.stack → B.get? b = some o
  up : sI.heap.UpToSlots h
  fl : HandSPX.FlyingZ B (X.env :: X.outer) a (Zc cls d) h
  na : H a = none
  os : s.os = sI.os
  ag : AllBare s.gens
  nL : a ≠ X.env.locals
  nF : a ∉ X.fs
theorem Landed.inv {pins : List (Addr × Obj)} {σ : St} {H : Hp} {B : Heap} {a : Addr} {cls : Value} {d : Option Addr} {sI s : Shared} {h : Heap} (L : Landed X pins σ H B a cls d sI s h) : Inv X pins σ H { s with heap := h } := L.J.landed L.nb L.fl.1 L.up L.os L.ag
theorem Landed.step {pins : List (Addr × Obj)} {σ : St} {H : Hp} {B : Heap} {a : Addr} {cls : Value} {d : Option Addr} {sI s : Shared} {h h' : Heap} (L : Landed X pins σ H B a cls d sI s h) (f : HandSPX.FlyingZ B (X.env :: X.outer) a (Zc cls d) h') (u : h.UpToSlots h') : Landed X pins σ H B a cls d sI s h' :=
  { J := L.J, nb := L.nb, up := L.up.trans u, fl := f, na := L.na, os := L.os, ag := L.ag, nL := L.nL, nF := L.nF }
/-- no clause is left: the exception goes on -/
theorem none_left {pins : List (Addr × Obj)} {σ : St} {H : Hp} {B : Heap} {a : Addr} {cls : Value} {d : Option Addr} {sI s : Shared} {h : Heap} {Q : Flow → Shared → Prop} (hs : X.stack = X.env :: X.outer) (hf : X.env.frame = some X.env.locals) (tk : Takes X Wout) (L : Landed X pins σ H B a cls d sI s h) (w : Wout cls d σ H) :
    wpAny (model X.prog X.w) X.A (handleBy (.ref a) X.env []) Q X.xe { s with heap := h } := by
  obtain ⟨_, _, _, oe, vs, T, oT, _, heap_a, _, dat, fld, _⟩ := id L.fl
  have thrown : wpAny (model X.prog X.w) X.A (setFlight (.ref a) X.env.frame) (fun _ s4 => wpAny (model X.prog X.w) X.A (throw (.ref a) : Sem Flow) Q X.xe s4) X.xe { s with heap := h } := by
    rw [hf]
    exact HandSPX.setFlight_upZ L.fl fun h4 held u4 => wpAny_throw (tk _ _ ⟨a, B, sI, pins, σ, H, cls, d, rfl, L.J, L.nb, L.up.trans u4, .inr (.inr (by rw [hs]; exact held)), L.na, L.os, L.ag, w⟩)
  refine wpAny_handleBy_nil ?_
  unfold PySem.passOn
  refine wpAny_bind (wpAny_field heap_a dat fld ?_)
  rw [if_neg (by simp : ¬ ((Value.ref T == Value.none) = true))]
  first | exact wpAny_bind thrown | exact wpAny_bind (wpAny_pure (wpAny_bind thrown))
/-- the clauses, one after the other -/
theorem by_clauses {pins : List (Addr × Obj)} {σ : St} {H : Hp} {B : Heap} {a : Addr} {cls : Value} {d : Option Addr} {sI s : Shared} {h : Heap} {D : Ends} (ok : X.Ok) (hs : X.stack = X.env :: X.outer) (hf : X.env.frame = some X.env.locals) (hN : X.N.Nodup) (hi : X.N[i]? = some n) (hln : X.env.kindOf n = some .local) (tk : Takes X Wout)
    (L : Landed X pins σ H B a cls d sI s h) (cs : Clauses X n hds l) (w : wAll X.K i Wout D l cls d σ H) : wpAny (model X.prog X.w) X.A (handleBy (.ref a) X.env hds) (SP X pins D) X.xe { s with heap := h } := by
  induction cs with
  | none => exact none_left hs hf tk L w
  | @more x c ts first rest p q hs2 l2 names suite tail ih =>
    obtain ⟨hit, isit, yes, no⟩ := w
    obtain ⟨oe, vs, there, zc, dat⟩ := L.fl.there
    have SU := L.inv.suite there dat L.na L.nL L.nF
    have known := PySem.W.exm_one (M := model X.prog X.w) L.inv.kIn (fun A Q E s k q => wpAny_typeOf_ref (k _ _ there) (by rw [zc.1]; exact q)) isit
    refine wpAny_handleBy_cons (codeAny_handlers_test ?_) (fun z => by cases z)
    have name : ∀ {Q : Value → Shared → Prop} {E : Value → Shared → Prop}, Q c { s with heap := h } → wpAny (model X.prog X.w) (X.A.mark (some (.ref a))) (eval (.Name x p) X.env) Q E { s with heap := h } := by
      intro Q E fine
      obtain ⟨g, dbg, m⟩ := names
      rcases m with m | ⟨m, b, nn⟩
      · exact ld_glob (X := X.suite a ((a, oe) :: (X.pn ++ pins))) SU g m fine dbg
      · exact ld_blt (X := X.suite a ((a, oe) :: (X.pn ++ pins))) SU g m b fine nn dbg
    refine name (known.here ?_)
    cases hit with
    | false => exact ih (no rfl)
    | true =>
      refine codeAny_handlers_suite_as (HandSPX.lands_againZ L.fl fun h2 fl2 up2 => ?_)
      have L2' := L.step fl2 up2
      obtain ⟨oe2, vs2, there2, zc2, dat2⟩ := fl2.there
      have SU2 := L2'.inv.suite there2 dat2 L.na L.nL L.nF
      refine store_ok (X := X.suite a ((a, oe2) :: (X.pn ++ pins))) (v := .ref a) SU2 hN hi (.inl hln) rfl (fun s5 SU5 => ?_) (.inr hln)
      refine wpAny_mono ((suite a oe2 cls d (X.pn ++ pins) zc2 ⟨_, dat2⟩).run [] s5 _ H (D.gone i) SU5 (yes rfl a L.na)) (fun f s6 done => ?_) (fun _ _ z => z.elim)
      have unbound : ∀ {σ6 : St} {H6 : Hp} {Q : Shared → Prop}, Inv (X.suite a ((a, oe2) :: (X.pn ++ pins))) [] σ6 H6 s6 → (∀ s7, Inv X pins (σ6.set i none) H6 s7 → Q s7) → wpAny (model X.prog X.w) X.A (do bindName X.env n .none; unbindBehindTheSuite X.env n q) (fun _ s7 => Q s7) X.xe s6 :=
        fun {σ6 H6 Q} S6 k => gone_ok (S6.unsuite ok) hN hi hln k
      cases f with
      | ret u =>
        obtain ⟨v6, σ6, H6, S6, r6, q6⟩ := done
        exact unbound S6 fun s7 J7 => ⟨v6, _, H6, J7, r6, q6⟩
      | next =>
        obtain ⟨σ6, H6, S6, q6⟩ := done
        exact unbound S6 fun s7 J7 => ⟨_, H6, J7, q6⟩
      | brk =>
        obtain ⟨σ6, H6, S6, q6⟩ := done
        exact unbound S6 fun s7 J7 => ⟨_, H6, J7, q6⟩
      | cont =>
        obtain ⟨σ6, H6, S6, q6⟩ := done
        exact unbound S6 fun s7 J7 => ⟨_, H6, J7, q6⟩
/-- try: body, except x as n: .., except y as n: .. -/
theorem ps_try_all (hs : X.stack = X.env :: X.outer) (hf : X.env.frame = some X.env.locals) (hN : X.N.Nodup) (hi : X.N[i]? = some n) (hln : X.env.kindOf n = some .local) (tk : Takes X Wout)
    (hb : ∀ (W : WX) (pn : List (Addr × Obj)) (xe : Value → Shared → Prop), Takes (X.tr pn xe) W → PassesOwn (model X.prog X.w) X.A X.env xe → PSs (X.tr pn xe) body (tb W))
    (cs : Clauses X n (h₀ :: hds) l) : PS X (.Try body (h₀ :: hds) [] [] pos) (fun D σ H => tb (wAll X.K i Wout D l) D σ H) := by
  refine ⟨fun pins s σ H D I want => wpAny_Try_except ?_⟩
  have ok := I.ok
  have frames : X.A.frames = some (X.env :: X.outer) := by rw [ok.frames, hs]
  have B0 := hb (wAll X.K i Wout D l) (X.pn ++ pins) (fun e s₁ => wpAny (model X.prog X.w) X.A (noteFrame e X.env) (fun _ s₂ => wpAny (model X.prog X.w) X.A (setFlight e none) (fun _ s₃ => wpAny (model X.prog X.w) X.A (handleBy e X.env (h₀ :: hds)) (SP X pins D) X.xe s₃) X.xe s₂) X.xe s₁)
    (by
      rintro u s' ⟨a, B, sI, pins', σ', H', cls, d, rfl, J', nb, up, sky, na, os, ag, w⟩
      have J : Inv X pins σ' H' sI := J'.ofTry ok
      rw [show X.stack = X.env :: X.outer from hs] at sky
      refine Sky.land Zc.steady frames hf sky fun h3 fl3 up3 => ?_
      obtain ⟨oe, vs, there, _, dat⟩ := fl3.there
      have off : a ∉ frs (X.env :: X.outer) := fun z => by
        obtain ⟨_, o, e, bad⟩ := fl3.2.2.1.mem z
        rw [there] at e
        cases e
        exact bad _ dat
      refine by_clauses ok hs hf hN hi hln tk ⟨J, nb, up.trans up3, fl3, na, os, ag, fun z => off (List.mem_filterMap.mpr ⟨X.env, List.mem_cons_self, by rw [hf, z]⟩), fun z => ?_⟩ cs w
      obtain ⟨e, he, q⟩ := List.mem_filterMap.mp z
      exact off (List.mem_filterMap.mpr ⟨e, List.mem_cons_of_mem _ he, q⟩))
    PassesOwn.looking
  refine wpAny_mono (B0.run [] s σ H D (I.toTry _) want) (fun f s1 done => ?_) (fun _ _ z => z)
  cases f with
  | ret u =>
    obtain ⟨v, σ1, H1, J1, r1, q1⟩ := done
    exact ⟨v, σ1, H1, J1.ofTry ok, r1, q1⟩
  | next =>
    obtain ⟨σ1, H1, J1, q1⟩ := done
    exact wpAny_execs_nil ⟨σ1, H1, J1.ofTry ok, q1⟩
  | brk =>
    obtain ⟨σ1, H1, J1, q1⟩ := done
    exact ⟨σ1, H1, J1.ofTry ok, q1⟩
  | cont =>
    obtain ⟨σ1, H1, J1, q1⟩ := done
    exact ⟨σ1, H1, J1.ofTry ok, q1⟩
end
end L2

set_option Elab.async false
set_option linter.all false
set_option maxRecDepth 100000
set_option maxHeartbeats 2000000
/-! isinstance of a caught error of the text that has fields. -/
namespace L2
open PySem PySem.Spec PyProof.Rows
/-- isinstance(e, c), e the exception (its class cls, its dict d) that the suite holds -/
def rIsX (K : PySem.W.Frag) (D a : Addr) (cls : Value) (d : Option Addr) : List V → Hp → VK → Prop := fun xs H Q => ∃ (c : V) (cv : Value) (b : Bool) (dd : Addr) (fs : List (Str × V)), xs = [.ref a, c] ∧ cls = .ref D ∧ d = some dd ∧ (∀ u, RelV c u → u = cv) ∧ PySem.W.kitOne K (.ref D) cv = some b ∧ H dd = some (.xd fs) ∧ Q (.bl b) H
theorem call_isX {X : Cx} {a D : Addr} {cls : Value} {d : Option Addr} {oe : Obj} {pn : List (Addr × Obj)} (C : ExcC X.K D) (hz : Zc cls d oe) (hf : ∃ vs, oe.data = .fields vs) : CallR (X.suite a ((a, oe) :: pn)) (.builtin "isinstance") (rIsX X.K D a cls d) := by
  intro pins s σ H xs us Q I r h
  obtain ⟨c, cv, b, dd, fs, rfl, ec, ed, hcv, e, hd, q⟩ := h
  subst ec ed
  obtain ⟨u1, u2, rfl, r1, r2⟩ := vals2 r
  cases (show u1 = Value.ref a from r1)
  have e2 := hcv _ r2
  subst e2
  obtain ⟨there, _⟩ := I.pin (a, oe) (List.mem_append_left _ List.mem_cons_self)
  obtain ⟨vs, dat⟩ := hf
  obtain ⟨mA, hns, _⟩ := (show ObjOk X.prog X.w H s.heap dd (.xd fs) from I.hok dd _ hd)
  obtain ⟨od, ho, _⟩ := lookIn_ns hns
  have J : PySem.W.InstAt s.heap a oe D (some od) := ⟨there, hz.1, by unfold PySem.W.notCls; rw [dat] <;> rfl, by rw [hz.2]; exact ho⟩
  have hc : (PySem.W.clsIn X.K D).isSome = true := by
    obtain ⟨cd, hc, _⟩ := PySem.W.any_some C.hd
    rw [hc]
    rfl
  exact PySem.W.kia_one (PySem.W.kitx_exc (od := some od) hc C.hg C.hk C.hs C.ha C.hn C.ht C.hm) I.kIn J e (fun z => nomatch z) fun tk => ⟨.bl b, H, I.kept (t' := tk) fun _ _ z => z, rfl, q⟩
end L2

set_option Elab.async false
set_option linter.all false
set_option maxRecDepth 100000
set_option maxHeartbeats 4000000
namespace Toy
open PySem PySem.Spec PyProof.Rows L2 StX DL
def clsS (i j : Nat) : Stmt := match topS i with
  | .ClassDef _ _ _ body _ _ _ _ _ _ _ => body.getD j (.Pass ⟨0, 0, 0, 0⟩)
  | _ => .Pass ⟨0, 0, 0, 0⟩

abbrev s_Study_init : Stmt := clsS 52 0
abbrev N_sc_Study_init : List Str := ["self", "part"]
theorem sc_Study_init : FnScope N_sc_Study_init ["self", "part"] (defScope s_Study_init) := ⟨rfl, rfl, rfl, by decide +kernel, rfl, by decide +kernel, by decide +kernel⟩
abbrev s_Reader_init : Stmt := clsS 74 0
abbrev N_sc_Reader_init : List Str := ["self", "part"]
theorem sc_Reader_init : FnScope N_sc_Reader_init ["self", "part"] (defScope s_Reader_init) := ⟨rfl, rfl, rfl, by decide +kernel, rfl, by decide +kernel, by decide +kernel⟩
theorem pe_fldK (K : PySem.W.Frag) {X : Cx} {e : Expr} {f : Str} {pos : Pos} {ta : TE} (he : PE X e ta) (hb : attributeBase e f X.env (eval e X.env) = eval e X.env) (h : X.K = K := by rfl) : PE X (.Attribute e f pos) (tFld K ta f) := h ▸ pe_fld he hb
theorem ps_fldK (K : PySem.W.Frag) {X : Cx} {o value : Expr} {f : Str} {pos pos' : Pos} {ta tv : TE} (ha : PE X o ta) (hv : PE X value tv) (hs : swapsWith value (some (.Attribute o f pos')) pos.line X.env = pure false) (h : X.K = K := by rfl) : PS X (.Assign [.Attribute o f pos'] value pos) (sFld K ta tv f) := h ▸ ps_fld ha hv hs
theorem passN {X : Cx} {W : WX} {m : Nat} (tk : Takes X W) (hm : X.N.length = m) : Passes (L2.CX X.prog X.w) X (fun cls d H => ∀ σ' : L2.St, σ'.length = m → W cls d σ' H) := fun _ σ _ _ e s' I c => tk e s' (XE.of_call I (fun _ _ _ h => h σ (I.len.trans hm)) c)

theorem W_grow {B O H : Hp} {p : Addr} {u : HO} (w : W B O H) (h : H p = none) : W B O (upd H p u) := ⟨fun a o e => by rw [upd_ne (ne_of_none (w.b a o e) h)]; exact w.b a o e, fun a o e => by rw [upd_ne (ne_of_none (w.o a o e) h)]; exact w.o a o e, w.d⟩
theorem W_less {B O O' H : Hp} (w : W B O H) (e : Ex O' O) : W B O' H := ⟨w.b, fun a o h => w.o a o (e a o h), fun a => by
  rcases w.d a with h | h
  · exact .inl h
  · exact .inr (none_of_ex e h)⟩
/-- what is owned at x stands still from now on; all else that came is let go -/
theorem W_give {B O O1 H : Hp} {x : Addr} {u : HO} (w : W B O1 H) (h : O1 x = some u) (hs : Ex O O1) (hx : O x = none) : W (upd B x u) O H := by
  refine ⟨fun a o e => ?_, fun a o e => w.o a o (hs a o e), fun a => ?_⟩
  · by_cases ha : a = x
    · subst ha
      rw [upd_same] at e
      rw [← e]
      exact w.o _ _ h
    · rw [upd_ne ha] at e
      exact w.b a o e
  · by_cases ha : a = x
    · subst ha
      exact .inr hx
    · rw [upd_ne ha]
      rcases w.d a with h | h
      · exact .inl h
      · exact .inr (none_of_ex hs h)
section
variable {K : PySem.W.Frag} {B O : Hp} {G : List SD} {σ : L2.St} {H : Hp} {te : TE} {D : Ends} {tz : TS} {d : PyData} {i : Nat} {x dx C : Addr} {fs : List (Str × V)} {f : Str} {v : V} {Pp : Hp → V → Prop}
/-- self.f = e, self owned -/
theorem s_fldP (c : Cls K C) (n : NoAttr K C f) (s : Sta K B O G σ H) (hg : G[i]? = some (.val (.ref x))) (ho : O x = some (.ins C dx fs)) (hl : fs.length < 1000) (h : EvP K B O G te Pp)
    (k : ∀ v B' H', Ex B B' → Pp B' v → Sta K B' (upd O x (.ins C dx (putF f v fs))) G σ H' → D.nx σ H') : sFld K (tVar i) te f D σ H := by
  refine h B O σ H (Ex.refl _) (Ex.refl _) s _ fun v B' H' e w pv => ?_
  obtain ⟨sv, h1, h2⟩ := s.s.get hg
  have h3 : sv = some (.ref x) := h2
  subst h3
  exact ⟨_, h1, x, C, dx, fs, rfl, w.o _ _ ho, c, n, hl, k v B' _ e pv ⟨w.mut ho, s.s.ex e⟩⟩
theorem q_fldP (c : Cls K C) (n : NoAttr K C f) (s : Sta K B O G σ H) (hg : G[i]? = some (.val (.ref x))) (ho : O x = some (.ins C dx fs)) (hl : fs.length < 1000) (h : EvP K B O G te Pp)
    (k : ∀ v B' H', Ex B B' → Pp B' v → Sta K B' (upd O x (.ins C dx (putF f v fs))) G σ H' → tz D σ H') : tSeq (sFld K (tVar i) te f) tz D σ H := s_fldP (D := { D with nx := tz D }) c n s hg ho hl h k
theorem evp_dat (h : EvD K B O G te d) : EvP K B O G te (fun B v => Dt K B v d) := h
theorem evp_new : EvP K B O G (fun _ H Q => ∀ d, H d = none → Q (.ref d) (upd H d (.dK []))) (fun _ _ => True) := fun B1 O1 σ H e o s Q q p hp => q _ B1 _ (Ex.refl _) (W_grow s.w hp) trivial
theorem ev_xfD {a C pp : Addr} {f : Str} (hg : G[i]? = some (.val (.ref a))) (hb : B pp = some (.xd [(f, v)])) (hv : Dt K B v d) : EvD K B O G (tXf a (.ref C) (some pp) C f (tVar i)) d := fun B1 O1 σ H e o st Q q => by
  obtain ⟨sv, h1, h2⟩ := st.s.get hg
  have h3 : sv = some (.ref a) := h2
  subst h3
  exact ⟨_, h1, rfl, rfl, pp, [(f, v)], v, rfl, st.w.b _ _ (e _ _ hb), by simp [List.lookup], q _ B1 H (Ex.refl _) st.w (dp_ex e _ _ hv)⟩
end
/-- v is a reader of the part d -/
def IsRd (K : PySem.W.Frag) (C : Addr) (d : PyData) (B : Hp) (v : V) : Prop := ∃ x dx fs pv, v = .ref x ∧ B x = some (.ins C dx fs) ∧ fs.lookup ("part" : Str) = some pv ∧ Dt K B pv d
theorem IsRd.ex {K : PySem.W.Frag} {C : Addr} {d : PyData} {B B' : Hp} {v : V} (h : IsRd K C d B v) (e : Ex B B') : IsRd K C d B' v := by
  obtain ⟨x, dx, fs, pv, h1, h2, h3, h4⟩ := h
  exact ⟨x, dx, fs, pv, h1, e _ _ h2, h3, dp_ex e _ _ h4⟩
def SpStudy (K : PySem.W.Frag) (C : Addr) : Sp := fun vs H Q _ => ∃ B O x dx v d, vs = [.ref x, v] ∧ O x = none ∧ O dx = none ∧ dx ≠ x ∧ W B (upd (upd O dx (.own x)) x (.ins C dx [])) H ∧ Dt K B v d ∧ ∀ B' H', Ex B B' → W B' O H' → Q .non H'
def RdOk (K : PySem.W.Frag) (B O : Hp) (CP CR x : Addr) (d : PyData) (Q : VK) (E : XK) : Prop := match PD.partErr d with
  | none => ∀ B' H', Ex B B' → W B' O H' → IsRd K CR d B' (.ref x) → Q .non H'
  | some p => ∀ pp v B' H', Ex B B' → W B' O H' → B' pp = some (.xd [(("path" : Str), v)]) → Dt K B' v (PD.encP p) → E (.ref CP) (some pp) H'
def SpInitRd (K : PySem.W.Frag) (CP CR : Addr) : Sp := fun vs H Q E => ∃ B O x dx v d, vs = [.ref x, v] ∧ O x = none ∧ O dx = none ∧ dx ≠ x ∧ W B (upd (upd O dx (.own x)) x (.ins CR dx [])) H ∧ Dt K B v d ∧ PD.npart 8 d ≤ 50000 ∧ RdOk K B O CP CR x d Q E
structure StC (P : Program) (w : World) (K : PySem.W.Frag) (mg : Str → Option Value) (base : Heap) (C : Addr) : Prop where
  g : mg "Study" = some (.ref C)
  made : ∃ fI fd, Mk K C fI ∧ FnOk P w K mg base CX0 4 fI fd ["self", "part"] (SpStudy K C) ∧ Binds K fd ["self", "part"] []
structure RdC (P : Program) (w : World) (K : PySem.W.Frag) (mg : Str → Option Value) (base : Heap) (CP C : Addr) : Prop where
  g : mg "Reader" = some (.ref C)
  cls : Cls K C
  nP : NoAttr K C "part"
  made : ∃ fI fd, Mk K C fI ∧ FnOk P w K mg base (L2.CX P w) 24 fI fd ["self", "part"] (SpInitRd K CP C) ∧ Binds K fd ["self", "part"] []
section
variable {P : Program} {w : World} {K : PySem.W.Frag} {mg : Str → Option Value} {base : Heap} {AD : Ads}

theorem ok_study {f C : Addr} {fd : FuncData} (T : Txt K mg AD) (cl : Cls K C) (n1 : NoAttr K C "part") (n2 : NoAttr K C "layouts") (n3 : NoAttr K C "tables") (n4 : NoAttr K C "efforts") (F : Fun K "__init__" "Study.__init__" s_Study_init f fd) : FnOk P w K mg base CX0 4 f fd ["self", "part"] (SpStudy K C) := by
  refine (F.ok (k := 3) sc_Study_init (fun vs H Q E h => ?_) (fun cdv A outer s H vs Q E hr h => ?_))
  · obtain ⟨B, O, x, dx, v, d, rfl, _⟩ := h
    rfl
  obtain ⟨B, O, x, dx, v, d, rfl, hx, hdx, hne, hw, hd, q⟩ := h
  refine ⟨_, (pss_cons (ps_fldK K (pv 0) (pv 1) (by rfl))
    (pss_cons (ps_fldK K (pv 0) pe_dnewK (by rfl))
    (pss_cons (ps_fldK K (pv 0) pe_dnewK (by rfl))
    (pss_one (ps_fldK K (pv 0) pe_dnewK (by rfl)))))), ?_⟩
  have hOO : Ex O (upd (upd O dx (.own x)) x (.ins C dx [])) := (Ex.new hdx).trans (Ex.new (by rw [upd_ne (fun z => hne z.symm)]; exact hx))
  have ox : (upd (upd O dx (.own x)) x (.ins C dx [])) x = some (.ins C dx []) := upd_same
  generalize hO : upd (upd O dx (.own x)) x (.ins C dx []) = O1 at hw hOO ox
  have st : Sta K B O1 [.val (.ref x), .dat d] (L2.start N_sc_Study_init [.ref x, v]) H := ⟨hw, ⟨rfl, ⟨_, rfl, hd⟩, trivial⟩⟩
  refine q_fldP cl n1 st rfl ox (by decide) (evp_dat (ev_var rfl)) fun v1 B1 H1 x1 d1 st => ?_
  refine q_fldP cl n2 st rfl upd_same (by have := length_putF ("part" : Str) v1 []; simp at this; omega) evp_new fun v2 B2 H2 x2 _ st => ?_
  refine q_fldP cl n3 st rfl upd_same (by have := length_putF ("part" : Str) v1 []; have := length_putF ("layouts" : Str) v2 (putF ("part" : Str) v1 []); simp at *; omega) evp_new fun v3 B3 H3 x3 _ st => ?_
  refine s_fldP cl n4 st rfl upd_same (by have := length_putF ("part" : Str) v1 []; have := length_putF ("layouts" : Str) v2 (putF ("part" : Str) v1 []); have := length_putF ("tables" : Str) v3 (putF ("layouts" : Str) v2 (putF ("part" : Str) v1 [])); simp at *; omega) evp_new fun v4 B4 H4 x4 _ st => ?_
  refine q B4 H4 (((x1.trans x2).trans x3).trans x4) (W_less st.w fun a o e => ?_)
  have ha : a ≠ x := ne_of_none e hx
  rw [upd_ne ha, upd_ne ha, upd_ne ha, upd_ne ha]
  exact hOO a o e
theorem ok_reader {f CP CS C : Addr} {fd : FuncData} (T : Txt K mg AD) (C_check_part : CalE P w K mg base 22 "check_part" ["part"] (SpD K (R_chk CP))) (St : StC P w K mg base CS) (cl : Cls K C) (n1 : NoAttr K C "part") (n2 : NoAttr K C "study") (F : Fun K "__init__" "Reader.__init__" s_Reader_init f fd) : FnOk P w K mg base (L2.CX P w) 24 f fd ["self", "part"] (SpInitRd K CP C) := by
  obtain ⟨StG, fS, fdS, StM, StF, StB⟩ := St
  refine (F.okX (k := 23) sc_Reader_init (fun vs H Q E h => ?_) (fun cdv A outer s H vs Q E hr h => ?_))
  · obtain ⟨B, O, x, dx, v, d, rfl, _⟩ := h
    rfl
  obtain ⟨B, O, x, dx, v, d, rfl, hx, hdx, hne, hw, hd, hn, q⟩ := h
  refine ⟨_, (pss_cons (ps_expr (pe_calE C_check_part hr (by omega) (by rfl) (takes_of rfl rfl rfl rfl) (pa_cons (pv 1) pa_nil)))
    (pss_cons (ps_fldK K (pv 0) (pv 1) (by rfl))
    (pss_one (ps_fldK K (pv 0) (pe_make StM StF (hr.mono (by omega)) (by rfl) StG StB .nil pass0 (pa_cons (pv 1) pa_nil)) (by rfl))))), ?_⟩
  have hOO : Ex O (upd (upd O dx (.own x)) x (.ins C dx [])) := (Ex.new hdx).trans (Ex.new (by rw [upd_ne (fun z => hne z.symm)]; exact hx))
  have ox : (upd (upd O dx (.own x)) x (.ins C dx [])) x = some (.ins C dx []) := upd_same
  generalize hO : upd (upd O dx (.own x)) x (.ins C dx []) = O1 at hw hOO ox
  have st : Sta K B O1 [.val (.ref x), .dat d] (L2.start N_sc_Reader_init [.ref x, v]) H := ⟨hw, ⟨rfl, ⟨_, rfl, hd⟩, trivial⟩⟩
  unfold RdOk at q
  refine q_callD st (o := chkOut CP d) (ea_cons (ev_var rfl) ea_nil) ⟨d, hn, rfl, rfl⟩ (fun d1 hc B1 H1 x1 st => ?_) (fun C1 f1 d1 hc pp v1 B1 H1 x1 w1 hp hv => ?_)
  · unfold chkOut at hc
    cases he : PD.partErr d with
    | some p => rw [he] at hc; cases hc
    | none =>
    rw [he] at q
    refine q_fldP cl n1 st rfl ox (by decide) (evp_dat (ev_var rfl)) fun v2 B2 H2 x2 d2 st => ?_
    have l2 := length_putF ("part" : Str) v2 []
    refine s_fldP (Pp := fun _ _ => True) cl n2 st rfl upd_same (by simp at l2; omega) ?_ fun v3 B3 H3 x3 _ st => ?_
    · intro B5 O5 σ5 H5 e5 o5 s5 Q5 q5
      refine (ev_var (G := [.val (.ref x), .dat d]) (i := 1) rfl) B5 O5 σ5 H5 (Ex.refl _) (Ex.refl _) s5 _ fun v6 B6 H6 e6 w6 d6 y dy hy hdy hyd => ?_
      have hw6 := (w6.newO (u := .own y) hdy).newO (p := y) (u := .ins CS dy []) (by rw [upd_ne (fun z => hyd z.symm)]; exact hy)
      exact ⟨B6, O5, y, dy, v6, d, rfl, w6.fo hy, w6.fo hdy, hyd, hw6, d6, fun B7 H7 e7 w7 => ⟨rfl, q5 _ B7 H7 (e6.trans e7) w7 trivial⟩⟩
    · have hb := st.w.bnone upd_same
      have xn := Ex.new (o := .ins C dx (putF ("study" : Str) v3 (putF ("part" : Str) v2 []))) hb
      refine q _ H3 (((x1.trans x2).trans x3).trans xn) (W_give st.w upd_same (fun a o e => ?_) hx) ⟨x, dx, _, v2, rfl, upd_same, ?_, dp_ex (x3.trans xn) _ _ d2⟩
      · have ha : a ≠ x := ne_of_none e hx
        rw [upd_ne ha, upd_ne ha]
        exact hOO a o e
      · rw [lookup_putF, if_neg (by decide), lookup_putF, if_pos rfl]
  · unfold chkOut at hc
    cases he : PD.partErr d with
    | none => rw [he] at hc; cases hc
    | some p =>
      rw [he] at q hc
      cases hc
      exact q pp v1 B1 H1 x1 (W_less w1 hOO) hp hv
end
end Toy

set_option Elab.async false
set_option linter.all false
set_option maxRecDepth 100000
set_option maxHeartbeats 4000000
namespace Toy
open PySem PySem.Spec PyProof.Rows L2 StX DL
section
variable {P : Program} {w : World} {K : PySem.W.Frag} {mg : Str → Option Value} {base : Heap} {AD : Ads}


/-- a draw: any number below the count, the pool goes on -/
def PreDraw (gs : List SD) (_ O : Hp) (R : PyData → Hp → Prop) : Prop := ∃ p n, gs = [.val (.ref p), .dat (.int n)] ∧ PoolAt O p ∧ 0 < n ∧ n < 1000000 ∧ R = fun d O' => ∃ r, d = .int r ∧ 0 ≤ r ∧ r < n ∧ Mv p O O'
theorem ok_law_draw {f : Addr} {fd : FuncData} (T : Txt K mg AD) (a : At K mg "_law_draw" s_law_draw ["pool", "count"] f fd) : FnOk P w K mg base CX0 2 f fd ["pool", "count"] (SpX K PreDraw) := by
  refine ok_fnX a.fn sc_law_draw (by rintro gs B O R ⟨p, n, rfl, _⟩; rfl) fun cdv A outer s H0 E hr => ?_
  refine ⟨_, (pss_cons (ps_if (pt_cmpR op_gt (pe_ix (ix_listK K) (pv 0) pe_int (fun _ _ => rfl)) pe_int (nomark _)) (pss_cons (ps_set (i := 2) sc_law_draw.nd rfl (Or.inl rfl) (pe_op op_mod (pe_callTy call_int1 (by rfl) T.b_int (by decide +kernel) (pa_cons (pe_ix (ix_listK K) (pv 0) pe_int (fun _ _ => rfl)) pa_nil)) (pv 1)))
    (pss_cons (ps_asg (pe_op op_fdiv (pe_callTy call_int1 (by rfl) T.b_int (by decide +kernel) (pa_cons (pe_ix (ix_listK K) (pv 0) pe_int (fun _ _ => rfl)) pa_nil)) (pv 1)) (pg_sub (pv 0) pe_int set_list))
    (pss_one (ps_ret (pv 2))))) pss_nil)
    (pss_cons (ps_asg (pe_op op_mod (pe_callTy call_int1 (by rfl) T.b_int (by decide +kernel) (pa_cons (pe_op op_add (pe_op op_mul (pe_ix (ix_listK K) (pv 0) pe_int (fun _ _ => rfl)) pe_int) pe_int) pa_nil)) pe_int) (pg_sub (pv 0) pe_int set_list))
    (pss_one (ps_ret (pe_op op_mod (pe_callTy call_int1 (by rfl) T.b_int (by decide +kernel) (pa_cons (pe_op op_fdiv (pe_op op_mod (pe_callTy call_int1 (by rfl) T.b_int (by decide +kernel) (pa_cons (pe_op op_mul (pe_ix (ix_listK K) (pv 0) pe_int (fun _ _ => rfl)) (pe_ix (ix_listK K) (pv 0) pe_int (fun _ _ => rfl))) pa_nil)) pe_int) pe_int) pa_nil)) (pv 1)))))), ?_⟩
  rintro gs B O R σ H Q ⟨p, n, rfl, ⟨x, y, ep, hy0, hy1⟩, hn0, hn1, rfl⟩ st q
  have dv : ∀ {B' : Hp}, DtAll K B' [V.int x, V.int y] [.int x, .int y] := fun {B'} => ints_dps [x, y]
  refine q_when st (et_test (ev_op (ev_ixO rfl ep dv ev_int at0) ev_int rd_B0)) (fun h1 B1 H1 x1 st => ?_) (fun h1 B1 H1 x1 st => ?_)
  · have hx : 0 < x := by simpa using h1
    refine q_asg st (ev_op (ev_cb (ea_cons (ev_ixO rfl ep dv ev_int at0) ea_nil) rc_intI) (ev_var rfl) (rd_I hn0)) fun v2 B2 H2 x2 d2 st => ?_
    refine q_setO st rfl ep (ev_op (ev_cb (ea_cons (ev_ixO rfl ep dv ev_int at0) ea_nil) rc_intI) (ev_var rfl) (rd_I ⟨hn0, by omega⟩)) ev_int (j := 0) (by rfl) fun v3 B3 H3 x3 d3 st => ?_
    rw [dp_int d3] at st
    refine s_ret st (ev_var rfl) fun v4 B4 H4 x4 w4 d4 => ?_
    refine q v4 _ B4 _ H4 (((x1.trans x2).trans x3).trans x4) ⟨x % n, rfl, Int.emod_nonneg _ (by omega), Int.emod_lt_of_pos _ hn0, ⟨x / n, y, upd_same, hy0, hy1⟩, fun a ha => upd_ne ha⟩ w4 d4
  · refine q_setO st rfl ep (ev_op (ev_cb (ea_cons (ev_op (ev_op (ev_ixO rfl ep dv ev_int at1) ev_int (rd_I (.inr ⟨by decide, by decide⟩))) ev_int rd_I0) ea_nil) rc_intI) ev_int (rd_I (by decide))) ev_int (j := 1) (by rfl) fun v3 B3 H3 x3 d3 st => ?_
    rw [dp_int d3] at st
    have hz0 : 0 ≤ (y * 48271 + 11) % 2147483647 := Int.emod_nonneg _ (by decide)
    have hz1 : (y * 48271 + 11) % 2147483647 < 2147483647 := Int.emod_lt_of_pos _ (by decide)
    generalize (y * 48271 + 11) % 2147483647 = z at st hz0 hz1
    have st' : Sta K B3 (upd O p (.lst [.int x, .int z])) _ _ _ := st
    have dz : ∀ {B' : Hp}, DtAll K B' [V.int x, V.int z] [.int x, .int z] := fun {B'} => ints_dps [x, z]
    refine s_ret st' (ev_op (ev_cb (ea_cons (ev_op (ev_op (ev_cb (ea_cons (ev_op (ev_ixO rfl upd_same dz ev_int at1) (ev_ixO rfl upd_same dz ev_int at1) (rd_I (.inl ⟨by omega, by omega⟩))) ea_nil) rc_intI) ev_int (rd_I (by decide))) ev_int (rd_I ⟨by decide, by decide⟩)) ea_nil) rc_intI) (ev_var rfl) (rd_I hn0)) fun v4 B4 H4 x4 w4 d4 => ?_
    exact q v4 _ B4 _ H4 ((x1.trans x3).trans x4) ⟨_, rfl, Int.emod_nonneg _ (by omega), Int.emod_lt_of_pos _ hn0, ⟨x, z, upd_same, hz0, hz1⟩, fun a ha => upd_ne ha⟩ w4 d4


theorem ev_lenS {B O : Hp} {G : List SD} {i : Nat} {a : Addr} {xs : List V} (hg : G[i]? = some (.val (.ref a))) (hs : SqL K B a xs) : EvD K B O G (tCB (fun xs H Q => ∃ p ys, xs = [.ref p] ∧ (SqL K H p ys ∨ SqT K H p ys) ∧ Q (.int ys.length) H) (tCons (tVar i) tNil)) (.int xs.length) := fun B1 O1 σ H e o s Q q => by
  obtain ⟨sv, h1, h2⟩ := s.s.get hg
  have h3 : sv = some (.ref a) := h2
  subst h3
  exact ⟨_, h1, a, xs, rfl, .inl (sl_ex (e.trans s.w.b) hs), q _ B1 H (Ex.refl _) s.w (.int _)⟩
theorem ev_ixS {B O : Hp} {G : List SD} {i : Nat} {a : Addr} {ns : List Int} {tb : TE} {k z : Int} (hg : G[i]? = some (.val (.ref a))) (hs : SqL K B a (ns.map V.int)) (hb : EvD K B O G tb (.int k)) (h : atI ns k = some z) : EvD K B O G (tOp (rIxL K) (tVar i) tb) (.int z) := fun B1 O1 σ H e o s Q q => by
  obtain ⟨sv, h1, h2⟩ := s.s.get hg
  have h3 : sv = some (.ref a) := h2
  subst h3
  refine ⟨_, h1, ?_⟩
  refine hb B1 O1 σ H e o s _ fun v B2 H2 e2 w2 d2 => ?_
  rw [dp_int d2]
  refine ⟨a, ns.map V.int, k, .int z, rfl, rfl, sl_ex ((e.trans e2).trans w2.b) hs, ?_, q _ B2 H2 e2 w2 (.int _)⟩
  unfold atI at h ⊢
  rw [List.length_map]
  cases hj : ixN ns.length k with
  | none => rw [hj] at h; cases h
  | some j =>
    rw [hj] at h
    have h' : ns[j]? = some z := h
    show (ns.map V.int)[j]? = _
    rw [List.getElem?_map, h']
    rfl
def SpPool (K : PySem.W.Frag) : Sp := fun vs H Q _ => ∃ (B O : Hp) (a : Addr) (ns : List Int) (k : Int), W B O H ∧ vs = [.ref a, .int k] ∧ SqL K B a (ns.map V.int) ∧ ns.length ≤ 63 ∧ 0 ≤ k ∧ k ≤ 63 ∧
  ∀ (p : Addr) (x y : Int) (B' H' : Hp), Ex B B' → O p = none → 0 ≤ y → y < 2147483647 → W B' (upd O p (.lst [.int x, .int y])) H' → Q (.ref p) H'
theorem ok_law_pool {f : Addr} {fd : FuncData} (T : Txt K mg AD) (a : At K mg "_law_pool" s_law_pool ["script", "k"] f fd) : FnOk P w K mg base CX0 2 f fd ["script", "k"] (SpPool K) := by
  refine a.fn.ok sc_law_pool (fun vs H Q E h => ?_) (fun cdv A outer s H vs Q E hr h => ?_)
  · obtain ⟨B, O, a, ns, k, _, rfl, _⟩ := h
    rfl
  · obtain ⟨B, O, a, ns, k, hw, rfl, hs, hl, hk0, hk1, q⟩ := h
    refine ⟨_, (pss_cons (ps_set (i := 2) sc_law_pool.nd rfl (Or.inl rfl) pe_int)
    (Evl.pss_cut (ps_if (pt_cmpR op_lt (pv 1) (pe_callB (call_lenK K) (by rfl) T.b_len PySem.boot_len (pa_cons (pv 0) pa_nil)) (nomark _)) (pss_one (ps_set (i := 2) sc_law_pool.nd rfl (Or.inl rfl) (pe_ix (ix_listK K) (pv 0) (pv 1) (fun _ _ => rfl)))) pss_nil)
    (pss_cons (ps_set (i := 3) sc_law_pool.nd rfl (Or.inl rfl) (pe_callB call_abs (by rfl) T.b_abs (by decide +kernel) (pa_cons (pv 2) pa_nil)))
    (pss_cons (ps_set (i := 4) sc_law_pool.nd rfl (Or.inl rfl) (pe_op op_mod (pe_op op_mul (pe_op op_add (pe_op op_add (pe_op op_mod (pv 3) pe_int) (pe_op op_mul pe_int (pv 1))) pe_int) pe_int) pe_int))
    (pss_one (ps_ret (pe_lst (pa_cons (pe_op op_mul (pv 3) (pe_callTy call_int1 (by rfl) T.b_int (by decide +kernel) (pa_cons (pe_cmpR op_ge (pv 3) (pe_op op_pow pe_int pe_int) (nomark _)) pa_nil))) (pa_cons (pv 4) pa_nil))))))))), ?_⟩
    have st : Sta K B O [.val (.ref a), .dat (.int k), .un, .un, .un] (L2.start N_sc_law_pool [.ref a, .int k]) H := ⟨hw, ⟨rfl, ⟨_, rfl, .int k⟩, trivial, trivial, trivial, trivial⟩⟩
    refine q_asg st ev_int fun v1 B1 H1 x1 d1 st => ?_
    refine ⟨fun σ' H' => ∃ B' c, Ex B B' ∧ Sta K B' O [.val (.ref a), .dat (.int k), .dat (.int c), .un, .un] σ' H', ?_, ?_⟩
    · refine s_if st (et_test (ev_op (ev_var rfl) (ev_lenS rfl (sl_ex x1 hs)) rd_B0)) (fun h B2 H2 x2 st => ?_) (fun h B2 H2 x2 st => ?_)
      · have hlt : k < ns.length := by simpa using h
        have hk : ns[k.toNat]? = some ns[k.toNat] := List.getElem?_eq_getElem (by omega)
        refine s_asg st (ev_ixS rfl (sl_ex (x1.trans x2) hs) (ev_var rfl) (at_nn hk0 hk)) fun v3 B3 H3 x3 d3 st => ?_
        exact ⟨B3, _, (x1.trans x2).trans x3, st⟩
      · exact ⟨B2, 0, x1.trans x2, st⟩
    rintro σ2 H2 ⟨B2, c, x2, st⟩
    refine q_asg st (ev_cb (ea_cons (ev_var rfl) ea_nil) rc_abs) fun v3 B3 H3 x3 d3 st => ?_
    generalize (if c < 0 then -c else c) = z at st
    refine q_asg st (ev_op (ev_op (ev_op (ev_op (ev_op (ev_var rfl) ev_int (rd_I (by decide))) (ev_op ev_int (ev_var rfl) (rd_I (.inl ⟨by decide, by decide⟩))) rd_I0) ev_int rd_I0) ev_int (rd_I (.inr ⟨by decide, by decide⟩))) ev_int (rd_I (by decide))) fun v4 B4 H4 x4 d4 st => ?_
    have hy0 : 0 ≤ (z % 2147483629 + 7919 * k + 31) * 48271 % 2147483647 := Int.emod_nonneg _ (by decide)
    have hy1 : (z % 2147483629 + 7919 * k + 31) * 48271 % 2147483647 < 2147483647 := Int.emod_lt_of_pos _ (by decide)
    generalize (z % 2147483629 + 7919 * k + 31) * 48271 % 2147483647 = y at st hy0 hy1
    refine s_retL st (el_lst (ds := [.int _, .int y]) (ea_cons (ev_op (ev_var rfl) (ev_cb (ea_cons (ev_op (ev_var rfl) (ev_op ev_int ev_int (rd_I ⟨by decide, by decide, by decide⟩)) rd_B0) ea_nil) rc_intB) (rd_I (.inr (by split <;> decide)))) (ea_cons (ev_var rfl) ea_nil)) (by simp)) fun p ws B5 H5 x5 np w5 d5 => ?_
    have e := dps_ints (ns := [_, y]) d5
    subst e
    exact q p _ y B5 H5 (((x2.trans x3).trans x4).trans x5) np hy0 hy1 w5

end


theorem rd_eqB {a b : Bool} {K : PySem.W.Frag} : RD K rEq (.bool a) (.bool b) (.bool (a == b)) := rd_eqS rfl rfl rfl (by cases a <;> cases b <;> simp [fv])
def toldD (t : PyData) : PyData := match PD.partErr t with
  | some p => .list [.str "wrong", PD.encP p]
  | none => .list [.str "right", t]
def R_told (ds : List PyData) (d : PyData) : Prop := ∃ t, PD.npart 8 t ≤ 50000 ∧ ds = [t] ∧ d = toldD t
/-- what the law asks of a part -/
def chkB (t : PyData) (po : Option (List Int)) : Bool := t.canLay0 && (decide (t.depth ≤ 40) && (decide (PD.npart 8 t ≤ 50000) && decide (PD.partErr t = po)))
def R_is (ds : List PyData) (d : PyData) : Prop := ∃ t po, chkB t po = true ∧ ds = [t, encW po] ∧ d = .bool true
theorem chk_inv {t : PyData} {po : Option (List Int)} (h : chkB t po = true) : PT.Lay 40 t ∧ PD.npart 8 t ≤ 50000 ∧ PD.partErr t = po := by
  unfold chkB at h
  rw [Bool.and_eq_true, Bool.and_eq_true, Bool.and_eq_true, decide_eq_true_eq, decide_eq_true_eq, decide_eq_true_eq] at h
  exact ⟨⟨h.1, h.2.1⟩, h.2.2.1, h.2.2.2⟩
theorem lay_path {p : List Int} : PT.Lay 1 (PD.encP p) := PT.lay_tup (n := 0) fun d hd => by
  obtain ⟨i, _, rfl⟩ := List.mem_map.mp hd
  exact PT.lay_int
theorem lay_pair {n : Nat} {x : Str} {d : PyData} (hx : PyData.strOk x = true) (h : PT.Lay n d) : PT.Lay (n + 1) (.list [.str x, d]) := PT.lay_lst fun e he => by
  have : e = .str x ∨ e = d := by simpa using he
  rcases this with rfl | rfl
  · exact PT.lay_good (PT.good_str hx)
  · exact h
theorem lay_told {t : PyData} (h : PT.Lay 40 t) : PT.Lay 41 (toldD t) := by
  unfold toldD
  split
  · exact (lay_pair (by decide +kernel) lay_path).mono (by decide)
  · exact lay_pair (by decide +kernel) h
theorem s_makeRd {K : PySem.W.Frag} {B O : Hp} {G : List SD} {σ : L2.St} {H : Hp} {D : Ends} {ta : TE} {t : PyData} {CP CR : Addr} {E : XK} {i : Nat} (st : Sta K B O G σ H) (h : EvD K B O G ta t) (hn : PD.npart 8 t ≤ 50000)
    (k1 : PD.partErr t = none → ∀ v B' H', Ex B B' → IsRd K CR t B' v → Sta K B' O (G.set i (.val v)) (σ.set i (some v)) H' → D.nx (σ.set i (some v)) H')
    (k2 : ∀ p, PD.partErr t = some p → ∀ pp v B' H', Ex B B' → W B' O H' → B' pp = some (.xd [(("path" : Str), v)]) → Dt K B' v (PD.encP p) → E (.ref CP) (some pp) H') : tAsg (tMake CR (SpInitRd K CP CR) [] E (tCons ta tNil)) (gName i) D σ H := by
  refine h B O σ H (Ex.refl _) (Ex.refl _) st _ fun v B1 H1 x1 w1 d1 x dx hx hdx hne => ?_
  have hw := (w1.newO (u := .own x) hdx).newO (p := x) (u := .ins CR dx []) (by rw [upd_ne (fun z => hne z.symm)]; exact hx)
  refine ⟨B1, O, x, dx, v, t, rfl, w1.fo hx, w1.fo hdx, hne, hw, d1, hn, ?_⟩
  unfold RdOk
  cases he : PD.partErr t with
  | none => exact fun B2 H2 x2 w2 hrd => ⟨rfl, k1 he _ B2 H2 (x1.trans x2) hrd ((st.ex (x1.trans x2) w2).setV i)⟩
  | some p => exact fun pp v2 B2 H2 x2 w2 hp hv => k2 p he pp v2 B2 H2 (x1.trans x2) w2 hp hv
theorem slots_three {K : PySem.W.Frag} {σ : L2.St} {B : Hp} {a : Addr} (h : σ.length = 3) : Slots K B (σ.set 2 (some (.ref a))) [.un, .un, .val (.ref a)] := by
  match σ, h with
  | [x, y, z], _ => exact ⟨trivial, trivial, rfl, trivial⟩
section
variable {P : Program} {w : World} {K : PySem.W.Frag} {mg : Str → Option Value} {base : Heap} {AD : Ads}

theorem ok_law_told {f CP CR : Addr} {fd : FuncData} (T : Txt K mg AD) (Rd : RdC P w K mg base CP CR) (Er_NoPart : ErrC P w K mg base "NoPart" CP "path") (nn : PySem.W.exmOne K (.ref CP) (.ref CP) = some true) (a : At K mg "_law_told" s_law_told ["part"] f fd) : FnOk P w K mg base CX0 28 f fd ["part"] (SpR K R_told) := by
  obtain ⟨RdG, cl, nP, fR, fdR, RdM, RdF, RdB⟩ := Rd
  refine ok_fn a.fn sc_law_told (by rintro ds d ⟨t, _, rfl, _⟩; rfl) fun cdv A outer s H0 E hr ds d ⟨t, hn, e1, e2⟩ => ?_
  subst e1 e2
  refine ⟨_, (pss_cons (ps_try_all (i := 2) rfl rfl sc_law_told.nd rfl rfl takes0 (fun W pn xe tk _ => (pss_one (ps_set (i := 1) sc_law_told.nd rfl (Or.inl rfl) (pe_make RdM RdF (hr.mono (by omega)) (by rfl) RdG RdB .nil (passN (m := 3) tk (by rfl)) (pa_cons (pv 0) pa_nil))))) (Clauses.more ⟨by rfl, by decide, .inl Er_NoPart.g⟩ (fun a oe cls d pn hz hf => (pss_one (ps_ret (pe_lst (pa_cons pe_str (pa_cons (pe_xf Er_NoPart.X Er_NoPart.no hz hf (pv 2)) pa_nil)))))) Clauses.none))
    (pss_one (ps_ret (pe_lst (pa_cons pe_str (pa_cons (pe_fldK K (pv 1) rfl) pa_nil)))))), fun B O σ H Q st q => ?_⟩
  unfold toldD at q
  refine s_makeRd st (ev_var rfl) hn (fun he v B2 H2 x2 hrd st => ?_) (fun p he pp v2 B2 H2 x2 w2 hp hv σ' hσ => ⟨true, nn, fun _ a ha => ?_, fun z => Bool.noConfusion z⟩)
  · rw [he] at q
    refine s_ret st (ev_lst (ea_cons ev_str (ea_cons (ev_fld (P := IsRd K CR t) cl nP (evP_var rfl fun B3 e3 => hrd.ex e3) fun B3 u e3 hu => ?_) ea_nil)) (by simp)) fun v3 B3 H3 x3 w3 d3 => q v3 B3 H3 (x2.trans x3) w3 d3
    obtain ⟨y, dy, fs, pv, h1, h2, h3, h4⟩ := hu
    exact ⟨y, dy, fs, pv, h1, h2, h3, h4⟩
  · rw [he] at q
    have st2 : Sta K B2 O [.un, .un, .val (.ref a)] (σ'.set 2 (some (.ref a))) H2 := ⟨w2, slots_three hσ⟩
    exact s_ret st2 (ev_lst (ea_cons ev_str (ea_cons (ev_xfD (i := 2) rfl hp hv) ea_nil)) (by simp)) fun v3 B3 H3 x3 w3 d3 => q v3 B3 H3 (x2.trans x3) w3 d3
theorem ok_law_is {f : Addr} {fd : FuncData} (T : Txt K mg AD) (C_is_part : Cal P w K mg base 15 "is_part" ["thing"] (SpR K R_isp)) (C_law_told : Cal P w K mg base 28 "_law_told" ["part"] (SpR K R_told)) (a : At K mg "_law_is" s_law_is ["part", "path"] f fd) : FnOk P w K mg base CX0 30 f fd ["part", "path"] (SpR K R_is) := by
  refine ok_fn a.fn sc_law_is (by rintro ds d ⟨t, po, _, rfl, _⟩; rfl) fun cdv A outer s H0 E hr ds d ⟨t, po, hc, e1, e2⟩ => ?_
  subst e1 e2
  obtain ⟨hl, hn, hp⟩ := chk_inv hc
  refine ⟨_, (pss_cons (ps_set (i := 2) sc_law_is.nd rfl (Or.inl rfl) (pe_ifExp (pt_cmpR op_isN (pv 1) pe_non (nomark _)) (pe_lst (pa_cons pe_str (pa_cons (pv 0) pa_nil))) (pe_lst (pa_cons pe_str (pa_cons (pv 1) pa_nil)))))
    (pss_one (ps_ret (pe_and (pe_cmpR op_eq (pe_cal C_is_part hr (by omega) (by rfl) (pa_cons (pv 0) pa_nil)) (pe_cmpR op_isN (pv 1) pe_non (nomark _)) (nomark _)) (pe_one (pe_cmpR (op_eqDK K hr.units) (pe_cal C_law_told hr (by omega) (by rfl) (pa_cons (pv 0) pa_nil)) (pv 2) (nomark _))))))), fun B O σ H Q st q => ?_⟩
  refine q_asg st (d := toldD t) ?_ fun v2 B2 H2 x2 d2 st => ?_
  · unfold toldD
    rw [hp]
    cases po with
    | none => exact ev_if (b := true) (et_test (ev_isNone (d := encW none) (ev_var (i := 1) rfl) ev_non rfl)) (fun _ => ev_lst (ea_cons ev_str (ea_cons (ev_var rfl) ea_nil)) (by simp)) (fun z => Bool.noConfusion z)
    | some p => exact ev_if (b := false) (et_test (ev_isNone (d := encW (some p)) (ev_var (i := 1) rfl) ev_non rfl)) (fun z => Bool.noConfusion z) (fun _ => ev_lst (ea_cons ev_str (ea_cons (ev_is (d := encW (some p)) (ev_var (i := 1) rfl) rfl) ea_nil)) (by simp))
  · refine s_ret st (ev_andV (a := true) (b := true) (ev_is (ev_op (ev_call (ea_cons (ev_var rfl) ea_nil) ⟨t, hn, rfl, rfl⟩) (ev_isNone (d := encW po) (b := po.isNone) (ev_var (i := 1) rfl) ev_non (by cases po <;> rfl)) rd_eqB) (by rw [PD.isPart_err, hp]; cases po <;> rfl)) fun _ => ev_op (ev_call (ea_cons (ev_var rfl) ea_nil) ⟨t, hn, rfl, rfl⟩) (ev_var rfl) (rd_eq ((lay_told hl).sh (by decide)) ((lay_told hl).sh (by decide)) (PySem.SeqAt.eqv_refl _ (lay_told hl).1))) fun v3 B3 H3 x3 w3 d3 => q v3 B3 H3 (x2.trans x3) w3 d3
end
end Toy

set_option Elab.async false
set_option linter.all false
set_option maxRecDepth 100000
set_option maxHeartbeats 2000000
/-! Chains of parts, one in another. -/
namespace PD
open PySem DL
inductive Chain : Nat → PyData → Prop
  | need : Chain 1 (.tuple [.str "need", .int 1])
  | cell : Chain 1 (.tuple [.str "cell", .int 0, .none, .str "bare"])
  | row : Chain 1 (.tuple [.str "row", .tuple []])
  | fill {n : Nat} {d : PyData} : Chain n d → Chain (n + 1) (.tuple [.str "fill", d])
  | left {n : Nat} {d : PyData} : Chain n d → Chain (n + 1) (.tuple [.str "if left", d])
  | times {n : Nat} {d : PyData} : Chain n d → Chain (n + 1) (.tuple [.str "times", .int 1, d])
  | one {n : Nat} {d : PyData} : Chain n d → Chain (n + 1) (.tuple [.str "row", .tuple [d]])
theorem form_some {wd : Str} {fs : List PyData} {n : Nat} {p : List PyData → Bool} (h : formAt wd = some (n, p)) : hasForm (.tuple (.str wd :: fs)) = (decide (fs.length + 1 = n) && p fs) := by
  show (match formAt wd with | some (n, p) => decide (fs.length + 1 = n) && p fs | none => false) = _
  rw [h]
structure Leafy (d : PyData) : Prop where
  f : hasForm d = true
  k : partsOf d = []
  c : wordOf d ≠ "counted" ∧ wordOf d ≠ "within" ∧ wordOf d ≠ "times"
  l : PT.Lay 2 d
structure Step (d x : PyData) : Prop where
  f : hasForm d = true
  k : partsOf d = [x]
  c : wordOf d ≠ "counted" ∧ wordOf d ≠ "within"
  t : wordOf d = "times" → numOf d = 1
  l : ∀ n, PT.Lay n x → PT.Lay (n + 2) d
theorem lay_tup2 {n : Nat} {ds : List PyData} (h : ∀ d, d ∈ ds → PT.Lay n d) : PT.Lay (n + 1) (.tuple ds) := PT.lay_tup h
theorem lay_s {n : Nat} {x : Str} (hx : PyData.strOk x = true) : PT.Lay n (.str x) := PT.lay_good (PT.good_str hx)
theorem chain_inv {n : Nat} {d : PyData} (h : Chain n d) : (n = 1 ∧ Leafy d) ∨ ∃ m c, n = m + 1 ∧ Chain m c ∧ Step d c := by
  cases h with
  | need => exact .inl ⟨rfl, ⟨by rw [form_some (n := 2) (p := isNeed) rfl]; rfl, parts_none (by decide) (by decide) (by decide), ⟨by decide, by decide, by decide⟩, ⟨by decide +kernel, by decide +kernel⟩⟩⟩
  | cell => exact .inl ⟨rfl, ⟨by rw [form_some (n := 4) (p := isCell) rfl]; decide +kernel, parts_none (by decide) (by decide) (by decide), ⟨by decide, by decide, by decide⟩, ⟨by decide +kernel, by decide +kernel⟩⟩⟩
  | row => exact .inl ⟨rfl, ⟨by rw [form_some (n := 2) (p := isRow) rfl]; rfl, parts_row, ⟨by decide, by decide, by decide⟩, ⟨by decide +kernel, by decide +kernel⟩⟩⟩
  | @fill m c h =>
    refine .inr ⟨m, c, rfl, h, ⟨by rw [form_some (n := 2) (p := isHolder) rfl]; rfl, parts_one (fs := [c]) (by decide), ⟨show ¬ (("fill" : Str) = "counted") by decide, show ¬ (("fill" : Str) = "within") by decide⟩, fun e => absurd (show ("fill" : Str) = "times" from e) (by decide), fun n l => ?_⟩⟩
    refine (lay_tup2 (n := n) fun x hx => ?_).mono (Nat.le_succ _)
    have : x = .str "fill" ∨ x = c := by simpa using hx
    rcases this with rfl | rfl
    · exact lay_s (by decide +kernel)
    · exact l
  | @left m c h =>
    refine .inr ⟨m, c, rfl, h, ⟨by rw [form_some (n := 2) (p := isHolder) rfl]; rfl, parts_one (fs := [c]) (by decide), ⟨show ¬ (("if left" : Str) = "counted") by decide, show ¬ (("if left" : Str) = "within") by decide⟩, fun e => absurd (show ("if left" : Str) = "times" from e) (by decide), fun n l => ?_⟩⟩
    refine (lay_tup2 (n := n) fun x hx => ?_).mono (Nat.le_succ _)
    have : x = .str "if left" ∨ x = c := by simpa using hx
    rcases this with rfl | rfl
    · exact lay_s (by decide +kernel)
    · exact l
  | @times m c h =>
    refine .inr ⟨m, c, rfl, h, ⟨by rw [form_some (n := 3) (p := isTimes) rfl]; rfl, parts_one (fs := [.int 1, c]) (by decide), ⟨show ¬ (("times" : Str) = "counted") by decide, show ¬ (("times" : Str) = "within") by decide⟩, fun _ => rfl, fun n l => ?_⟩⟩
    refine (lay_tup2 (n := n) fun x hx => ?_).mono (Nat.le_succ _)
    have : x = .str "times" ∨ x = .int 1 ∨ x = c := by simpa using hx
    rcases this with rfl | rfl | rfl
    · exact lay_s (by decide +kernel)
    · exact PT.lay_int
    · exact l
  | @one m c h =>
    refine .inr ⟨m, c, rfl, h, ⟨by rw [form_some (n := 2) (p := isRow) rfl]; rfl, parts_row, ⟨show ¬ (("row" : Str) = "counted") by decide, show ¬ (("row" : Str) = "within") by decide⟩, fun e => absurd (show ("row" : Str) = "times" from e) (by decide), fun n l => ?_⟩⟩
    refine lay_tup2 (n := n + 1) fun x hx => ?_
    have : x = .str "row" ∨ x = .tuple [c] := by simpa using hx
    rcases this with rfl | rfl
    · exact lay_s (by decide +kernel)
    · refine lay_tup2 fun y hy => ?_
      have : y = c := by simpa using hy
      subst this
      exact l
theorem chain_pos {n : Nat} {d : PyData} (h : Chain n d) : 1 ≤ n := by cases h <;> omega
theorem chain_lay {n : Nat} : ∀ {d : PyData}, Chain n d → PT.Lay (2 * n) d := by
  induction n with
  | zero => intro d h; exact absurd (chain_pos h) (by omega)
  | succ n ih =>
    intro d h
    rcases chain_inv h with ⟨e, lf⟩ | ⟨m, c, e, hc, st⟩
    · rw [e]
      exact lf.l
    · have : m = n := by omega
      subst this
      exact st.l _ (ih hc)
theorem chain_npart : ∀ {h n : Nat} {d : PyData}, Chain n d → npart h d ≤ n
  | 0, n, d, c => chain_pos c
  | h + 1, n, d, c => by
    rcases chain_inv c with ⟨e, lf⟩ | ⟨m, k, e, hc, st⟩
    · show 1 + ((partsOf d).map (npart h)).sum ≤ n
      rw [lf.k, e]
      exact Nat.le_refl _
    · show 1 + ((partsOf d).map (npart h)).sum ≤ n
      rw [st.k]
      have := chain_npart (h := h) hc
      simp
      omega
theorem chain_counted : ∀ {h n : Nat} {d : PyData}, Chain n d → counted h d ≤ n
  | 0, n, d, c => by
    have := chain_pos c
    show (1 : Int) ≤ n
    omega
  | h + 1, n, d, c => by
    have ec : counted (h + 1) d = if wordOf d = "times" then 1 + numOf d * ((partsOf d).map (counted h)).sum else 1 + ((partsOf d).map (counted h)).sum := rfl
    rw [ec]
    rcases chain_inv c with ⟨e, lf⟩ | ⟨m, k, e, hc, st⟩
    · rw [if_neg lf.c.2.2, lf.k, e]
      exact Int.le_refl _
    · have := chain_counted (h := h) hc
      rw [st.k]
      by_cases ht : wordOf d = "times"
      · rw [if_pos ht, st.t ht]
        simp
        omega
      · rw [if_neg ht]
        simp
        omega
theorem chain_ok : ∀ {h n : Nat} {d : PyData}, n ≤ h → Chain n d → okB h d = true
  | 0, n, d, l, c => absurd (chain_pos c) (by omega)
  | h + 1, n, d, l, c => by
    rcases chain_inv c with ⟨e, lf⟩ | ⟨m, k, e, hc, st⟩
    · exact ok_of_fwrong' lf.f fun x hx => by rw [lf.k] at hx; cases hx
    · exact ok_of_fwrong' st.f fun x hx => by
        rw [st.k] at hx
        have : x = k := by simpa using hx
        subst this
        exact chain_ok (by omega) hc
theorem chain_subs : ∀ {h n : Nat} {d : PyData} {q : List Int × PyData}, Chain n d → q ∈ subsD h d → ∃ m, Chain m q.2
  | 0, n, d, q, c, hq => by
    have hq' : q ∈ [(([] : List Int), d)] := hq
    have : q = ([], d) := by simpa using hq'
    subst this
    exact ⟨n, c⟩
  | h + 1, n, d, q, c, hq => by
    rcases mem_subs.mp hq with rfl | ⟨i, k, r, hk, hr, rfl⟩
    · exact ⟨n, c⟩
    · have hm := List.mem_of_getElem? hk
      rcases chain_inv c with ⟨e, lf⟩ | ⟨m, k', e, hc, st⟩
      · rw [lf.k] at hm
        cases hm
      · rw [st.k] at hm
        have : k = k' := by simpa using hm
        subst this
        exact chain_subs (q := r) hc hr
theorem chain_suits {h n : Nat} {d : PyData} (c : Chain n d) : suits h d = true := by
  have hw : wordOf d ≠ "counted" ∧ wordOf d ≠ "within" := by
    rcases chain_inv c with ⟨e, lf⟩ | ⟨m, k, e, hc, st⟩
    · exact ⟨lf.c.1, lf.c.2.1⟩
    · exact st.c
  unfold suits
  rw [if_neg fun z => hw.1 z.1, if_neg fun z => hw.2 z.1]
theorem chain_fwrong {h n : Nat} {p : List Int} {d : PyData} (l : n ≤ h) (h8 : h ≤ 8) (c : Chain n d) : fwrong h p d = none := (fwrong_none h8).mpr ⟨chain_ok l c, fun q hq => by
  obtain ⟨m, cm⟩ := chain_subs c hq
  exact chain_suits cm⟩
theorem chain_deep : ∀ {h : Nat} {p : List Int} {d : PyData}, Chain (h + 1) d → fwrong h p d = some (p ++ List.replicate h 0)
  | 0, p, d, c => by
    show some p = _
    simp
  | h + 1, p, d, c => by
    rcases chain_inv c with ⟨e, lf⟩ | ⟨m, k, e, hc, st⟩
    · omega
    · have : m = h + 1 := by omega
      subst this
      have ew : fwrong (h + 1) p d = if hasForm d = false then some p else match firstOf (fun i x => fwrong h (p ++ [(i : Int)]) x) 0 (partsOf d) with
        | some p => some p
        | none => if suits h d then none else some p := rfl
      rw [ew, if_neg (by rw [st.f]; exact fun z => Bool.noConfusion z), st.k]
      have ef : firstOf (fun i x => fwrong h (p ++ [(i : Int)]) x) 0 [k] = some (p ++ List.replicate (h + 1) 0) := by
        show (match fwrong h (p ++ [((0 : Nat) : Int)]) k with | some p => some p | none => none) = _
        rw [chain_deep hc]
        show some ((p ++ [0]) ++ List.replicate h 0) = _
        rw [List.append_assoc]
        rfl
      rw [ef]
theorem chain_err {n : Nat} {d : PyData} (c : Chain n d) (l : n ≤ 8) : partErr d = none := by
  unfold partErr
  rw [chain_fwrong l (by omega) c]
  have h1 := chain_npart (h := 8) c
  have h2 := chain_counted (h := 8) c
  show (if 60 < npart 8 d ∨ 1000 < counted 8 d then some [] else none : Option (List Int)) = none
  rw [if_neg (by omega)]
theorem chain_err9 {d : PyData} (c : Chain 9 d) : partErr d = some (List.replicate 8 0) := by
  unfold partErr
  rw [chain_deep c]
  rfl
end PD

set_option Elab.async false
set_option linter.all false
set_option maxRecDepth 100000
set_option maxHeartbeats 4000000
namespace Toy
open PySem PySem.Spec PyProof.Rows L2 StX DL
theorem slots_upd {K : PySem.W.Frag} {B : Hp} {g g' : SD} (h : ∀ s, SlotOk K B s g → SlotOk K B s g') : ∀ {σ : L2.St} {G : List SD} {i : Nat}, Slots K B σ G → G[i]? = some g → Slots K B σ (G.set i g')
  | [], [], _, _, e => by simp at e
  | s :: _, x :: _, 0, q, e => by
    simp at e
    subst e
    exact ⟨h s q.1, q.2⟩
  | _ :: _, _ :: _, i + 1, q, e => by
    simp at e
    exact ⟨q.1, slots_upd h q.2 e⟩
  | [], _ :: _, _, q, _ => q.elim
  | _ :: _, [], _, q, _ => q.elim
theorem Sta.give {K : PySem.W.Frag} {B O0 : Hp} {G : List SD} {σ : L2.St} {H : Hp} {l : Addr} {vs : List V} {ds : List PyData} {i : Nat} (s : Sta K B (upd O0 l (.lst vs)) G σ H) (hg : G[i]? = some (.val (.ref l))) (hn : O0 l = none) (hv : DtAll K B vs ds) :
    Ex B (upd B l (.lst vs)) ∧ Sta K (upd B l (.lst vs)) O0 (G.set i (.dat (.list ds))) σ H := by
  have hb := s.w.bnone upd_same
  refine ⟨Ex.new hb, s.w.give hn, slots_upd (g := .val (.ref l)) (g' := .dat (.list ds)) (fun s' (e : s' = some (.ref l)) => ⟨.ref l, e, .lst upd_same (dps_ex (Ex.new hb) _ _ hv)⟩) (s.s.ex (Ex.new hb)) hg⟩
theorem cut_to {ds : List PyData} {r : Int} (h : 0 ≤ r) : cutX ds none (some r) = ds.take r.toNat := by
  have e : HT.sIx ds.length ds.length (some r) = min r.toNat ds.length := by
    have := HT.sIx_nat ds.length ds.length r.toNat
    rwa [show ((r.toNat : Nat) : Int) = r by omega] at this
  unfold cutX
  rw [e, HT.sIx_none, List.drop_zero, Nat.sub_zero]
  by_cases hl : r.toNat ≤ ds.length
  · rw [Nat.min_eq_left hl]
  · rw [Nat.min_eq_right (by omega), List.take_length, List.take_of_length_le (by omega)]


section
variable {K : PySem.W.Frag} {B O : Hp} {G : List SD} {te ta : TE} {i : Nat} {p : Addr} {n : Int} {E : XK} {t : TA}
theorem ex_draw (hg : G[i]? = some (.val (.ref p))) (hp : PoolAt O p) (h0 : 0 < n) (h1 : n < 1000000) : EvX K B O G (tCall (SpX K PreDraw) [] E (tCons (tVar i) (tCons (tC (.int n)) tNil))) (fun d O' => ∃ r, d = .int r ∧ 0 ≤ r ∧ r < n ∧ Mv p O O') :=
  ex_call (as_val (evV_var hg) (as_dat ev_int as_nil)) fun B' _ => ⟨p, n, rfl, hp, h0, h1, rfl⟩
theorem at_some {ds : List PyData} {r : Int} (h0 : 0 ≤ r) (h1 : r < ds.length) : ∃ z, z ∈ ds ∧ atI ds r = some z := by
  have hk : ds[r.toNat]? = some ds[r.toNat] := List.getElem?_eq_getElem (by omega)
  exact ⟨_, List.mem_of_getElem? hk, at_nn h0 hk⟩
/-- an item of a list, by a draw -/

theorem op_repTK (K : PySem.W.Frag) {X : Cx} (h : X.K = K := by rfl) : OpR X (binaryOp .Mult) (rRepT K) := h ▸ op_repT
theorem rd_repT {ds : List PyData} {k : Int} (h0 : ds ≠ []) (h1 : 2 ≤ k ∧ k ≤ 1000) (h2 : ds.length ≤ 1000) : RD K (rRepT K) (.tuple ds) (.int k) (.tuple (List.replicate k.toNat ds).flatten) := fun B1 O1 H v w hw hv hx Q q => by
  obtain ⟨a, xs, rfl, h3, h4⟩ := dp_tup hv
  rw [dp_int hx]
  refine ⟨a, k, xs, rfl, rfl, st_ex hw.b h3, fun e => ?_, h1.1, h1.2, by rw [dps_len h4]; exact h2, fun p hp => ?_⟩
  · have := dps_len h4
    rw [e] at this
    exact h0 (List.eq_nil_of_length_eq_zero this.symm)
  · have flat : ∀ n : Nat, DtAll K B1 (List.replicate n xs).flatten (List.replicate n ds).flatten := fun n => by
      induction n with
      | zero => exact .nil
      | succ n ih =>
        rw [List.replicate_succ, List.replicate_succ, List.flatten_cons, List.flatten_cons]
        exact dps_app h4 ih
    exact q _ (upd B1 p (.tup (List.replicate k.toNat xs).flatten)) _ (Ex.new (hw.fb hp)) (hw.newB hp) (.tup (.inl (.inl upd_same)) (dps_ex (Ex.new (hw.fb hp)) _ _ (flat _)))
theorem ex_item {ds : List PyData} (h : EvD K B O G ta (.list ds)) (hl : (ds.length : Int) = n) (hg : G[i]? = some (.val (.ref p))) (hp : PoolAt O p) (h0 : 0 < n) (h1 : n < 1000000) :
    EvX K B O G (tOp (rIxL K) ta (tCall (SpX K PreDraw) [] E (tCons (tVar i) (tCons (tC (.int n)) tNil)))) (fun z O' => z ∈ ds ∧ Mv p O O') :=
  ex_op (ex_pure h) (R2' := fun _ O' d2 O'' => ∃ r, d2 = .int r ∧ 0 ≤ r ∧ r < n ∧ Mv p O' O'') (fun d1 B' O' _ e => by
    obtain ⟨_, rfl⟩ := e
    exact ex_draw hg hp h0 h1) fun d1 O' d2 O'' e1 e2 => by
    obtain ⟨rfl, rfl⟩ := e1
    obtain ⟨r, rfl, r0, r1, m⟩ := e2
    obtain ⟨z, hz, ha⟩ := at_some (ds := ds) r0 (by omega)
    exact ⟨z, rd_ixL ha, hz, m⟩
end
def PreChain (gs : List SD) (_ O : Hp) (R : PyData → Hp → Prop) : Prop := ∃ (p : Addr) (n : Nat), gs = [.val (.ref p), .dat (.int (n : Int))] ∧ PoolAt O p ∧ 1 ≤ n ∧ n ≤ 1000 ∧ R = fun d O' => PD.Chain n d ∧ Mv p O O'
def need1 : PyData := .tuple [.str "need", .int 1]
def rowN : PyData := .tuple [.str "row", .tuple (List.replicate 12 need1)]
def rows59 : List PyData := List.replicate 4 rowN ++ List.replicate 7 need1
def R_rows (ds : List PyData) (d : PyData) : Prop := ds = [.int 59] ∧ d = .list rows59
section
variable {P : Program} {w : World} {K : PySem.W.Frag} {mg : Str → Option Value} {base : Heap} {AD : Ads}

theorem ok_law_chain {f : Addr} {fd : FuncData} (T : Txt K mg AD) (C_law_draw : Cal P w K mg base 2 "_law_draw" ["pool", "count"] (SpX K PreDraw)) (a : At K mg "_law_chain" s_law_chain ["pool", "depth"] f fd) : FnOk P w K mg base CX0 4 f fd ["pool", "depth"] (SpX K PreChain) := by
  refine ok_fnX a.fn sc_law_chain (by rintro gs B O R ⟨p, n, rfl, _⟩; rfl) fun cdv A outer s H0 E hr => ?_
  refine ⟨_, (pss_cons (ps_set (i := 2) sc_law_chain.nd rfl (Or.inl rfl) (pe_ix (ix_listK K) (pe_lst (pa_cons (pe_tup (pa_cons pe_str (pa_cons pe_int pa_nil))) (pa_cons (pe_tup (pa_cons pe_str (pa_cons pe_int (pa_cons pe_non (pa_cons pe_str pa_nil))))) (pa_cons (pe_tup (pa_cons pe_str (pa_cons (pe_tup pa_nil) pa_nil))) pa_nil)))) (pe_cal C_law_draw hr (by omega) (by rfl) (pa_cons (pv 0) (pa_cons pe_int pa_nil))) (fun _ _ => rfl)))
    (pss_cons (ps_for PassesOwn.never rfl (pi_range1 (by rfl) T.b_range (pa_cons (pe_op op_sub (pv 1) pe_int) pa_nil)) (pg_name (i := 3) sc_law_chain.nd rfl (Or.inl rfl)) (pss_cons (ps_set (i := 4) sc_law_chain.nd rfl (Or.inl rfl) (pe_cal C_law_draw hr (by omega) (by rfl) (pa_cons (pv 0) (pa_cons pe_int pa_nil))))
    (pss_one (ps_if (pt_cmpR op_eq (pv 4) pe_int (nomark _)) (pss_one (ps_set (i := 2) sc_law_chain.nd rfl (Or.inl rfl) (pe_tup (pa_cons pe_str (pa_cons (pv 2) pa_nil))))) (pss_one (ps_if (pt_cmpR op_eq (pv 4) pe_int (nomark _)) (pss_one (ps_set (i := 2) sc_law_chain.nd rfl (Or.inl rfl) (pe_tup (pa_cons pe_str (pa_cons (pv 2) pa_nil))))) (pss_one (ps_if (pt_cmpR op_eq (pv 4) pe_int (nomark _)) (pss_one (ps_set (i := 2) sc_law_chain.nd rfl (Or.inl rfl) (pe_tup (pa_cons pe_str (pa_cons pe_int (pa_cons (pv 2) pa_nil)))))) (pss_one (ps_set (i := 2) sc_law_chain.nd rfl (Or.inl rfl) (pe_tup (pa_cons pe_str (pa_cons (pe_tup (pa_cons (pv 2) pa_nil)) pa_nil)))))))))))))
    (pss_one (ps_ret (pv 2))))), ?_⟩
  rintro gs B O R σ H Q ⟨p, n, rfl, hp, n0, n1, rfl⟩ st q
  refine qx_asg st (ex_item (n := 3) (ds := [.tuple [.str "need", .int 1], .tuple [.str "cell", .int 0, .none, .str "bare"], .tuple [.str "row", .tuple []]]) (ev_lst (ea_cons (ev_tup (ea_cons ev_str (ea_cons ev_int ea_nil)) (by simp)) (ea_cons (ev_tup (ea_cons ev_str (ea_cons ev_int (ea_cons ev_non (ea_cons ev_str ea_nil)))) (by simp)) (ea_cons (ev_tup (ea_cons ev_str (ea_cons (ev_tup ea_nil (by simp)) ea_nil)) (by simp)) ea_nil))) (by simp)) rfl rfl hp (by decide) (by decide)) fun v1 d1 B1 O1 H1 x1 ⟨hd, m1⟩ dv1 st => ?_
  have c1 : PD.Chain 1 d1 := by
    have : d1 = .tuple [.str "need", .int 1] ∨ d1 = .tuple [.str "cell", .int 0, .none, .str "bare"] ∨ d1 = .tuple [.str "row", .tuple []] := by simpa using hd
    rcases this with rfl | rfl | rfl
    · exact .need
    · exact .cell
    · exact .row
  refine q_for st (es := rangeD 0 (n - 1)) (by
      have e := ei_range1 (K := K) (B := B1) (O := O1) (G := [.val (.ref p), .dat (.int (n : Int)), .dat d1, .un, .un]) (j := (n : Int) - 1) (ea_cons (ev_op (ev_var (i := 1) rfl) (ev_int (i := 1)) rd_I0) ea_nil) (by omega)
      rw [show ((n : Int) - 1).toNat = n - 1 by omega] at e
      exact e) (fun i B' O' G' => ∃ (d : PyData) (g3 g4 : SD), PD.Chain (i + 1) d ∧ Mv p O O' ∧ G' = [.val (.ref p), .dat (.int (n : Int)), .dat d, g3, g4]) (fun i B1 B2 O1 G1 e x => x) ⟨d1, _, _, c1, m1, rfl⟩ ?_ ?_
  · rintro i e B2 O2 G2 σ2 H2 v hie x2 ⟨d, g3, g4, c, m2, rfl⟩ st dv N hN
    refine eg_name B2 _ σ2 H2 v st dv _ fun σ3 st _ => ?_
    refine qx_asg st (ex_draw rfl m2.pool (n := 4) (by decide) (by decide)) fun v4 d4 B4 O4 H4 x4 ⟨r, ed, r0, r1, m4⟩ dv4 st => ?_
    subst ed
    have m := m2.trans m4
    refine s_if st (et_test (ev_op (ev_var rfl) ev_int rd_eqInt)) (fun h5 B5 H5 x5 st => ?_) (fun h5 B5 H5 x5 st => ?_)
    · exact s_asg st (ev_tup (ea_cons ev_str (ea_cons (ev_var rfl) ea_nil)) (by simp)) fun v6 B6 H6 x6 d6 st => hN B6 _ _ _ _ ((x4.trans x5).trans x6) ⟨_, _, _, c.fill, m, rfl⟩ st
    refine s_if st (et_test (ev_op (ev_var rfl) ev_int rd_eqInt)) (fun h6 B6 H6 x6 st => ?_) (fun h6 B6 H6 x6 st => ?_)
    · exact s_asg st (ev_tup (ea_cons ev_str (ea_cons (ev_var rfl) ea_nil)) (by simp)) fun v7 B7 H7 x7 d7 st => hN B7 _ _ _ _ (((x4.trans x5).trans x6).trans x7) ⟨_, _, _, c.left, m, rfl⟩ st
    refine s_if st (et_test (ev_op (ev_var rfl) ev_int rd_eqInt)) (fun h7 B7 H7 x7 st => ?_) (fun h7 B7 H7 x7 st => ?_)
    · exact s_asg st (ev_tup (ea_cons ev_str (ea_cons ev_int (ea_cons (ev_var rfl) ea_nil))) (by simp)) fun v8 B8 H8 x8 d8 st => hN B8 _ _ _ _ ((((x4.trans x5).trans x6).trans x7).trans x8) ⟨_, _, _, c.times, m, rfl⟩ st
    · exact s_asg st (ev_tup (ea_cons ev_str (ea_cons (ev_tup (ea_cons (ev_var rfl) ea_nil) (by simp)) ea_nil)) (by simp)) fun v8 B8 H8 x8 d8 st => hN B8 _ _ _ _ ((((x4.trans x5).trans x6).trans x7).trans x8) ⟨_, _, _, c.one, m, rfl⟩ st
  · rintro B2 O2 G2 σ2 H2 x2 ⟨d, g3, g4, c, m2, rfl⟩ st
    rw [rangeD_len, Nat.sub_add_cancel n0] at c
    exact s_ret st (ev_var rfl) fun v B3 H3 x3 w3 d3 => q v _ B3 _ H3 ((x1.trans x2).trans x3) ⟨c, m2⟩ w3 d3
theorem ok_law_rows {f : Addr} {fd : FuncData} (T : Txt K mg AD) (a : At K mg "_law_rows" s_law_rows ["many"] f fd) : FnOk P w K mg base CX0 2 f fd ["many"] (SpR K R_rows) := by
  refine ok_fn a.fn sc_law_rows (by rintro ds d ⟨rfl, _⟩; rfl) fun cdv A outer s H0 E hr ds d ⟨e1, e2⟩ => ?_
  subst e1 e2
  refine ⟨_, (pss_cons (ps_set (i := 1) sc_law_rows.nd rfl (Or.inl rfl) (pe_lst pa_nil))
    (pss_cons (ps_while PassesOwn.never (pt_cmpR op_gt (pv 0) pe_int (nomark _)) (pss_cons (ps_expr (pe_bm PySem.F.plainAttrs_list PySem.F.slot_list_append PySem.F.type_list_append mt_append (pv 1) (pa_cons (pe_tup (pa_cons pe_str (pa_cons (pe_op (op_repTK K) (pe_tup (pa_cons (pe_tup (pa_cons pe_str (pa_cons pe_int pa_nil))) pa_nil)) pe_int) pa_nil))) pa_nil)))
    (pss_one (ps_set (i := 0) sc_law_rows.nd rfl (Or.inl rfl) (pe_op op_sub (pv 0) pe_int)))))
    (pss_one (ps_ret (pe_op op_cat (pv 1) (pe_op op_rep (pe_lst (pa_cons (pe_tup (pa_cons pe_str (pa_cons pe_int pa_nil))) pa_nil)) (pv 0))))))), fun B O σ H Q st q => ?_⟩
  refine q_asgL st (el_lst ea_nil (by simp)) fun l vs B1 H1 x1 nl dv st => ?_
  refine q_while st (fun m B' O' G' => ∃ (k : Nat) (vs : List V), k ≤ 4 ∧ m = 4 - k ∧ O' = upd O l (.lst vs) ∧ DtAll K B' vs (List.replicate k rowN) ∧ G' = [.dat (.int (59 - 13 * (k : Int))), .val (.ref l)]) 4 ⟨0, vs, by omega, rfl, rfl, dv, rfl⟩ ?_
  rintro m B2 O2 G2 σ2 H2 x2 ⟨k, vs2, hk, hm, rfl, dv2, rfl⟩ st
  refine ⟨_, et_test (ev_op (ev_var rfl) ev_int rd_B0), fun hb B3 H3 x3 st N hN => ?_, fun hb B3 H3 x3 st => ?_⟩
  · have hk4 : k < 4 := by
      have := of_decide_eq_true hb
      omega
    have hl2 := dps_len dv2
    rw [List.length_replicate] at hl2
    refine q_app st rfl upd_same (by omega) (d := rowN) (ev_is (ev_tup (ea_cons ev_str (ea_cons (ev_op (ev_tup (ea_cons (ev_tup (ea_cons ev_str (ea_cons ev_int ea_nil)) (by simp)) ea_nil) (by simp)) ev_int (rd_repT (by simp) (by decide) (by simp))) ea_nil)) (by simp)) (by rfl)) fun v4 B4 H4 x4 d4 st => ?_
    rw [upd_upd] at st
    refine s_asg st (ev_is (ev_op (ev_var rfl) ev_int rd_I0) (show PyData.int (59 - 13 * (k : Int) - 13) = .int (59 - 13 * ((k + 1 : Nat) : Int)) from congrArg PyData.int (by omega))) fun v5 B5 H5 x5 d5 st => ?_
    refine hN (4 - (k + 1)) B5 _ _ _ _ (by omega) (x4.trans x5) ⟨k + 1, vs2 ++ [v4], by omega, rfl, rfl, ?_, rfl⟩ st
    rw [List.replicate_succ']
    exact dps_app (dps_ex ((x3.trans x4).trans x5) _ _ dv2) (dps_one (dp_ex x5 _ _ d4))
  · have hk4 : k = 4 := by
      have := of_decide_eq_false hb
      omega
    subst hk4
    obtain ⟨xg, st⟩ := Sta.give (i := 1) st rfl nl (dps_ex x3 _ _ dv2)
    refine s_ret st (ev_is (ev_op (ev_var rfl) (ev_op (ev_lst (ea_cons (ev_tup (ea_cons ev_str (ea_cons ev_int ea_nil)) (by simp)) ea_nil) (by simp)) (ev_is (ev_var rfl) (show PyData.int (59 - 13 * ((4 : Nat) : Int)) = .int 7 from rfl)) (rd_rep (by decide) (by decide))) (rd_cat (by decide))) rfl) fun v6 B6 H6 x6 w6 d6 => ?_
    exact q v6 B6 H6 ((((x1.trans x2).trans x3).trans xg).trans x6) w6 d6
end
end Toy

set_option Elab.async false
set_option linter.all false
set_option maxRecDepth 100000
set_option maxHeartbeats 4000000
namespace Toy
open PySem PySem.Spec PyProof.Rows L2 StX DL


section
variable {K : PySem.W.Frag} {B B' O : Hp} {G : List SD} {te ta tb tc : TE} {tt tu : TT} {t : TA} {i : Nat} {p : Addr} {E : XK} {σ : L2.St} {H : Hp} {D : Ends} {tz ts : TS} {x y : PyData} {b : Bool}
def EvTX (K : PySem.W.Frag) (B O : Hp) (G : List SD) (tt : TT) (R : Bool → Hp → Prop) : Prop := ∀ B1 σ H, Ex B B1 → Sta K B1 O G σ H → ∀ Q : Bool → Hp → Prop, (∀ b B' O' H', Ex B1 B' → R b O' → W B' O' H' → Q b H') → tt σ H Q
theorem etx_test {R1 : PyData → Hp → Prop} {R : Bool → Hp → Prop} (h : EvX K B O G te R1) (hb : ∀ d O', R1 d O' → ∃ b, d = .bool b ∧ R b O') : EvTX K B O G (tTest te) R := fun B1 σ H e s Q q =>
  h B1 σ H e s _ fun v d B' O' H' e' r w dv => by
    obtain ⟨b, rfl, hr⟩ := hb d O' r
    exact ⟨b, dp_bool dv, q b B' O' H' e' hr w⟩
theorem etx_not {R : Bool → Hp → Prop} (h : EvTX K B O G tt fun b O' => R (!b) O') : EvTX K B O G (tNot tt) R := fun B1 σ H e s Q q => h B1 σ H e s _ fun b B' O' H' e' r w => q _ B' O' H' e' r w
theorem etx_or {R1 R : Bool → Hp → Prop} (h1 : EvTX K B O G tt R1) (h2 : ∀ B' O', Ex B B' → R1 false O' → EvTX K B' O' G tu R) (h3 : ∀ O', R1 true O' → R true O') : EvTX K B O G (tOr tt tu) R := fun B1 σ H e s Q q =>
  h1 B1 σ H e s _ fun b B2 O2 H2 e2 r w => by
    cases b with
    | true =>
      show Q true H2
      exact q true B2 O2 H2 e2 (h3 O2 r) w
    | false =>
      show tu σ H2 Q
      exact h2 B2 O2 (e.trans e2) r B2 σ H2 (Ex.refl _) ⟨w, s.s.ex e2⟩ Q fun b B3 O3 H3 e3 r3 w3 => q b B3 O3 H3 (e2.trans e3) r3 w3
theorem q_whenFX {R : Bool → Hp → Prop} (s : Sta K B O G σ H) (h : EvTX K B O G tt R) (hf : ∀ b O', R b O' → b = false) (k : ∀ B' O' H', Ex B B' → R false O' → Sta K B' O' G σ H' → tz D σ H') : tSeq (tIfS tt ts tNext) tz D σ H :=
  h B σ H (Ex.refl _) s _ fun b B' O' H' e r w => by
    have := hf b O' r
    subst this
    exact k B' O' H' e r ⟨w, s.s.ex e⟩
theorem ex_callR {R : List PyData → PyData → Prop} {T : List PyData → Hp → Prop} {R2 : PyData → Hp → Prop} (h : EvXs K B O G t T) (hr : ∀ ds O', T ds O' → ∃ d, R ds d ∧ R2 d O') : EvX K B O G (tCall (SpR K R) [] E t) R2 := fun B1 σ H e s Q q =>
  h B1 σ H e s _ fun vs ds B2 O2 H2 e2 r w2 d2 => by
    obtain ⟨d, h1, h2⟩ := hr ds O2 r
    exact ⟨B2, O2, ds, d, w2, by rw [List.append_nil]; exact d2, h1, fun v B3 H3 e3 w3 d3 => q v d B3 O2 H3 (e2.trans e3) h2 w3 d3⟩
theorem ex_tup2 {R : PyData → Hp → Prop} (h1 : EvD K B O G ta x) (h2 : EvX K B O G tb R) : EvX K B O G (tTup (tCons ta (tCons tb tNil))) (fun d O' => ∃ y, d = .tuple [x, y] ∧ R y O') := fun B1 σ H e s Q q =>
  h1 B1 O σ H e (Ex.refl _) s _ fun v B2 H2 e2 w2 d2 => h2 B2 σ H2 (e.trans e2) (s.ex e2 w2) _ fun u y B3 O3 H3 e3 r w3 d3 => ⟨by show 2 ≤ sizeLine; decide, fun p hp => by
    have xn : Ex B3 (upd B3 p (.tup [v, u])) := Ex.new (w3.fb hp)
    exact q _ _ _ O3 _ ((e2.trans e3).trans xn) ⟨y, rfl, r⟩ (w3.newB hp) (.tup (.inl (.inl upd_same)) (.cons (dp_ex (e3.trans xn) _ _ d2) (.cons (dp_ex xn _ _ d3) .nil)))⟩
theorem ex_tup3 {R : PyData → Hp → Prop} (h1 : EvD K B O G ta x) (h2 : EvD K B O G tb y) (h3 : EvX K B O G tc R) : EvX K B O G (tTup (tCons ta (tCons tb (tCons tc tNil)))) (fun d O' => ∃ z, d = .tuple [x, y, z] ∧ R z O') := fun B1 σ H e s Q q =>
  h1 B1 O σ H e (Ex.refl _) s _ fun v B2 H2 e2 w2 d2 => h2 B2 O σ H2 (e.trans e2) (Ex.refl _) (s.ex e2 w2) _ fun u B3 H3 e3 w3 d3 => h3 B3 σ H3 ((e.trans e2).trans e3) (s.ex (e2.trans e3) w3) _ fun w z B4 O4 H4 e4 r w4 d4 => ⟨by show 3 ≤ sizeLine; decide, fun p hp => by
    have xn : Ex B4 (upd B4 p (.tup [v, u, w])) := Ex.new (w4.fb hp)
    exact q _ _ _ O4 _ (((e2.trans e3).trans e4).trans xn) ⟨z, rfl, r⟩ (w4.newB hp) (.tup (.inl (.inl upd_same)) (.cons (dp_ex ((e3.trans e4).trans xn) _ _ d2) (.cons (dp_ex (e4.trans xn) _ _ d3) (.cons (dp_ex xn _ _ d4) .nil))))⟩
theorem ev_isP {tx : PyData} {po : Option (List Int)} (h1 : EvD K B O G ta tx) (h2 : EvD K B O G tb (encW po)) (hc : chkB tx po = true) : EvD K B O G (tCall (SpR K R_is) [] E (tCons ta (tCons tb tNil))) (.bool true) := ev_call (ea_cons h1 (ea_cons h2 ea_nil)) ⟨tx, po, hc, rfl, rfl⟩
/-- not _law_is(_law_chain(pool, n), path) -/
theorem etx_chain {n : Nat} {po : Option (List Int)} (hg : G[i]? = some (.val (.ref p))) (hp : PoolAt O p) (n0 : 1 ≤ n) (n1 : n ≤ 1000) (hc : ∀ d, PD.Chain n d → chkB d po = true) (h2 : ∀ B' O', Ex B B' → EvD K B' O' G tb (encW po)) :
    EvTX K B O G (tNot (tB (tCall (SpR K R_is) [] E0 (tCons (tCall (SpX K PreChain) [] E (tCons (tVar i) (tCons (tC (.int (n : Int))) tNil))) (tCons tb tNil))))) (fun b O' => b = false ∧ Mv p O O') :=
  etx_not (etx_test (R1 := fun d O' => d = .bool true ∧ Mv p O O') (ex_callR (T := fun ds O' => ∃ d, ds = [d, encW po] ∧ PD.Chain n d ∧ Mv p O O') (exs_cons (ex_call (as_val (evV_var hg) (as_dat ev_int as_nil)) fun B' _ => ⟨p, n, rfl, hp, n0, n1, rfl⟩) (S := fun _ O' ds O'' => ds = [encW po] ∧ O'' = O') (fun d B' O' e r => exs_cons (ex_pure (h2 B' O' e)) (fun d2 B2 O2 e2 r2 => exs_nil) fun d2 O2 ds O3 r2 r3 => by
    obtain ⟨rfl, rfl⟩ := r2
    obtain ⟨rfl, rfl⟩ := r3
    exact ⟨rfl, rfl⟩) fun d O' ds O'' r1 r2 => by
    obtain ⟨rfl, rfl⟩ := r2
    exact ⟨d, rfl, r1.1, r1.2⟩) fun ds O' ⟨d, e, hd, m⟩ => ⟨.bool true, ⟨d, po, hc d hd, e, rfl⟩, rfl, m⟩) fun d O' ⟨e, m⟩ => ⟨true, e, rfl, m⟩)
theorem q_pool {σ : L2.St} {H : Hp} {D : Ends} {tz : TS} {j m : Nat} {a : Addr} {ns : List Int} {k : Int} {E : XK} (s : Sta K B O G σ H) (hg : G[i]? = some (.val (.ref a))) (hs : SqL K B a (ns.map V.int)) (hl : ns.length ≤ 63) (hk : EvD K B O G (tVar j) (.int k)) (h0 : 0 ≤ k) (h1 : k ≤ 63)
    (q : ∀ p O' B' H', Ex B B' → O p = none → PoolAt O' p → (∀ x, x ≠ p → O' x = O x) → Sta K B' O' (G.set m (.val (.ref p))) (σ.set m (some (.ref p))) H' → tz D (σ.set m (some (.ref p))) H') : tSeq (tAsg (tCall (SpPool K) [] E (tCons (tVar i) (tCons (tVar j) tNil))) (gName m)) tz D σ H := by
  obtain ⟨sv, g1, g2⟩ := s.s.get hg
  have h3 : sv = some (.ref a) := g2
  subst h3
  refine ⟨_, g1, ?_⟩
  refine hk B O σ H (Ex.refl _) (Ex.refl _) s _ fun v B2 H2 e2 w2 d2 => ?_
  rw [dp_int d2]
  refine ⟨B2, O, a, ns, k, w2, rfl, sl_ex e2 hs, hl, h0, h1, fun p x y B' H' e' hp hy0 hy1 w' => ?_⟩
  exact q p _ B' H' (e2.trans e') hp ⟨x, y, upd_same, hy0, hy1⟩ (fun z hz => upd_ne hz) ⟨w', (s.s.ex (e2.trans e')).set m rfl⟩

end
theorem chk_of {t : PyData} {n : Nat} {po : Option (List Int)} (h : PT.Lay n t) (hn : n ≤ 40) (h2 : PD.npart 8 t ≤ 50000) (h3 : PD.partErr t = po) : chkB t po = true := by
  unfold chkB
  rw [h.1, decide_eq_true (Nat.le_trans h.2 hn), decide_eq_true h2, decide_eq_true h3]
  rfl
def leafs : List PyData := [.tuple [.str "need", .int 9], .tuple [.str "cell", .int 5, .int 5, .str "checked"], .tuple [.str "pad", .int 6, .str "bare"]]
def optsD (f : Nat) (leaf : PyData) : List PyData := (List.range 7).map fun (i : Nat) => .tuple [.int ((f : Int) + (0 + (i : Int))), leaf]
def sixD (leaf : PyData) (m : Int) : PyData := .tuple [.str "times", .int 6, .tuple [.str "times", .int 6, .tuple [.str "row", .tuple (List.replicate m.toNat [leaf]).flatten]]]
theorem rows59_len : rows59.length = 11 := by decide +kernel
theorem c1 : ∀ leaf, leaf ∈ leafs → chkB (.tuple [.str "row", .tuple (List.replicate (Int.toNat 12) [leaf]).flatten]) none = true := by decide +kernel
theorem c2 : ∀ leaf, leaf ∈ leafs → chkB (.tuple [.str "fill", .tuple [.str "row", .tuple (List.replicate (Int.toNat 13) [leaf]).flatten]]) (some [0]) = true := by decide +kernel
theorem c3 : ∀ f, f < 92 → ∀ leaf, leaf ∈ leafs → chkB (.tuple [.str "choice", .str "bare", .tuple ((optsD f leaf).take 6)]) none = true := by decide +kernel
theorem c4 : ∀ f, f < 92 → ∀ leaf, leaf ∈ leafs → chkB (.tuple [.str "choice", .str "bare", .tuple (optsD f leaf)]) (some []) = true := by decide +kernel
theorem c5 : ∀ leaf, leaf ∈ leafs → chkB (.tuple [.str "choice", .str "bare", .tuple [.tuple [.int 99, leaf]]]) none = true := by decide +kernel
theorem c6 : ∀ leaf, leaf ∈ leafs → chkB (.tuple [.str "choice", .str "bare", .tuple [.tuple [.int 100, leaf]]]) (some []) = true := by decide +kernel
theorem c7 : chkB (.tuple [.str "row", .tuple rows59]) none = true := by decide +kernel
theorem c8 : ∀ leaf, leaf ∈ leafs → chkB (.tuple [.str "row", .tuple (rows59 ++ [leaf])]) (some []) = true := by decide +kernel
theorem c9 : ∀ leaf, leaf ∈ leafs → chkB (.tuple [.str "row", .tuple [sixD leaf 2, sixD leaf 2, sixD leaf 2, sixD leaf 2, sixD leaf 2, sixD leaf 2, sixD leaf 2]]) none = true := by decide +kernel
theorem c10 : ∀ leaf, leaf ∈ leafs → chkB (.tuple [.str "row", .tuple [sixD leaf 3, sixD leaf 3, sixD leaf 3, sixD leaf 3, sixD leaf 3, sixD leaf 3, sixD leaf 3]]) (some []) = true := by decide +kernel
def spLaw (K : PySem.W.Frag) : Sp := fun vs H Q _ => ∃ (a : Addr) (ns : List Int), vs = [.ref a] ∧ SqL K H a (ns.map V.int) ∧ ns.length ≤ 63 ∧ ∀ H', Q (.bl true) H'
theorem clampN (N : Nat) (hN : 1 ≤ N) (n : Nat) : ∃ m : Nat, m ≤ N ∧ (if (if (N : Int) < (n : Int) then (N : Int) else (n : Int)) > 1 then (if (N : Int) < (n : Int) then (N : Int) else (n : Int)) else 1) = (m : Int) := by
  by_cases h : (N : Int) < (n : Int)
  · rw [if_pos h]
    by_cases h2 : (N : Int) > 1
    · rw [if_pos h2]
      exact ⟨N, by omega, rfl⟩
    · rw [if_neg h2]
      exact ⟨1, by omega, rfl⟩
  · rw [if_neg h]
    by_cases h2 : (n : Int) > 1
    · rw [if_pos h2]
      exact ⟨n, by omega, rfl⟩
    · rw [if_neg h2]
      exact ⟨1, by omega, rfl⟩
section
variable {P : Program} {w : World} {K : PySem.W.Frag} {mg : Str → Option Value} {base : Heap} {AD : Ads}

theorem ok_law {fl : Addr} {fdl : FuncData} (T : Txt K mg AD) (F : Fun K "law" "law" s_law fl fdl) (C_law_pool : Cal P w K mg base 2 "_law_pool" ["script", "k"] (SpPool K)) (C_law_draw : Cal P w K mg base 2 "_law_draw" ["pool", "count"] (SpX K PreDraw)) (C_law_is : Cal P w K mg base 30 "_law_is" ["part", "path"] (SpR K R_is))
    (C_law_chain : Cal P w K mg base 4 "_law_chain" ["pool", "depth"] (SpX K PreChain)) (C_law_rows : Cal P w K mg base 2 "_law_rows" ["many"] (SpR K R_rows)) : FnOk P w K mg base CX0 32 fl fdl ["script"] (spLaw K) := by
  refine F.ok (k := 31) sc_law (fun vs H Q E h => ?_) (fun cdv A outer s H vs Q E hr h => ?_)
  · obtain ⟨a, ns, rfl, _⟩ := h
    rfl
  obtain ⟨a, ns, rfl, hs, hlen, q⟩ := h
  refine ⟨_, (pss_cons (ps_for PassesOwn.never rfl (pi_range1 (by rfl) T.b_range (pa_cons (pe_callB (call_max2 rfl) (by rfl) T.b_max (by decide +kernel) (pa_cons pe_int (pa_cons (pe_callB (call_min2 rfl) (by rfl) T.b_min (by decide +kernel) (pa_cons (pe_callB (call_lenK K) (by rfl) T.b_len PySem.boot_len (pa_cons (pv 0) pa_nil)) (pa_cons pe_int pa_nil))) pa_nil))) pa_nil)) (pg_name (i := 1) sc_law.nd rfl (Or.inl rfl)) (pss_cons (ps_set (i := 2) sc_law.nd rfl (Or.inl rfl) (pe_cal C_law_pool hr (by omega) (by rfl) (pa_cons (pv 0) (pa_cons (pv 1) pa_nil))))
    (pss_cons (ps_if (PW.pt (pw_or (pt_not (pt_val (pe_cal C_law_is hr (by omega) (by rfl) (pa_cons (pe_cal C_law_chain hr (by omega) (by rfl) (pa_cons (pv 2) (pa_cons pe_int pa_nil))) (pa_cons pe_non pa_nil))))) (pw_or1 (pt_not (pt_val (pe_cal C_law_is hr (by omega) (by rfl) (pa_cons (pe_cal C_law_chain hr (by omega) (by rfl) (pa_cons (pv 2) (pa_cons pe_int pa_nil))) (pa_cons (pe_op (op_repTK K) (pe_tup (pa_cons pe_int pa_nil)) pe_int) pa_nil)))))))) (pss_one (ps_ret pe_bl)) pss_nil)
    (pss_cons (ps_set (i := 3) sc_law.nd rfl (Or.inr rfl) (pe_ix (ix_listK K) (pe_lst (pa_cons (pe_tup (pa_cons pe_str (pa_cons pe_int pa_nil))) (pa_cons (pe_tup (pa_cons pe_str (pa_cons pe_int (pa_cons pe_int (pa_cons pe_str pa_nil))))) (pa_cons (pe_tup (pa_cons pe_str (pa_cons pe_int (pa_cons pe_str pa_nil)))) pa_nil)))) (pe_cal C_law_draw hr (by omega) (by rfl) (pa_cons (pv 2) (pa_cons pe_int pa_nil))) (fun _ _ => rfl)))
    (pss_cons (ps_if (PW.pt (pw_or (pt_not (pt_val (pe_cal C_law_is hr (by omega) (by rfl) (pa_cons (pe_tup (pa_cons pe_str (pa_cons (pe_op (op_repTK K) (pe_tup (pa_cons (pv 3) pa_nil)) pe_int) pa_nil))) (pa_cons pe_non pa_nil))))) (pw_or1 (pt_not (pt_val (pe_cal C_law_is hr (by omega) (by rfl) (pa_cons (pe_tup (pa_cons pe_str (pa_cons (pe_tup (pa_cons pe_str (pa_cons (pe_op (op_repTK K) (pe_tup (pa_cons (pv 3) pa_nil)) pe_int) pa_nil))) pa_nil))) (pa_cons (pe_tup (pa_cons pe_int pa_nil)) pa_nil)))))))) (pss_one (ps_ret pe_bl)) pss_nil)
    (pss_cons (ps_set (i := 4) sc_law.nd rfl (Or.inr rfl) (pe_cal C_law_draw hr (by omega) (by rfl) (pa_cons (pv 2) (pa_cons pe_int pa_nil))))
    (pss_cons (ps_set (i := 5) sc_law.nd rfl (Or.inl rfl) (pe_callTy (call_tupleK K) (by rfl) T.b_tuple (by decide +kernel) (pa_cons (pe_lc (own := [("at", 9)]) (by rfl) sc_law.nd (pi_range1 (by rfl) T.b_range (pa_cons pe_int pa_nil)) (blkOk_by (own := [("at", 9)]) (N := N_sc_law) (sc := defScope s_law) (by decide +kernel)) (fun _ _ _ _ _ => (pg_name (i := 9) sc_law.nd rfl (Or.inl rfl))) (fun _ _ _ _ _ => pts_nil) (fun _ _ _ _ _ => (pe_tup (pa_cons (pe_op op_add (pv 4) (pv 9)) (pa_cons (pv 3) pa_nil))))) pa_nil)))
    (pss_cons (ps_if (PW.pt (pw_or (pt_not (pt_val (pe_cal C_law_is hr (by omega) (by rfl) (pa_cons (pe_tup (pa_cons pe_str (pa_cons pe_str (pa_cons (pe_slice (sl_tupAK K) (pv 5) po_none (po_some pe_int)) pa_nil)))) (pa_cons pe_non pa_nil))))) (pw_or1 (pt_not (pt_val (pe_cal C_law_is hr (by omega) (by rfl) (pa_cons (pe_tup (pa_cons pe_str (pa_cons pe_str (pa_cons (pv 5) pa_nil)))) (pa_cons (pe_tup pa_nil) pa_nil)))))))) (pss_one (ps_ret pe_bl)) pss_nil)
    (pss_cons (ps_if (PW.pt (pw_or (pt_not (pt_val (pe_cal C_law_is hr (by omega) (by rfl) (pa_cons (pe_tup (pa_cons pe_str (pa_cons pe_str (pa_cons (pe_tup (pa_cons (pe_tup (pa_cons pe_int (pa_cons (pv 3) pa_nil))) pa_nil)) pa_nil)))) (pa_cons pe_non pa_nil))))) (pw_or1 (pt_not (pt_val (pe_cal C_law_is hr (by omega) (by rfl) (pa_cons (pe_tup (pa_cons pe_str (pa_cons pe_str (pa_cons (pe_tup (pa_cons (pe_tup (pa_cons pe_int (pa_cons (pv 3) pa_nil))) pa_nil)) pa_nil)))) (pa_cons (pe_tup pa_nil) pa_nil)))))))) (pss_one (ps_ret pe_bl)) pss_nil)
    (pss_cons (ps_set (i := 6) sc_law.nd rfl (Or.inl rfl) (pe_cal C_law_rows hr (by omega) (by rfl) (pa_cons pe_int pa_nil)))
    (pss_cons (ps_if (PW.pt (pw_or (pt_not (pt_val (pe_cal C_law_is hr (by omega) (by rfl) (pa_cons (pe_tup (pa_cons pe_str (pa_cons (pe_callTy (call_tupleK K) (by rfl) T.b_tuple (by decide +kernel) (pa_cons (pv 6) pa_nil)) pa_nil))) (pa_cons pe_non pa_nil))))) (pw_or1 (pt_not (pt_val (pe_cal C_law_is hr (by omega) (by rfl) (pa_cons (pe_tup (pa_cons pe_str (pa_cons (pe_callTy (call_tupleK K) (by rfl) T.b_tuple (by decide +kernel) (pa_cons (pe_op op_cat (pv 6) (pe_lst (pa_cons (pv 3) pa_nil))) pa_nil)) pa_nil))) (pa_cons (pe_tup pa_nil) pa_nil)))))))) (pss_one (ps_ret pe_bl)) pss_nil)
    (pss_cons (ps_set (i := 7) sc_law.nd rfl (Or.inl rfl) (pe_tup (pa_cons pe_str (pa_cons pe_int (pa_cons (pe_tup (pa_cons pe_str (pa_cons pe_int (pa_cons (pe_tup (pa_cons pe_str (pa_cons (pe_op (op_repTK K) (pe_tup (pa_cons (pv 3) pa_nil)) (pe_ix (ix_listK K) (pe_lst (pa_cons pe_int (pa_cons pe_int pa_nil))) (pe_cal C_law_draw hr (by omega) (by rfl) (pa_cons (pv 2) (pa_cons pe_int pa_nil))) (fun _ _ => rfl))) pa_nil))) pa_nil)))) pa_nil)))))
    (pss_cons (ps_set (i := 8) sc_law.nd rfl (Or.inl rfl) (pe_tup (pa_cons pe_str (pa_cons (pe_tup (pa_cons (pv 7) (pa_cons (pv 7) (pa_cons (pv 7) (pa_cons (pv 7) (pa_cons (pv 7) (pa_cons (pv 7) (pa_cons (pv 7) pa_nil)))))))) pa_nil))))
    (pss_one (ps_if (pt_not (pt_val (pe_cal C_law_is hr (by omega) (by rfl) (pa_cons (pv 8) (pa_cons (pe_ifExp (pt_cmpR op_le (pe_op op_add pe_int (pe_op op_mul pe_int (pe_op op_add pe_int (pe_op op_mul pe_int (pe_op op_add pe_int (pe_op op_mul pe_int (pe_op op_add pe_int (pe_callB (call_lenK K) (by rfl) T.b_len PySem.boot_len (pa_cons (pe_ix (ix_tupK K) (pe_ix (ix_tupK K) (pe_ix (ix_tupK K) (pv 7) pe_int (fun _ _ => rfl)) pe_int (fun _ _ => rfl)) pe_int (fun _ _ => rfl)) pa_nil))))))))) pe_int (nomark _)) pe_non (pe_tup pa_nil)) pa_nil))))) (pss_one (ps_ret pe_bl)) pss_nil)))))))))))))))
    (pss_one (ps_ret pe_bl))), ?_⟩
  have st : Sta K H (fun _ => none) [.val (.ref a), .un, .un, .un, .un, .un, .un, .un, .un, .un] (L2.start N_sc_law [.ref a]) H := ⟨⟨Ex.refl _, (fun _ _ e => nomatch e), fun _ => .inr rfl⟩, ⟨rfl, trivial, trivial, trivial, trivial, trivial, trivial, trivial, trivial, trivial, trivial⟩⟩
  obtain ⟨m, hm, em⟩ := clampN 12 (by omega) ns.length
  have eI : EvI K H (fun _ => none) [.val (.ref a), .un, .un, .un, .un, .un, .un, .un, .un, .un] (iRng1 (tCons (tCB (fun xs H Q => ∃ i j, xs = [V.int i, V.int j] ∧ Q (V.int (if j > i then j else i)) H) (tCons (tC (.int 1)) (tCons (tCB (fun xs H Q => ∃ i j, xs = [V.int i, V.int j] ∧ Q (V.int (if j < i then j else i)) H) (tCons (tCB (fun xs H Q => ∃ p ys, xs = [V.ref p] ∧ (SqL K H p ys ∨ SqT K H p ys) ∧ Q (.int ys.length) H) (tCons (tVar 0) tNil)) (tCons (tC (.int 12)) tNil))) tNil))) tNil)) (rangeD 0 m) := by
    have h0 := ei_range1 (K := K) (B := H) (O := fun _ => none) (G := [.val (.ref a), .un, .un, .un, .un, .un, .un, .un, .un, .un]) (ea_cons (ev_cb (ea_cons ev_int (ea_cons (ev_cb (ea_cons (ev_lenS (i := 0) rfl hs) (ea_cons (ev_int (i := ((12 : Nat) : Int))) ea_nil)) rc_min2) ea_nil)) (rc_max2 (i := 1))) ea_nil) (by rw [List.length_map, em]; omega)
    rw [List.length_map, em, Int.toNat_natCast] at h0
    exact h0
  refine q_for st eI (fun i B' O' G' => O' = (fun _ => none) ∧ ∃ x1 x2 x3 x4 x5 x6 x7 x8 x9 : SD, G' = [.val (.ref a), x1, x2, x3, x4, x5, x6, x7, x8, x9]) (fun i B1 B2 O1 G1 e x => x) ⟨rfl, _, _, _, _, _, _, _, _, _, rfl⟩ ?_ ?_
  · rintro i e B1 O1 G1 σ1 H1 v hie x1 ⟨rfl, y1, y2, y3, y4, y5, y6, y7, y8, y9, rfl⟩ st dv N hN
    obtain ⟨hi, rfl⟩ := range_inv hie
    refine eg_name B1 _ σ1 H1 v st dv _ fun σ2 st _ => ?_
    refine q_pool st rfl (sl_ex x1 hs) hlen (ev_var rfl) (by omega) (by omega) fun p O2 B2 H2 x2 np hp hfr2 st => ?_
    refine q_whenFX st (R := fun b O' => b = false ∧ PoolAt O' p) (etx_or (R1 := fun b O' => b = false ∧ Mv p O2 O') (etx_chain (n := 8) (po := none) rfl hp (by decide) (by decide) (fun d c => chk_of (PD.chain_lay c) (by decide) (by have := PD.chain_npart (h := 8) c; omega) (PD.chain_err c (by decide))) fun B' O' e => ev_non) (fun B' O' e r => by
      obtain ⟨_, m⟩ := r
      intro B3 σ3 H3 e3 s3 Q3 q3
      refine etx_chain (n := 9) (po := some (List.replicate 8 0)) rfl m.pool (by decide) (by decide) (fun d c => chk_of (PD.chain_lay c) (by decide) (by have := PD.chain_npart (h := 8) c; omega) (PD.chain_err9 c)) (fun B' O' e => ev_is (ev_op (ev_tup (ea_cons ev_int ea_nil) (by decide)) ev_int (rd_repT (by simp) (by decide) (by simp))) rfl) B3 σ3 H3 e3 s3 Q3 fun b B4 O4 H4 e4 r4 w4 => q3 b B4 O4 H4 e4 ⟨r4.1, r4.2.pool⟩ w4) (fun O' r => by cases r.1)) (fun b O' r => r.1) fun B3 O3 H3 x3 hp3 st => ?_
    have hp3 := hp3.2
    refine qx_asg st (ex_item (n := 3) (ds := leafs) (ev_lst (ea_cons (ev_tup (ea_cons ev_str (ea_cons ev_int ea_nil)) (by simp)) (ea_cons (ev_tup (ea_cons ev_str (ea_cons ev_int (ea_cons ev_int (ea_cons ev_str ea_nil)))) (by simp)) (ea_cons (ev_tup (ea_cons ev_str (ea_cons ev_int (ea_cons ev_str ea_nil))) (by simp)) ea_nil))) (by decide)) rfl rfl hp3 (by decide) (by decide)) fun v4 leaf B4 O4 H4 x4 ⟨hl, m4⟩ dv4 st => ?_
    refine q_whenF st (et_is (et_or (a := false) (b := false) (et_is (et_not (et_test (ev_isP (ev_tup (ea_cons ev_str (ea_cons (ev_op (ev_tup (ea_cons (ev_var rfl) ea_nil) (by simp)) ev_int (rd_repT (by simp) (by decide) (by simp))) ea_nil)) (by simp)) ev_non (c1 leaf hl)))) rfl) fun _ => et_is (et_not (et_test (ev_isP (ev_tup (ea_cons ev_str (ea_cons (ev_tup (ea_cons ev_str (ea_cons (ev_op (ev_tup (ea_cons (ev_var rfl) ea_nil) (by simp)) ev_int (rd_repT (by simp) (by decide) (by simp))) ea_nil)) (by simp)) ea_nil)) (by simp)) (ev_tup (ea_cons ev_int ea_nil) (by simp)) (c2 leaf hl)))) rfl) rfl) fun B5 H5 x5 st => ?_
    refine qx_asg st (ex_draw rfl m4.pool (n := 92) (by decide) (by decide)) fun v6 d6 B6 O6 H6 x6 ⟨r, ed, r0, r1, m6⟩ dv6 st => ?_
    subst ed
    obtain ⟨f, rfl⟩ : ∃ f : Nat, r = (f : Int) := ⟨r.toNat, by omega⟩
    have hf : f < 92 := by omega
    refine q_asg st (d := .tuple (optsD f leaf)) (ev_cb (ea_cons (ev_map (List.range 7) (fun (i : Nat) => .int (0 + (i : Int))) (fun (i : Nat) => .tuple [.int ((f : Int) + (0 + (i : Int))), leaf]) (fun j => [.val (.ref a), .dat (.int (0 + (i : Int))), .val (.ref p), .dat leaf, .dat (.int (f : Int)), y5, y6, y7, y8, .dat (.int (0 + (j : Int)))]) (ei_range1 (j := 7) (ea_cons ev_int ea_nil) (by decide)) (by decide) (fun j _ => eg_nameW (by decide)) (fun j _ => ev_tup (ea_cons (ev_op (ev_var rfl) (ev_var rfl) rd_I0) (ea_cons (ev_var rfl) ea_nil)) (by simp))) ea_nil) rc_tupL) fun v7 B7 H7 x7 d7 st => ?_
    refine q_whenF st (et_is (et_or (a := false) (b := false) (et_is (et_not (et_test (ev_isP (ev_tup (ea_cons ev_str (ea_cons ev_str (ea_cons (ev_is (ev_slT (ev_var rfl) eo_none (eo_some ev_int)) (by rw [cut_to (by decide)]; rfl)) ea_nil))) (by simp)) ev_non (c3 f hf leaf hl)))) rfl) fun _ => et_is (et_not (et_test (ev_isP (ev_tup (ea_cons ev_str (ea_cons ev_str (ea_cons (ev_var rfl) ea_nil))) (by simp)) (ev_tup ea_nil (by simp)) (c4 f hf leaf hl)))) rfl) rfl) fun B8 H8 x8 st => ?_
    refine q_whenF st (et_is (et_or (a := false) (b := false) (et_is (et_not (et_test (ev_isP (ev_tup (ea_cons ev_str (ea_cons ev_str (ea_cons (ev_tup (ea_cons (ev_tup (ea_cons ev_int (ea_cons (ev_var rfl) ea_nil)) (by simp)) ea_nil) (by simp)) ea_nil))) (by simp)) ev_non (c5 leaf hl)))) rfl) fun _ => et_is (et_not (et_test (ev_isP (ev_tup (ea_cons ev_str (ea_cons ev_str (ea_cons (ev_tup (ea_cons (ev_tup (ea_cons ev_int (ea_cons (ev_var rfl) ea_nil)) (by simp)) ea_nil) (by simp)) ea_nil))) (by simp)) (ev_tup ea_nil (by simp)) (c6 leaf hl)))) rfl) rfl) fun B9 H9 x9 st => ?_
    refine q_asg st (d := .list rows59) (ev_call (ea_cons ev_int ea_nil) ⟨rfl, rfl⟩) fun v10 B10 H10 x10 d10 st => ?_
    refine q_whenF st (et_is (et_or (a := false) (b := false) (et_is (et_not (et_test (ev_isP (ev_tup (ea_cons ev_str (ea_cons (ev_cb (ea_cons (ev_var rfl) ea_nil) rc_tupL) ea_nil)) (by simp)) ev_non c7))) rfl) fun _ => et_is (et_not (et_test (ev_isP (ev_tup (ea_cons ev_str (ea_cons (ev_cb (ea_cons (ev_op (ev_var rfl) (ev_lst (ea_cons (ev_var rfl) ea_nil) (by simp)) (rd_cat (by rw [rows59_len]; exact (show 11 + 1 ≤ 100000 by decide)))) ea_nil) rc_tupL) ea_nil)) (by simp)) (ev_tup ea_nil (by simp)) (c8 leaf hl)))) rfl) rfl) fun B11 H11 x11 st => ?_
    refine qx_asg st (R := fun d O' => (d = sixD leaf 2 ∨ d = sixD leaf 3) ∧ Mv p O6 O') (ex_imp (ex_tup3 ev_str ev_int (ex_tup3 ev_str ev_int (ex_tup2 ev_str (ex_op (ex_pure (ev_tup (ea_cons (ev_var rfl) ea_nil) (by simp))) (R2' := fun _ O' d2 O'' => d2 ∈ [PyData.int 2, .int 3] ∧ Mv p O' O'') (fun d1 B' O' e r => by
      obtain ⟨_, rfl⟩ := r
      exact ex_item (n := 2) (ds := [.int 2, .int 3]) (ev_lst (ea_cons ev_int (ea_cons ev_int ea_nil)) (by simp)) rfl rfl m6.pool (by decide) (by decide)) (R3 := fun d O' => (d = .tuple (List.replicate (Int.toNat 2) [leaf]).flatten ∨ d = .tuple (List.replicate (Int.toNat 3) [leaf]).flatten) ∧ Mv p O6 O') (fun d1 O' d2 O'' r1 r2 => by
      obtain ⟨rfl, rfl⟩ := r1
      obtain ⟨hm2, mm⟩ := r2
      have : d2 = .int 2 ∨ d2 = .int 3 := by simpa using hm2
      rcases this with rfl | rfl
      · exact ⟨_, rd_repT (by simp) (by decide) (by simp), .inl rfl, mm⟩
      · exact ⟨_, rd_repT (by simp) (by decide) (by simp), .inr rfl, mm⟩))))) fun d O' r => by
        obtain ⟨z, rfl, z2, rfl, z3, rfl, h, mm⟩ := r
        rcases h with rfl | rfl
        · exact ⟨.inl rfl, mm⟩
        · exact ⟨.inr rfl, mm⟩) fun v12 six B12 O12 H12 x12 ⟨h6, m12⟩ dv12 st => ?_
    refine q_asg st (ev_tup (ea_cons ev_str (ea_cons (ev_tup (ea_cons (ev_var rfl) (ea_cons (ev_var rfl) (ea_cons (ev_var rfl) (ea_cons (ev_var rfl) (ea_cons (ev_var rfl) (ea_cons (ev_var rfl) (ea_cons (ev_var rfl) ea_nil))))))) (by simp)) ea_nil)) (by simp)) fun v13 B13 H13 x13 d13 st => ?_
    have fin : ∀ {B14 H14 σ14} {G14 : List SD}, Ex B13 B14 → Sta K B14 O12 G14 σ14 H14 → (∃ x1 x2 x3 x4 x5 x6 x7 x8 x9 : SD, G14 = [.val (.ref a), x1, x2, x3, x4, x5, x6, x7, x8, x9]) → N σ14 H14 := fun {B14 H14 σ14 G14} x14 st hG =>
      hN B14 _ _ _ _ (((((((((((x2.trans x3).trans x4).trans x5).trans x6).trans x7).trans x8).trans x9).trans x10).trans x11).trans x12).trans (x13.trans x14)) ⟨rfl, hG⟩ ⟨W_less st.w (fun _ _ e => nomatch e), st.s⟩
    rcases h6 with rfl | rfl
    · refine s_if (b := false) st (et_is (et_not (et_test (ev_isP (po := none) (ev_var rfl) (ev_if (b := true) (et_is (et_test (ev_op (ev_op ev_int (ev_op ev_int (ev_op ev_int (ev_op ev_int (ev_op ev_int (ev_op ev_int (ev_op ev_int (ev_cb (ea_cons (ev_op (ev_op (ev_op (ev_is (ev_var (i := 7) rfl) (show sixD leaf 2 = .tuple [.str "times", .int 6, .tuple [.str "times", .int 6, .tuple [.str "row", .tuple (List.replicate (Int.toNat 2) [leaf]).flatten]]] from rfl)) ev_int (rd_ixT at2)) ev_int (rd_ixT at2)) ev_int (rd_ixT at1)) ea_nil) rc_lenT) rd_I0) (rd_I (.inl ⟨by decide, by decide⟩))) rd_I0) (rd_I (.inl ⟨by decide, by decide⟩))) rd_I0) (rd_I (.inl ⟨by decide, by decide⟩))) rd_I0) ev_int rd_B0)) (by rfl)) (fun _ => ev_non) (fun z => Bool.noConfusion z)) (c9 leaf hl)))) rfl) (fun z => nomatch z) fun _ B14 H14 x14 st => fin x14 st ⟨_, _, _, _, _, _, _, _, _, rfl⟩
    · refine s_if (b := false) st (et_is (et_not (et_test (ev_isP (po := some []) (ev_var rfl) (ev_if (b := false) (et_is (et_test (ev_op (ev_op ev_int (ev_op ev_int (ev_op ev_int (ev_op ev_int (ev_op ev_int (ev_op ev_int (ev_op ev_int (ev_cb (ea_cons (ev_op (ev_op (ev_op (ev_is (ev_var (i := 7) rfl) (show sixD leaf 3 = .tuple [.str "times", .int 6, .tuple [.str "times", .int 6, .tuple [.str "row", .tuple (List.replicate (Int.toNat 3) [leaf]).flatten]]] from rfl)) ev_int (rd_ixT at2)) ev_int (rd_ixT at2)) ev_int (rd_ixT at1)) ea_nil) rc_lenT) rd_I0) (rd_I (.inl ⟨by decide, by decide⟩))) rd_I0) (rd_I (.inl ⟨by decide, by decide⟩))) rd_I0) (rd_I (.inl ⟨by decide, by decide⟩))) rd_I0) ev_int rd_B0)) (by rfl)) (fun z => Bool.noConfusion z) (fun _ => ev_tup ea_nil (by simp))) (c10 leaf hl)))) rfl) (fun z => nomatch z) fun _ B14 H14 x14 st => fin x14 st ⟨_, _, _, _, _, _, _, _, _, rfl⟩
  · rintro B1 O1 G1 σ1 H1 x1 ⟨rfl, y1, y2, y3, y4, y5, y6, y7, y8, y9, rfl⟩ st
    exact s_ret st ev_bl fun v B2 H2 x2 w2 d2 => by
      rw [dp_bool d2]
      exact q H2
end
end Toy

set_option Elab.async false
set_option linter.all false
set_option maxRecDepth 100000
set_option maxHeartbeats 4000000
namespace Toy
open PySem PySem.Spec PyProof.Rows L2 StX DL

abbrev s_NoPart_init : Stmt := clsS 3 0
abbrev N_sc_NoPart_init : List Str := ["self", "path"]
theorem sc_NoPart_init : FnScope N_sc_NoPart_init ["self", "path"] (defScope s_NoPart_init) := ⟨rfl, rfl, rfl, by decide +kernel, rfl, by decide +kernel, by decide +kernel⟩
theorem ns_missing {P : Params} {K : PySem.W.Frag} {a : Addr} {es : Array DictEntry} {n : Nat} {ks : List Str} {x : Str} (hl : K.lookup a = some ⟨.type "dict", none, .dict es n, #[]⟩) (hk : es.toList.map He.keyOf = He.keysIn P ks) (hx : ∀ k, k ∈ ks → k ≠ x) : PySem.W.nsIn K a x = some none := by
  have key : ∀ (l : List DictEntry) (ks : List Str), l.map He.keyOf = He.keysIn P ks → (∀ k, k ∈ ks → k ≠ x) → l.find? (·.key.isStr x) = none ∧ l.any (·.refKey) = false := fun l => by
    induction l with
    | nil => exact fun _ _ _ => ⟨rfl, rfl⟩
    | cons e r ih =>
      intro ks h hx
      cases ks with
      | nil => cases h
      | cons k ks =>
        have h1 : He.keyOf e :: r.map He.keyOf = some (k, PyData.keyHash P k) :: He.keysIn P ks := h
        injection h1 with h2 h3
        obtain ⟨i1, i2⟩ := ih ks h3 fun k hk => hx k (.tail _ hk)
        have hne := hx k (.head _)
        unfold He.keyOf at h2
        split at h2
        · rename_i y t q
          have h4 : y = k := congrArg Prod.fst (Option.some.inj h2)
          subst h4
          have e1 : e.key.isStr x = false := by
            rw [q]
            exact beq_eq_false_iff_ne.mpr hne
          have e2 : e.refKey = false := by
            unfold DictEntry.refKey
            rw [q]
          rw [List.find?_cons, e1, List.any_cons, e2]
          exact ⟨i1, i2⟩
        · cases h2
  obtain ⟨k1, k2⟩ := key es.toList ks hk hx
  unfold PySem.W.nsIn
  rw [hl]
  dsimp only
  rw [k1]
  dsimp only
  rw [k2]
  rfl
theorem _root_.DL.At.held {P : Program} {w : World} {K : PySem.W.Frag} {mg : Str → Option Value} {base : Heap} {x : Str} {st : Stmt} {ps : List Str} {f : Addr} {fd : FuncData} {k : Nat} {sp : Sp} (a : At K mg x st ps f fd) (h : FnOk P w K mg base CX0 k f fd ps sp) : Held P w K mg base k f sp := ⟨fd, ps, h, a.fn.kp, a.bi⟩
theorem all_mk {l : PySem.W.OpenLaw} {w : World} {K : PySem.W.Frag} {h : Heap} {mg : Str → Option Value} {fa : Addr} (X : K.In h) (G : h.Ns mainGlobals mg) (hfa : mg "law" = some (.ref fa))
    {f1 : Addr} {od1 an1 : Option Addr} {sl1 : Array (Option Value)} {oc1 kV1 dc1 pm1 cd1 ct1 : Value} {f2 : Addr} {od2 an2 : Option Addr} {sl2 : Array (Option Value)} {oc2 kV2 dc2 pm2 cd2 ct2 : Value} {f3 : Addr} {od3 an3 : Option Addr} {sl3 : Array (Option Value)} {oc3 kV3 dc3 pm3 cd3 ct3 : Value} {f4 : Addr} {od4 an4 : Option Addr} {sl4 : Array (Option Value)} {oc4 kV4 dc4 pm4 cd4 ct4 : Value} {f5 : Addr} {od5 an5 : Option Addr} {sl5 : Array (Option Value)} {oc5 kV5 dc5 pm5 cd5 ct5 : Value} {f6 : Addr} {od6 an6 : Option Addr} {sl6 : Array (Option Value)} {oc6 kV6 dc6 pm6 cd6 ct6 : Value} {f7 : Addr} {od7 an7 : Option Addr} {sl7 : Array (Option Value)} {oc7 kV7 dc7 pm7 cd7 ct7 : Value} {f8 : Addr} {od8 an8 : Option Addr} {sl8 : Array (Option Value)} {oc8 kV8 dc8 pm8 cd8 ct8 : Value} {f9 : Addr} {od9 an9 : Option Addr} {sl9 : Array (Option Value)} {oc9 kV9 dc9 pm9 cd9 ct9 : Value} {f10 : Addr} {od10 an10 : Option Addr} {sl10 : Array (Option Value)} {oc10 kV10 dc10 pm10 cd10 ct10 : Value} {f11 : Addr} {od11 an11 : Option Addr} {sl11 : Array (Option Value)} {oc11 kV11 dc11 pm11 cd11 ct11 : Value} {f12 : Addr} {od12 an12 : Option Addr} {sl12 : Array (Option Value)} {oc12 kV12 dc12 pm12 cd12 ct12 : Value} {f13 : Addr} {od13 an13 : Option Addr} {sl13 : Array (Option Value)} {oc13 kV13 dc13 pm13 cd13 ct13 : Value} {f14 : Addr} {od14 an14 : Option Addr} {sl14 : Array (Option Value)} {oc14 kV14 dc14 pm14 cd14 ct14 : Value} {f15 : Addr} {od15 an15 : Option Addr} {sl15 : Array (Option Value)} {oc15 kV15 dc15 pm15 cd15 ct15 : Value} {f16 : Addr} {od16 an16 : Option Addr} {sl16 : Array (Option Value)} {oc16 kV16 dc16 pm16 cd16 ct16 : Value} {f17 : Addr} {od17 an17 : Option Addr} {sl17 : Array (Option Value)} {oc17 kV17 dc17 pm17 cd17 ct17 : Value} {f18 : Addr} {od18 an18 : Option Addr} {sl18 : Array (Option Value)} {oc18 kV18 dc18 pm18 cd18 ct18 : Value} {f19 : Addr} {od19 an19 : Option Addr} {sl19 : Array (Option Value)} {oc19 kV19 dc19 pm19 cd19 ct19 : Value} {f20 : Addr} {od20 an20 : Option Addr} {sl20 : Array (Option Value)} {oc20 kV20 dc20 pm20 cd20 ct20 : Value} {f21 : Addr} {od21 an21 : Option Addr} {sl21 : Array (Option Value)} {oc21 kV21 dc21 pm21 cd21 ct21 : Value} {f22 : Addr} {od22 an22 : Option Addr} {sl22 : Array (Option Value)} {oc22 kV22 dc22 pm22 cd22 ct22 : Value} {f23 : Addr} {od23 an23 : Option Addr} {sl23 : Array (Option Value)} {oc23 kV23 dc23 pm23 cd23 ct23 : Value} {f24 : Addr} {od24 an24 : Option Addr} {sl24 : Array (Option Value)} {oc24 kV24 dc24 pm24 cd24 ct24 : Value} {f25 : Addr} {od25 an25 : Option Addr} {sl25 : Array (Option Value)} {oc25 kV25 dc25 pm25 cd25 ct25 : Value} {f26 : Addr} {od26 an26 : Option Addr} {sl26 : Array (Option Value)} {oc26 kV26 dc26 pm26 cd26 ct26 : Value} {f27 : Addr} {od27 an27 : Option Addr} {sl27 : Array (Option Value)} {oc27 kV27 dc27 pm27 cd27 ct27 : Value} {f28 : Addr} {od28 an28 : Option Addr} {sl28 : Array (Option Value)} {oc28 kV28 dc28 pm28 cd28 ct28 : Value} {t_MOST_CELL_BOUND : Tok} {t_MOST_DEEP : Tok} {t_MOST_PARTS : Tok} {t_MOST_COUNTED : Tok} {p_MANNERS : Addr} {dd_MANNERS : Option Addr} {nn_MANNERS : Nat} {sl_MANNERS : Array (Option Value)} {w0_MANNERS w1_MANNERS : Tok} {p_LIMITS : Addr} {dd_LIMITS : Option Addr} {nn_LIMITS : Nat} {sl_LIMITS : Array (Option Value)} {w0_LIMITS w1_LIMITS w2_LIMITS : Tok} {p_RESTS : Addr} {dd_RESTS : Option Addr} {nn_RESTS : Nat} {sl_RESTS : Array (Option Value)} {w0_RESTS w1_RESTS : Tok} {p_HOLDERS : Addr} {dd_HOLDERS : Option Addr} {nn_HOLDERS : Nat} {sl_HOLDERS : Array (Option Value)} {w0_HOLDERS w1_HOLDERS w2_HOLDERS w3_HOLDERS w4_HOLDERS : Tok} {p_F : Addr} {es_F : Array DictEntry} {nn_F : Nat} {p_G : Addr} {es_G : Array DictEntry} {nn_G : Nat} {tl0 : Tok} {tl1 : Tok} {tl2 : Tok} {tl3 : Tok} {tl4 : Tok} {tl5 : Tok} {tl6 : Tok} {tl7 : Tok} {tl8 : Tok} {tl9 : Tok} {tA : Addr} {ddA : Option Addr} {nA : Nat} {slTA : Array (Option Value)} {fA : Addr} {odA anA : Option Addr} {slA : Array (Option Value)} {ocA kVA dcA pmA cdA ctA : Value} {tB : Addr} {ddB : Option Addr} {nB : Nat} {slTB : Array (Option Value)} {fB : Addr} {odB anB : Option Addr} {slB : Array (Option Value)} {ocB kVB dcB pmB cdB ctB : Value} {CS : Addr} {fiS : Addr} {odiS aniS : Option Addr} {sliS : Array (Option Value)} {ociS kViS dciS pmiS cdiS ctiS : Value} {CR : Addr} {fiR : Addr} {odiR aniR : Option Addr} {sliR : Array (Option Value)} {ociR kViR dciR pmiR cdiR ctiR : Value} {CN : Addr} {fxN : Addr} {odxN anxN : Option Addr} {slxN : Array (Option Value)} {ocxN kVxN dcxN pmxN cdxN ctxN : Value} {nmN qqN : Str} {NNN : Addr} {bsN bmN subN : List Value} {snN : List Str} {abN : Bool} {colN : Option Bool} {ddoN : Option Addr} {k0N k1N k2N k3N k5N : Option Value}
    (a1 : PySem.W.nsIn K mainGlobals "is_integer" = some (some (.ref f1)))
    (l1 : K.lookup f1 = some ⟨oc1, od1, .func (PySem.W.fnOf "is_integer" "is_integer" (defArgs s_is_integer) (defBody s_is_integer) (defScope s_is_integer) .none kV1 dc1 pm1 an1 cd1 ct1), sl1⟩)
    (c1 : PySem.W.codeIn K cd1 "is_integer" = true)
    (k1 : PySem.W.keepIn K (.ref f1) = true)
    (a2 : PySem.W.nsIn K mainGlobals "is_one_of" = some (some (.ref f2)))
    (l2 : K.lookup f2 = some ⟨oc2, od2, .func (PySem.W.fnOf "is_one_of" "is_one_of" (defArgs s_is_one_of) (defBody s_is_one_of) (defScope s_is_one_of) .none kV2 dc2 pm2 an2 cd2 ct2), sl2⟩)
    (c2 : PySem.W.codeIn K cd2 "is_one_of" = true)
    (k2 : PySem.W.keepIn K (.ref f2) = true)
    (a3 : PySem.W.nsIn K mainGlobals "is_cell" = some (some (.ref f3)))
    (l3 : K.lookup f3 = some ⟨oc3, od3, .func (PySem.W.fnOf "is_cell" "is_cell" (defArgs s_is_cell) (defBody s_is_cell) (defScope s_is_cell) .none kV3 dc3 pm3 an3 cd3 ct3), sl3⟩)
    (c3 : PySem.W.codeIn K cd3 "is_cell" = true)
    (k3 : PySem.W.keepIn K (.ref f3) = true)
    (a4 : PySem.W.nsIn K mainGlobals "is_row" = some (some (.ref f4)))
    (l4 : K.lookup f4 = some ⟨oc4, od4, .func (PySem.W.fnOf "is_row" "is_row" (defArgs s_is_row) (defBody s_is_row) (defScope s_is_row) .none kV4 dc4 pm4 an4 cd4 ct4), sl4⟩)
    (c4 : PySem.W.codeIn K cd4 "is_row" = true)
    (k4 : PySem.W.keepIn K (.ref f4) = true)
    (a5 : PySem.W.nsIn K mainGlobals "is_choice" = some (some (.ref f5)))
    (l5 : K.lookup f5 = some ⟨oc5, od5, .func (PySem.W.fnOf "is_choice" "is_choice" (defArgs s_is_choice) (defBody s_is_choice) (defScope s_is_choice) .none kV5 dc5 pm5 an5 cd5 ct5), sl5⟩)
    (c5 : PySem.W.codeIn K cd5 "is_choice" = true)
    (k5 : PySem.W.keepIn K (.ref f5) = true)
    (a6 : PySem.W.nsIn K mainGlobals "is_times" = some (some (.ref f6)))
    (l6 : K.lookup f6 = some ⟨oc6, od6, .func (PySem.W.fnOf "is_times" "is_times" (defArgs s_is_times) (defBody s_is_times) (defScope s_is_times) .none kV6 dc6 pm6 an6 cd6 ct6), sl6⟩)
    (c6 : PySem.W.codeIn K cd6 "is_times" = true)
    (k6 : PySem.W.keepIn K (.ref f6) = true)
    (a7 : PySem.W.nsIn K mainGlobals "is_counted" = some (some (.ref f7)))
    (l7 : K.lookup f7 = some ⟨oc7, od7, .func (PySem.W.fnOf "is_counted" "is_counted" (defArgs s_is_counted) (defBody s_is_counted) (defScope s_is_counted) .none kV7 dc7 pm7 an7 cd7 ct7), sl7⟩)
    (c7 : PySem.W.codeIn K cd7 "is_counted" = true)
    (k7 : PySem.W.keepIn K (.ref f7) = true)
    (a8 : PySem.W.nsIn K mainGlobals "is_within" = some (some (.ref f8)))
    (l8 : K.lookup f8 = some ⟨oc8, od8, .func (PySem.W.fnOf "is_within" "is_within" (defArgs s_is_within) (defBody s_is_within) (defScope s_is_within) .none kV8 dc8 pm8 an8 cd8 ct8), sl8⟩)
    (c8 : PySem.W.codeIn K cd8 "is_within" = true)
    (k8 : PySem.W.keepIn K (.ref f8) = true)
    (a9 : PySem.W.nsIn K mainGlobals "is_holder" = some (some (.ref f9)))
    (l9 : K.lookup f9 = some ⟨oc9, od9, .func (PySem.W.fnOf "is_holder" "is_holder" (defArgs s_is_holder) (defBody s_is_holder) (defScope s_is_holder) .none kV9 dc9 pm9 an9 cd9 ct9), sl9⟩)
    (c9 : PySem.W.codeIn K cd9 "is_holder" = true)
    (k9 : PySem.W.keepIn K (.ref f9) = true)
    (a10 : PySem.W.nsIn K mainGlobals "is_need" = some (some (.ref f10)))
    (l10 : K.lookup f10 = some ⟨oc10, od10, .func (PySem.W.fnOf "is_need" "is_need" (defArgs s_is_need) (defBody s_is_need) (defScope s_is_need) .none kV10 dc10 pm10 an10 cd10 ct10), sl10⟩)
    (c10 : PySem.W.codeIn K cd10 "is_need" = true)
    (k10 : PySem.W.keepIn K (.ref f10) = true)
    (a11 : PySem.W.nsIn K mainGlobals "is_pad" = some (some (.ref f11)))
    (l11 : K.lookup f11 = some ⟨oc11, od11, .func (PySem.W.fnOf "is_pad" "is_pad" (defArgs s_is_pad) (defBody s_is_pad) (defScope s_is_pad) .none kV11 dc11 pm11 an11 cd11 ct11), sl11⟩)
    (c11 : PySem.W.codeIn K cd11 "is_pad" = true)
    (k11 : PySem.W.keepIn K (.ref f11) = true)
    (a12 : PySem.W.nsIn K mainGlobals "has_form" = some (some (.ref f12)))
    (l12 : K.lookup f12 = some ⟨oc12, od12, .func (PySem.W.fnOf "has_form" "has_form" (defArgs s_has_form) (defBody s_has_form) (defScope s_has_form) .none kV12 dc12 pm12 an12 cd12 ct12), sl12⟩)
    (c12 : PySem.W.codeIn K cd12 "has_form" = true)
    (k12 : PySem.W.keepIn K (.ref f12) = true)
    (a13 : PySem.W.nsIn K mainGlobals "is_barred_from_told" = some (some (.ref f13)))
    (l13 : K.lookup f13 = some ⟨oc13, od13, .func (PySem.W.fnOf "is_barred_from_told" "is_barred_from_told" (defArgs s_is_barred_from_told) (defBody s_is_barred_from_told) (defScope s_is_barred_from_told) .none kV13 dc13 pm13 an13 cd13 ct13), sl13⟩)
    (c13 : PySem.W.codeIn K cd13 "is_barred_from_told" = true)
    (k13 : PySem.W.keepIn K (.ref f13) = true)
    (a14 : PySem.W.nsIn K mainGlobals "suits_its_part" = some (some (.ref f14)))
    (l14 : K.lookup f14 = some ⟨oc14, od14, .func (PySem.W.fnOf "suits_its_part" "suits_its_part" (defArgs s_suits_its_part) (defBody s_suits_its_part) (defScope s_suits_its_part) .none kV14 dc14 pm14 an14 cd14 ct14), sl14⟩)
    (c14 : PySem.W.codeIn K cd14 "suits_its_part" = true)
    (k14 : PySem.W.keepIn K (.ref f14) = true)
    (a15 : PySem.W.nsIn K mainGlobals "counted_parts" = some (some (.ref f15)))
    (l15 : K.lookup f15 = some ⟨oc15, od15, .func (PySem.W.fnOf "counted_parts" "counted_parts" (defArgs s_counted_parts) (defBody s_counted_parts) (defScope s_counted_parts) .none kV15 dc15 pm15 an15 cd15 ct15), sl15⟩)
    (c15 : PySem.W.codeIn K cd15 "counted_parts" = true)
    (k15 : PySem.W.keepIn K (.ref f15) = true)
    (a16 : PySem.W.nsIn K mainGlobals "is_part" = some (some (.ref f16)))
    (l16 : K.lookup f16 = some ⟨oc16, od16, .func (PySem.W.fnOf "is_part" "is_part" (defArgs s_is_part) (defBody s_is_part) (defScope s_is_part) .none kV16 dc16 pm16 an16 cd16 ct16), sl16⟩)
    (c16 : PySem.W.codeIn K cd16 "is_part" = true)
    (k16 : PySem.W.keepIn K (.ref f16) = true)
    (a17 : PySem.W.nsIn K mainGlobals "size_of" = some (some (.ref f17)))
    (l17 : K.lookup f17 = some ⟨oc17, od17, .func (PySem.W.fnOf "size_of" "size_of" (defArgs s_size_of) (defBody s_size_of) (defScope s_size_of) .none kV17 dc17 pm17 an17 cd17 ct17), sl17⟩)
    (c17 : PySem.W.codeIn K cd17 "size_of" = true)
    (k17 : PySem.W.keepIn K (.ref f17) = true)
    (a18 : PySem.W.nsIn K mainGlobals "parts_of" = some (some (.ref f18)))
    (l18 : K.lookup f18 = some ⟨oc18, od18, .func (PySem.W.fnOf "parts_of" "parts_of" (defArgs s_parts_of) (defBody s_parts_of) (defScope s_parts_of) .none kV18 dc18 pm18 an18 cd18 ct18), sl18⟩)
    (c18 : PySem.W.codeIn K cd18 "parts_of" = true)
    (k18 : PySem.W.keepIn K (.ref f18) = true)
    (a19 : PySem.W.nsIn K mainGlobals "subparts" = some (some (.ref f19)))
    (l19 : K.lookup f19 = some ⟨oc19, od19, .func (PySem.W.fnOf "subparts" "subparts" (defArgs s_subparts) (defBody s_subparts) (defScope s_subparts) .none kV19 dc19 pm19 an19 cd19 ct19), sl19⟩)
    (c19 : PySem.W.codeIn K cd19 "subparts" = true)
    (k19 : PySem.W.keepIn K (.ref f19) = true)
    (a20 : PySem.W.nsIn K mainGlobals "first_wrong" = some (some (.ref f20)))
    (l20 : K.lookup f20 = some ⟨oc20, od20, .func (PySem.W.fnOf "first_wrong" "first_wrong" (defArgs s_first_wrong) (defBody s_first_wrong) (defScope s_first_wrong) .none kV20 dc20 pm20 an20 cd20 ct20), sl20⟩)
    (c20 : PySem.W.codeIn K cd20 "first_wrong" = true)
    (k20 : PySem.W.keepIn K (.ref f20) = true)
    (a21 : PySem.W.nsIn K mainGlobals "check_part" = some (some (.ref f21)))
    (l21 : K.lookup f21 = some ⟨oc21, od21, .func (PySem.W.fnOf "check_part" "check_part" (defArgs s_check_part) (defBody s_check_part) (defScope s_check_part) .none kV21 dc21 pm21 an21 cd21 ct21), sl21⟩)
    (c21 : PySem.W.codeIn K cd21 "check_part" = true)
    (k21 : PySem.W.keepIn K (.ref f21) = true)
    (a22 : PySem.W.nsIn K mainGlobals "_law_pool" = some (some (.ref f22)))
    (l22 : K.lookup f22 = some ⟨oc22, od22, .func (PySem.W.fnOf "_law_pool" "_law_pool" (defArgs s_law_pool) (defBody s_law_pool) (defScope s_law_pool) .none kV22 dc22 pm22 an22 cd22 ct22), sl22⟩)
    (c22 : PySem.W.codeIn K cd22 "_law_pool" = true)
    (k22 : PySem.W.keepIn K (.ref f22) = true)
    (a23 : PySem.W.nsIn K mainGlobals "_law_draw" = some (some (.ref f23)))
    (l23 : K.lookup f23 = some ⟨oc23, od23, .func (PySem.W.fnOf "_law_draw" "_law_draw" (defArgs s_law_draw) (defBody s_law_draw) (defScope s_law_draw) .none kV23 dc23 pm23 an23 cd23 ct23), sl23⟩)
    (c23 : PySem.W.codeIn K cd23 "_law_draw" = true)
    (k23 : PySem.W.keepIn K (.ref f23) = true)
    (a24 : PySem.W.nsIn K mainGlobals "_law_told" = some (some (.ref f24)))
    (l24 : K.lookup f24 = some ⟨oc24, od24, .func (PySem.W.fnOf "_law_told" "_law_told" (defArgs s_law_told) (defBody s_law_told) (defScope s_law_told) .none kV24 dc24 pm24 an24 cd24 ct24), sl24⟩)
    (c24 : PySem.W.codeIn K cd24 "_law_told" = true)
    (k24 : PySem.W.keepIn K (.ref f24) = true)
    (a25 : PySem.W.nsIn K mainGlobals "_law_is" = some (some (.ref f25)))
    (l25 : K.lookup f25 = some ⟨oc25, od25, .func (PySem.W.fnOf "_law_is" "_law_is" (defArgs s_law_is) (defBody s_law_is) (defScope s_law_is) .none kV25 dc25 pm25 an25 cd25 ct25), sl25⟩)
    (c25 : PySem.W.codeIn K cd25 "_law_is" = true)
    (k25 : PySem.W.keepIn K (.ref f25) = true)
    (a26 : PySem.W.nsIn K mainGlobals "_law_chain" = some (some (.ref f26)))
    (l26 : K.lookup f26 = some ⟨oc26, od26, .func (PySem.W.fnOf "_law_chain" "_law_chain" (defArgs s_law_chain) (defBody s_law_chain) (defScope s_law_chain) .none kV26 dc26 pm26 an26 cd26 ct26), sl26⟩)
    (c26 : PySem.W.codeIn K cd26 "_law_chain" = true)
    (k26 : PySem.W.keepIn K (.ref f26) = true)
    (a27 : PySem.W.nsIn K mainGlobals "_law_rows" = some (some (.ref f27)))
    (l27 : K.lookup f27 = some ⟨oc27, od27, .func (PySem.W.fnOf "_law_rows" "_law_rows" (defArgs s_law_rows) (defBody s_law_rows) (defScope s_law_rows) .none kV27 dc27 pm27 an27 cd27 ct27), sl27⟩)
    (c27 : PySem.W.codeIn K cd27 "_law_rows" = true)
    (k27 : PySem.W.keepIn K (.ref f27) = true)
    (a28 : PySem.W.nsIn K mainGlobals "law" = some (some (.ref f28)))
    (l28 : K.lookup f28 = some ⟨oc28, od28, .func (PySem.W.fnOf "law" "law" (defArgs s_law) (defBody s_law) (defScope s_law) .none kV28 dc28 pm28 an28 cd28 ct28), sl28⟩)
    (c28 : PySem.W.codeIn K cd28 "law" = true)
    (k28 : PySem.W.keepIn K (.ref f28) = true)
    (z_len : PySem.W.nsIn K mainGlobals "len" = some none)
    (z_list : PySem.W.nsIn K mainGlobals "list" = some none)
    (z_tuple : PySem.W.nsIn K mainGlobals "tuple" = some none)
    (z_int : PySem.W.nsIn K mainGlobals "int" = some none)
    (z_str : PySem.W.nsIn K mainGlobals "str" = some none)
    (z_bool : PySem.W.nsIn K mainGlobals "bool" = some none)
    (z_abs : PySem.W.nsIn K mainGlobals "abs" = some none)
    (z_sum : PySem.W.nsIn K mainGlobals "sum" = some none)
    (z_all : PySem.W.nsIn K mainGlobals "all" = some none)
    (z_any : PySem.W.nsIn K mainGlobals "any" = some none)
    (z_max : PySem.W.nsIn K mainGlobals "max" = some none)
    (z_min : PySem.W.nsIn K mainGlobals "min" = some none)
    (z_range : PySem.W.nsIn K mainGlobals "range" = some none)
    (z_enumerate : PySem.W.nsIn K mainGlobals "enumerate" = some none)
    (z_isinstance : PySem.W.nsIn K mainGlobals "isinstance" = some none)
    (g_MOST_CELL_BOUND : PySem.W.nsIn K mainGlobals "MOST_CELL_BOUND" = some (some (.int 1000000 t_MOST_CELL_BOUND)))
    (g_MOST_DEEP : PySem.W.nsIn K mainGlobals "MOST_DEEP" = some (some (.int 8 t_MOST_DEEP)))
    (g_MOST_PARTS : PySem.W.nsIn K mainGlobals "MOST_PARTS" = some (some (.int 60 t_MOST_PARTS)))
    (g_MOST_COUNTED : PySem.W.nsIn K mainGlobals "MOST_COUNTED" = some (some (.int 1000 t_MOST_COUNTED)))
    (g_MANNERS : PySem.W.nsIn K mainGlobals "MANNERS" = some (some (.ref p_MANNERS)))
    (v_MANNERS : K.lookup p_MANNERS = some ⟨.type "tuple", dd_MANNERS, .seq #[.str "checked" w0_MANNERS, .str "bare" w1_MANNERS] nn_MANNERS, sl_MANNERS⟩)
    (g_LIMITS : PySem.W.nsIn K mainGlobals "LIMITS" = some (some (.ref p_LIMITS)))
    (v_LIMITS : K.lookup p_LIMITS = some ⟨.type "tuple", dd_LIMITS, .seq #[.str "nested" w0_LIMITS, .str "cut" w1_LIMITS, .str "told" w2_LIMITS] nn_LIMITS, sl_LIMITS⟩)
    (g_RESTS : PySem.W.nsIn K mainGlobals "RESTS" = some (some (.ref p_RESTS)))
    (v_RESTS : K.lookup p_RESTS = some ⟨.type "tuple", dd_RESTS, .seq #[.str "skip" w0_RESTS, .str "exact" w1_RESTS] nn_RESTS, sl_RESTS⟩)
    (g_HOLDERS : PySem.W.nsIn K mainGlobals "HOLDERS" = some (some (.ref p_HOLDERS)))
    (v_HOLDERS : K.lookup p_HOLDERS = some ⟨.type "tuple", dd_HOLDERS, .seq #[.str "times" w0_HOLDERS, .str "counted" w1_HOLDERS, .str "within" w2_HOLDERS, .str "fill" w3_HOLDERS, .str "if left" w4_HOLDERS] nn_HOLDERS, sl_HOLDERS⟩)
    (g_F : PySem.W.nsIn K mainGlobals "FORMS" = some (some (.ref p_F)))
    (v_F : K.lookup p_F = some ⟨.type "dict", none, .dict es_F nn_F, #[]⟩)
    (ks_F : es_F.toList.map He.keyOf = He.keysIn w.params ["cell", "row", "choice", "times", "counted", "within", "fill", "if left", "need", "pad"])
    (lo_F : (p_F == sysModules) = false)
    (g_G : PySem.W.nsIn K mainGlobals "LENGTHS" = some (some (.ref p_G)))
    (v_G : K.lookup p_G = some ⟨.type "dict", none, .dict es_G nn_G, #[]⟩)
    (ks_G : es_G.toList.map He.keyOf = He.keysIn w.params ["cell", "row", "choice", "times", "counted", "within", "fill", "if left", "need", "pad"])
    (lo_G : (p_G == sysModules) = false)
    (ff0 : PySem.W.nsIn K p_F "cell" = some (some (.ref f3)))
    (fl0 : PySem.W.nsIn K p_G "cell" = some (some (.int 4 tl0)))
    (ff1 : PySem.W.nsIn K p_F "row" = some (some (.ref f4)))
    (fl1 : PySem.W.nsIn K p_G "row" = some (some (.int 2 tl1)))
    (ff2 : PySem.W.nsIn K p_F "choice" = some (some (.ref f5)))
    (fl2 : PySem.W.nsIn K p_G "choice" = some (some (.int 3 tl2)))
    (ff3 : PySem.W.nsIn K p_F "times" = some (some (.ref f6)))
    (fl3 : PySem.W.nsIn K p_G "times" = some (some (.int 3 tl3)))
    (ff4 : PySem.W.nsIn K p_F "counted" = some (some (.ref f7)))
    (fl4 : PySem.W.nsIn K p_G "counted" = some (some (.int 5 tl4)))
    (ff5 : PySem.W.nsIn K p_F "within" = some (some (.ref f8)))
    (fl5 : PySem.W.nsIn K p_G "within" = some (some (.int 6 tl5)))
    (ff6 : PySem.W.nsIn K p_F "fill" = some (some (.ref f9)))
    (fl6 : PySem.W.nsIn K p_G "fill" = some (some (.int 2 tl6)))
    (ff7 : PySem.W.nsIn K p_F "if left" = some (some (.ref f9)))
    (fl7 : PySem.W.nsIn K p_G "if left" = some (some (.int 2 tl7)))
    (ff8 : PySem.W.nsIn K p_F "need" = some (some (.ref f10)))
    (fl8 : PySem.W.nsIn K p_G "need" = some (some (.int 2 tl8)))
    (ff9 : PySem.W.nsIn K p_F "pad" = some (some (.ref f11)))
    (fl9 : PySem.W.nsIn K p_G "pad" = some (some (.int 3 tl9)))
    (aA : PySem.W.nsIn K mainGlobals "is_from" = some (some (.ref fA)))
    (lA : K.lookup fA = some ⟨ocA, odA, .func (PySem.W.fnOf "is_from" "is_from" (defArgs s_is_from) (defBody s_is_from) (defScope s_is_from) (.ref tA) kVA dcA pmA anA cdA ctA), slA⟩)
    (cA : PySem.W.codeIn K cdA "is_from" = true)
    (kA : PySem.W.keepIn K (.ref fA) = true)
    (vA : K.lookup tA = some ⟨.type "tuple", ddA, .seq #[.none] nA, slTA⟩)
    (aB : PySem.W.nsIn K mainGlobals "is_from_or_none" = some (some (.ref fB)))
    (lB : K.lookup fB = some ⟨ocB, odB, .func (PySem.W.fnOf "is_from_or_none" "is_from_or_none" (defArgs s_is_from_or_none) (defBody s_is_from_or_none) (defScope s_is_from_or_none) (.ref tB) kVB dcB pmB anB cdB ctB), slB⟩)
    (cB : PySem.W.codeIn K cdB "is_from_or_none" = true)
    (kB : PySem.W.keepIn K (.ref fB) = true)
    (vB : K.lookup tB = some ⟨.type "tuple", ddB, .seq #[.none] nB, slTB⟩)
    (gS : PySem.W.nsIn K mainGlobals "Study" = some (some (.ref CS)))
    (pgS : PySem.W.plainGet K CS Str.empty = true)
    (hdS : PySem.W.hasDictIn K CS = true)
    (poS : PySem.W.plainOver K CS = true)
    (saS : PySem.W.findIn K (.ref CS) "__setattr__" = some (some (.builtin "object.__setattr__")))
    (nS_part : PySem.W.findIn K (.ref CS) "part" = some none)
    (nS_layouts : PySem.W.findIn K (.ref CS) "layouts" = some none)
    (nS_tables : PySem.W.findIn K (.ref CS) "tables" = some none)
    (nS_efforts : PySem.W.findIn K (.ref CS) "efforts" = some none)
    (mkS : PySem.W.makesIn K CS = true)
    (aIS : PySem.W.findIn K (.ref CS) "__init__" = some (some (.ref fiS)))
    (iIS : PySem.W.isFn K (.ref fiS) = true)
    (kCS : PySem.W.keepIn K (.ref CS) = true)
    (liS : K.lookup fiS = some ⟨ociS, odiS, .func (PySem.W.fnOf "__init__" "Study.__init__" (defArgs s_Study_init) (defBody s_Study_init) (defScope s_Study_init) .none kViS dciS pmiS aniS cdiS ctiS), sliS⟩)
    (ciS : PySem.W.codeIn K cdiS "Study.__init__" = true)
    (kiS : PySem.W.keepIn K (.ref fiS) = true)
    (gR : PySem.W.nsIn K mainGlobals "Reader" = some (some (.ref CR)))
    (pgR : PySem.W.plainGet K CR Str.empty = true)
    (hdR : PySem.W.hasDictIn K CR = true)
    (poR : PySem.W.plainOver K CR = true)
    (saR : PySem.W.findIn K (.ref CR) "__setattr__" = some (some (.builtin "object.__setattr__")))
    (nR_part : PySem.W.findIn K (.ref CR) "part" = some none)
    (nR_study : PySem.W.findIn K (.ref CR) "study" = some none)
    (mkR : PySem.W.makesIn K CR = true)
    (aIR : PySem.W.findIn K (.ref CR) "__init__" = some (some (.ref fiR)))
    (iIR : PySem.W.isFn K (.ref fiR) = true)
    (kCR : PySem.W.keepIn K (.ref CR) = true)
    (liR : K.lookup fiR = some ⟨ociR, odiR, .func (PySem.W.fnOf "__init__" "Reader.__init__" (defArgs s_Reader_init) (defBody s_Reader_init) (defScope s_Reader_init) .none kViR dciR pmiR aniR cdiR ctiR), sliR⟩)
    (ciR : PySem.W.codeIn K cdiR "Reader.__init__" = true)
    (kiR : PySem.W.keepIn K (.ref fiR) = true)
    (gN : PySem.W.nsIn K mainGlobals "NoPart" = some (some (.ref CN)))
    (eN : K.lookup CN = some (excClassObj nmN qqN CN NNN bsN bmN true snN subN abN colN ddoN k0N k1N k2N k3N k5N "ValueError.__new__"))
    (rN : PySem.HandSPX.refsVE bmN = true)
    (sN : PySem.W.findIn K (.ref CN) "__setattr__" = some (some (.builtin "object.__setattr__")))
    (bbN : PySem.W.subIn K (.ref CN) (.type "BaseException") = some true)
    (tN : PySem.W.typeIn K (.ref CN) = some (.type "type"))
    (pN : PySem.W.keepIn K (.ref CN) = true)
    (noN : PySem.W.findIn K (.ref CN) "path" = some none)
    (gaN : PySem.W.findIn K (.ref CN) "__getattribute__" = some (some (.builtin "BaseException.__getattribute__")))
    (ggN : PySem.W.findIn K (.ref CN) "__getattr__" = some none)
    (hdN : PySem.W.hasDictIn K CN = true)
    (inN : PySem.W.findIn K (.ref CN) "__init__" = some (some (.ref fxN)))
    (tyN : PySem.W.typeIn K (.ref fxN) = some (.type "function"))
    (lxN : K.lookup fxN = some ⟨ocxN, odxN, .func (PySem.W.fnOf "__init__" "NoPart.__init__" (defArgs s_NoPart_init) (defBody s_NoPart_init) (defScope s_NoPart_init) .none kVxN dcxN pmxN anxN cdxN ctxN), slxN⟩)
    (cxN : PySem.W.codeIn K cdxN "NoPart.__init__" = true)
    (kxN : PySem.W.keepIn K (.ref fxN) = true)
    (sNN : PySem.W.subIn K (.ref CN) (.ref CN) = some true)
    :
    ∃ fd : FuncData, (∀ (s : Shared) (v : Value), BindsTo s fd ⟨[v], []⟩ [("script", v)]) ∧ ∀ base : Heap, K.In base → base.Ns mainGlobals mg → FnOk l.prog w K mg base CX0 32 fa fd ["script"] (spLaw K) := by
  have e := hfa.symm.trans (PySem.W.mg_of X G a28)
  cases e
  have F1 := fun_mk (st := s_is_integer) l1 c1 k1
  have b1 := F1.binds (ps := ["value"]) fun _ _ _ _ _ _ us hl => match us, hl with | [_], _ => rfl
  have A1 : At K mg "is_integer" s_is_integer ["value"] f1 _ := ⟨F1, PySem.W.mg_of X G a1, b1⟩
  have F2 := fun_mk (st := s_is_one_of) l2 c2 k2
  have b2 := F2.binds (ps := ["value", "words"]) fun _ _ _ _ _ _ us hl => match us, hl with | [_, _], _ => rfl
  have A2 : At K mg "is_one_of" s_is_one_of ["value", "words"] f2 _ := ⟨F2, PySem.W.mg_of X G a2, b2⟩
  have F3 := fun_mk (st := s_is_cell) l3 c3 k3
  have b3 := F3.binds (ps := ["part"]) fun _ _ _ _ _ _ us hl => match us, hl with | [_], _ => rfl
  have A3 : At K mg "is_cell" s_is_cell ["part"] f3 _ := ⟨F3, PySem.W.mg_of X G a3, b3⟩
  have F4 := fun_mk (st := s_is_row) l4 c4 k4
  have b4 := F4.binds (ps := ["part"]) fun _ _ _ _ _ _ us hl => match us, hl with | [_], _ => rfl
  have A4 : At K mg "is_row" s_is_row ["part"] f4 _ := ⟨F4, PySem.W.mg_of X G a4, b4⟩
  have F5 := fun_mk (st := s_is_choice) l5 c5 k5
  have b5 := F5.binds (ps := ["part"]) fun _ _ _ _ _ _ us hl => match us, hl with | [_], _ => rfl
  have A5 : At K mg "is_choice" s_is_choice ["part"] f5 _ := ⟨F5, PySem.W.mg_of X G a5, b5⟩
  have F6 := fun_mk (st := s_is_times) l6 c6 k6
  have b6 := F6.binds (ps := ["part"]) fun _ _ _ _ _ _ us hl => match us, hl with | [_], _ => rfl
  have A6 : At K mg "is_times" s_is_times ["part"] f6 _ := ⟨F6, PySem.W.mg_of X G a6, b6⟩
  have F7 := fun_mk (st := s_is_counted) l7 c7 k7
  have b7 := F7.binds (ps := ["part"]) fun _ _ _ _ _ _ us hl => match us, hl with | [_], _ => rfl
  have A7 : At K mg "is_counted" s_is_counted ["part"] f7 _ := ⟨F7, PySem.W.mg_of X G a7, b7⟩
  have F8 := fun_mk (st := s_is_within) l8 c8 k8
  have b8 := F8.binds (ps := ["part"]) fun _ _ _ _ _ _ us hl => match us, hl with | [_], _ => rfl
  have A8 : At K mg "is_within" s_is_within ["part"] f8 _ := ⟨F8, PySem.W.mg_of X G a8, b8⟩
  have F9 := fun_mk (st := s_is_holder) l9 c9 k9
  have b9 := F9.binds (ps := ["part"]) fun _ _ _ _ _ _ us hl => match us, hl with | [_], _ => rfl
  have A9 : At K mg "is_holder" s_is_holder ["part"] f9 _ := ⟨F9, PySem.W.mg_of X G a9, b9⟩
  have F10 := fun_mk (st := s_is_need) l10 c10 k10
  have b10 := F10.binds (ps := ["part"]) fun _ _ _ _ _ _ us hl => match us, hl with | [_], _ => rfl
  have A10 : At K mg "is_need" s_is_need ["part"] f10 _ := ⟨F10, PySem.W.mg_of X G a10, b10⟩
  have F11 := fun_mk (st := s_is_pad) l11 c11 k11
  have b11 := F11.binds (ps := ["part"]) fun _ _ _ _ _ _ us hl => match us, hl with | [_], _ => rfl
  have A11 : At K mg "is_pad" s_is_pad ["part"] f11 _ := ⟨F11, PySem.W.mg_of X G a11, b11⟩
  have F12 := fun_mk (st := s_has_form) l12 c12 k12
  have b12 := F12.binds (ps := ["thing"]) fun _ _ _ _ _ _ us hl => match us, hl with | [_], _ => rfl
  have A12 : At K mg "has_form" s_has_form ["thing"] f12 _ := ⟨F12, PySem.W.mg_of X G a12, b12⟩
  have F13 := fun_mk (st := s_is_barred_from_told) l13 c13 k13
  have b13 := F13.binds (ps := ["part"]) fun _ _ _ _ _ _ us hl => match us, hl with | [_], _ => rfl
  have A13 : At K mg "is_barred_from_told" s_is_barred_from_told ["part"] f13 _ := ⟨F13, PySem.W.mg_of X G a13, b13⟩
  have F14 := fun_mk (st := s_suits_its_part) l14 c14 k14
  have b14 := F14.binds (ps := ["part"]) fun _ _ _ _ _ _ us hl => match us, hl with | [_], _ => rfl
  have A14 : At K mg "suits_its_part" s_suits_its_part ["part"] f14 _ := ⟨F14, PySem.W.mg_of X G a14, b14⟩
  have F15 := fun_mk (st := s_counted_parts) l15 c15 k15
  have b15 := F15.binds (ps := ["part"]) fun _ _ _ _ _ _ us hl => match us, hl with | [_], _ => rfl
  have A15 : At K mg "counted_parts" s_counted_parts ["part"] f15 _ := ⟨F15, PySem.W.mg_of X G a15, b15⟩
  have F16 := fun_mk (st := s_is_part) l16 c16 k16
  have b16 := F16.binds (ps := ["thing"]) fun _ _ _ _ _ _ us hl => match us, hl with | [_], _ => rfl
  have A16 : At K mg "is_part" s_is_part ["thing"] f16 _ := ⟨F16, PySem.W.mg_of X G a16, b16⟩
  have F17 := fun_mk (st := s_size_of) l17 c17 k17
  have b17 := F17.binds (ps := ["part"]) fun _ _ _ _ _ _ us hl => match us, hl with | [_], _ => rfl
  have A17 : At K mg "size_of" s_size_of ["part"] f17 _ := ⟨F17, PySem.W.mg_of X G a17, b17⟩
  have F18 := fun_mk (st := s_parts_of) l18 c18 k18
  have b18 := F18.binds (ps := ["part"]) fun _ _ _ _ _ _ us hl => match us, hl with | [_], _ => rfl
  have A18 : At K mg "parts_of" s_parts_of ["part"] f18 _ := ⟨F18, PySem.W.mg_of X G a18, b18⟩
  have F19 := fun_mk (st := s_subparts) l19 c19 k19
  have b19 := F19.binds (ps := ["part"]) fun _ _ _ _ _ _ us hl => match us, hl with | [_], _ => rfl
  have A19 : At K mg "subparts" s_subparts ["part"] f19 _ := ⟨F19, PySem.W.mg_of X G a19, b19⟩
  have F20 := fun_mk (st := s_first_wrong) l20 c20 k20
  have b20 := F20.binds (ps := ["part", "path"]) fun _ _ _ _ _ _ us hl => match us, hl with | [_, _], _ => rfl
  have A20 : At K mg "first_wrong" s_first_wrong ["part", "path"] f20 _ := ⟨F20, PySem.W.mg_of X G a20, b20⟩
  have F21 := fun_mk (st := s_check_part) l21 c21 k21
  have b21 := F21.binds (ps := ["part"]) fun _ _ _ _ _ _ us hl => match us, hl with | [_], _ => rfl
  have A21 : At K mg "check_part" s_check_part ["part"] f21 _ := ⟨F21, PySem.W.mg_of X G a21, b21⟩
  have F22 := fun_mk (st := s_law_pool) l22 c22 k22
  have b22 := F22.binds (ps := ["script", "k"]) fun _ _ _ _ _ _ us hl => match us, hl with | [_, _], _ => rfl
  have A22 : At K mg "_law_pool" s_law_pool ["script", "k"] f22 _ := ⟨F22, PySem.W.mg_of X G a22, b22⟩
  have F23 := fun_mk (st := s_law_draw) l23 c23 k23
  have b23 := F23.binds (ps := ["pool", "count"]) fun _ _ _ _ _ _ us hl => match us, hl with | [_, _], _ => rfl
  have A23 : At K mg "_law_draw" s_law_draw ["pool", "count"] f23 _ := ⟨F23, PySem.W.mg_of X G a23, b23⟩
  have F24 := fun_mk (st := s_law_told) l24 c24 k24
  have b24 := F24.binds (ps := ["part"]) fun _ _ _ _ _ _ us hl => match us, hl with | [_], _ => rfl
  have A24 : At K mg "_law_told" s_law_told ["part"] f24 _ := ⟨F24, PySem.W.mg_of X G a24, b24⟩
  have F25 := fun_mk (st := s_law_is) l25 c25 k25
  have b25 := F25.binds (ps := ["part", "path"]) fun _ _ _ _ _ _ us hl => match us, hl with | [_, _], _ => rfl
  have A25 : At K mg "_law_is" s_law_is ["part", "path"] f25 _ := ⟨F25, PySem.W.mg_of X G a25, b25⟩
  have F26 := fun_mk (st := s_law_chain) l26 c26 k26
  have b26 := F26.binds (ps := ["pool", "depth"]) fun _ _ _ _ _ _ us hl => match us, hl with | [_, _], _ => rfl
  have A26 : At K mg "_law_chain" s_law_chain ["pool", "depth"] f26 _ := ⟨F26, PySem.W.mg_of X G a26, b26⟩
  have F27 := fun_mk (st := s_law_rows) l27 c27 k27
  have b27 := F27.binds (ps := ["many"]) fun _ _ _ _ _ _ us hl => match us, hl with | [_], _ => rfl
  have A27 : At K mg "_law_rows" s_law_rows ["many"] f27 _ := ⟨F27, PySem.W.mg_of X G a27, b27⟩
  have F28 := fun_mk (st := s_law) l28 c28 k28
  have q_MANNERS : ∀ H : Hp, SqT K H p_MANNERS (PD.MANNERS.map V.str) := fun H => .inr ⟨_, _, _, v_MANNERS, rfl, rfl, (by show 2 ≤ sizeLine; decide), (.cons ⟨_, rfl⟩ (.cons ⟨_, rfl⟩ .nil))⟩
  have q_LIMITS : ∀ H : Hp, SqT K H p_LIMITS (PD.LIMITS.map V.str) := fun H => .inr ⟨_, _, _, v_LIMITS, rfl, rfl, (by show 3 ≤ sizeLine; decide), (.cons ⟨_, rfl⟩ (.cons ⟨_, rfl⟩ (.cons ⟨_, rfl⟩ .nil)))⟩
  have q_RESTS : ∀ H : Hp, SqT K H p_RESTS (PD.RESTS.map V.str) := fun H => .inr ⟨_, _, _, v_RESTS, rfl, rfl, (by show 2 ≤ sizeLine; decide), (.cons ⟨_, rfl⟩ (.cons ⟨_, rfl⟩ .nil))⟩
  have q_HOLDERS : ∀ H : Hp, SqT K H p_HOLDERS (PD.HOLDERS.map V.str) := fun H => .inr ⟨_, _, _, v_HOLDERS, rfl, rfl, (by show 5 ≤ sizeLine; decide), (.cons ⟨_, rfl⟩ (.cons ⟨_, rfl⟩ (.cons ⟨_, rfl⟩ (.cons ⟨_, rfl⟩ (.cons ⟨_, rfl⟩ .nil)))))⟩
  have T : Txt K mg ⟨p_MANNERS, p_LIMITS, p_RESTS, p_HOLDERS, p_F, p_G⟩ := ⟨PySem.W.mg_none_of X G z_len, PySem.W.mg_none_of X G z_list, PySem.W.mg_none_of X G z_tuple, PySem.W.mg_none_of X G z_int, PySem.W.mg_none_of X G z_str, PySem.W.mg_none_of X G z_bool, PySem.W.mg_none_of X G z_abs, PySem.W.mg_none_of X G z_sum, PySem.W.mg_none_of X G z_all, PySem.W.mg_none_of X G z_any, PySem.W.mg_none_of X G z_max, PySem.W.mg_none_of X G z_min, PySem.W.mg_none_of X G z_range, PySem.W.mg_none_of X G z_enumerate, PySem.W.mg_none_of X G z_isinstance, PySem.W.mg_of X G g_MANNERS, PySem.W.mg_of X G g_LIMITS, PySem.W.mg_of X G g_RESTS, PySem.W.mg_of X G g_HOLDERS, PySem.W.mg_of X G g_F, PySem.W.mg_of X G g_G, q_MANNERS, q_LIMITS, q_RESTS, q_HOLDERS, ⟨_, PySem.W.mg_of X G g_MOST_CELL_BOUND⟩, ⟨_, PySem.W.mg_of X G g_MOST_DEEP⟩, ⟨_, PySem.W.mg_of X G g_MOST_PARTS⟩, ⟨_, PySem.W.mg_of X G g_MOST_COUNTED⟩⟩
  have DA : FunD K "is_from" "is_from" (defArgs s_is_from) (defBody s_is_from) (defScope s_is_from) [.non] [] fA _ := ⟨⟨_, _, _, _, _, _, _, _, _, _, rfl, lA, cA, .inr ⟨by simp, tA, _, [.none], _, rfl, vA, rfl, .cons rfl .nil⟩, .inl rfl⟩, kA⟩
  have AA : AtD K mg "is_from" s_is_from ["value", "low", "high"] [.non] fA _ := ⟨DA, PySem.W.mg_of X G aA, by
      obtain ⟨ds, hv, hb⟩ := DA.binds1 (ps := ["value", "low", "high"]) 3 1 (by simp) (by rfl) (fun T kV doc pm an cdv ct us its hu hi => match us, hu, its, hi with | [_, _, _], _, [_], _ => ⟨_, rfl, rfl⟩)
      cases hv
      exact hb, DA.binds1 (ps := ["value", "low", "high"]) 2 0 (by simp) (by rfl) (fun T kV doc pm an cdv ct us its hu hi => match us, hu, its, hi with | [_, _], _, [_], _ => ⟨_, rfl, rfl⟩)⟩
  have DB : FunD K "is_from_or_none" "is_from_or_none" (defArgs s_is_from_or_none) (defBody s_is_from_or_none) (defScope s_is_from_or_none) [.non] [] fB _ := ⟨⟨_, _, _, _, _, _, _, _, _, _, rfl, lB, cB, .inr ⟨by simp, tB, _, [.none], _, rfl, vB, rfl, .cons rfl .nil⟩, .inl rfl⟩, kB⟩
  have AB : AtD K mg "is_from_or_none" s_is_from_or_none ["value", "low", "high"] [.non] fB _ := ⟨DB, PySem.W.mg_of X G aB, by
      obtain ⟨ds, hv, hb⟩ := DB.binds1 (ps := ["value", "low", "high"]) 3 1 (by simp) (by rfl) (fun T kV doc pm an cdv ct us its hu hi => match us, hu, its, hi with | [_, _, _], _, [_], _ => ⟨_, rfl, rfl⟩)
      cases hv
      exact hb, DB.binds1 (ps := ["value", "low", "high"]) 2 0 (by simp) (by rfl) (fun T kV doc pm an cdv ct us its hu hi => match us, hu, its, hi with | [_, _], _, [_], _ => ⟨_, rfl, rfl⟩)⟩
  have FiS := fun_mk (st := s_Study_init) liS ciS kiS
  have FiR := fun_mk (st := s_Reader_init) liR ciR kiR
  have FxN := fun_mk (st := s_NoPart_init) lxN cxN kxN
  have biS := FiS.binds (ps := ["self", "part"]) fun _ _ _ _ _ _ us hl => match us, hl with | [_, _], _ => rfl
  have biR := FiR.binds (ps := ["self", "part"]) fun _ _ _ _ _ _ us hl => match us, hl with | [_, _], _ => rfl
  have bxN := FxN.binds (ps := ["self", "path"]) fun _ _ _ _ _ _ us hl => match us, hl with | [_, _], _ => rfl
  have clS : Cls K CS := ⟨pgS, hdS, poS, saS⟩
  have clR : Cls K CR := ⟨pgR, hdR, poR, saR⟩
  have ON : OexC K CN := ⟨⟨_, _, _, _, _, _, _, _, _, _, _, _, _, _, _, eN, rN⟩, sN, bbN, tN, pN⟩
  refine ⟨PySem.W.fnOf "law" "law" (defArgs s_law) (defBody s_law) (defScope s_law) .none kV28 dc28 pm28 an28 cd28 ct28, fun s v => .of_eq rfl, fun base _ _ => ?_⟩
  have ErN : ErrC l.prog w K mg base "NoPart" CN "path" := ⟨PySem.W.mg_of X G gN, ON, noN, ⟨gaN, ggN, bbN, hdN⟩, fxN, _, _, inN, tyN, ok_initE FxN sc_NoPart_init rfl ON noN (Or.inl rfl) (Or.inl rfl) (fun _ => rfl) (by decide) (by decide), bxN⟩
  have C_is_integer := A1.cal (ok_is_integer (P := l.prog) (w := w) (base := base) T A1)
  have C_is_from : CalFrom l.prog w K mg base := AA.cal (ok_is_from (P := l.prog) (w := w) (base := base) T C_is_integer AA)
  have C_orn : CalOrn l.prog w K mg base := AB.cal (ok_is_from_or_none (P := l.prog) (w := w) (base := base) T C_is_from AB)
  have C_one := A2.cal (ok_is_one_of (P := l.prog) (w := w) (base := base) T A2)
  have H_is_cell := A3.held (ok_is_cell (P := l.prog) (w := w) (base := base) T C_is_from C_orn C_one A3)
  have H_is_row := A4.held (ok_is_row (P := l.prog) (w := w) (base := base) T A4)
  have H_is_choice := A5.held (ok_is_choice (P := l.prog) (w := w) (base := base) T C_is_from C_one A5)
  have H_is_times := A6.held (ok_is_times (P := l.prog) (w := w) (base := base) T C_is_from A6)
  have H_is_counted := A7.held (ok_is_counted (P := l.prog) (w := w) (base := base) T C_orn C_one A7)
  have H_is_within := A8.held (ok_is_within (P := l.prog) (w := w) (base := base) T C_orn C_one A8)
  have H_is_holder := A9.held (ok_is_holder (P := l.prog) (w := w) (base := base) T A9)
  have H_is_need := A10.held (ok_is_need (P := l.prog) (w := w) (base := base) T C_is_from A10)
  have H_is_pad := A11.held (ok_is_pad (P := l.prog) (w := w) (base := base) T C_is_from C_one A11)
  have kF : ∀ wd f, PySem.W.nsIn K p_F wd = some (some (.ref f)) → KDct K w p_F wd (.ref f) := fun wd f e => ⟨_, _, _, v_F, He.keysLit_of ks_F, e, rfl⟩
  have kG : ∀ wd i t, PySem.W.nsIn K p_G wd = some (some (.int i t)) → KDct K w p_G wd (.int i) := fun wd i t e => ⟨_, _, _, v_G, He.keysLit_of ks_G, e, ⟨t, rfl⟩⟩
  have Fo : Forms l.prog w K mg base ⟨p_MANNERS, p_LIMITS, p_RESTS, p_HOLDERS, p_F, p_G⟩ := by
    refine ⟨⟨_, _, v_F, He.keysLit_of ks_F, lo_F⟩, fun wd n p h => ?_, fun wd h => ns_missing v_F ks_F fun k hk => ?_⟩
    · unfold PD.formAt at h
      by_cases e0 : wd = "cell"
      · rw [if_pos e0] at h
        cases h
        subst e0
        exact ⟨⟨_, kF _ _ ff0, H_is_cell⟩, kG _ _ _ fl0⟩
      rw [if_neg e0] at h
      by_cases e1 : wd = "row"
      · rw [if_pos e1] at h
        cases h
        subst e1
        exact ⟨⟨_, kF _ _ ff1, H_is_row⟩, kG _ _ _ fl1⟩
      rw [if_neg e1] at h
      by_cases e2 : wd = "choice"
      · rw [if_pos e2] at h
        cases h
        subst e2
        exact ⟨⟨_, kF _ _ ff2, H_is_choice⟩, kG _ _ _ fl2⟩
      rw [if_neg e2] at h
      by_cases e3 : wd = "times"
      · rw [if_pos e3] at h
        cases h
        subst e3
        exact ⟨⟨_, kF _ _ ff3, H_is_times⟩, kG _ _ _ fl3⟩
      rw [if_neg e3] at h
      by_cases e4 : wd = "counted"
      · rw [if_pos e4] at h
        cases h
        subst e4
        exact ⟨⟨_, kF _ _ ff4, H_is_counted⟩, kG _ _ _ fl4⟩
      rw [if_neg e4] at h
      by_cases e5 : wd = "within"
      · rw [if_pos e5] at h
        cases h
        subst e5
        exact ⟨⟨_, kF _ _ ff5, H_is_within⟩, kG _ _ _ fl5⟩
      rw [if_neg e5] at h
      by_cases e6 : wd = "fill"
      · rw [if_pos e6] at h
        cases h
        subst e6
        exact ⟨⟨_, kF _ _ ff6, H_is_holder⟩, kG _ _ _ fl6⟩
      rw [if_neg e6] at h
      by_cases e7 : wd = "if left"
      · rw [if_pos e7] at h
        cases h
        subst e7
        exact ⟨⟨_, kF _ _ ff7, H_is_holder⟩, kG _ _ _ fl7⟩
      rw [if_neg e7] at h
      by_cases e8 : wd = "need"
      · rw [if_pos e8] at h
        cases h
        subst e8
        exact ⟨⟨_, kF _ _ ff8, H_is_need⟩, kG _ _ _ fl8⟩
      rw [if_neg e8] at h
      by_cases e9 : wd = "pad"
      · rw [if_pos e9] at h
        cases h
        subst e9
        exact ⟨⟨_, kF _ _ ff9, H_is_pad⟩, kG _ _ _ fl9⟩
      rw [if_neg e9] at h
      cases h
    · rintro rfl
      unfold PD.formAt at h
      by_cases e0 : k = "cell"
      · rw [if_pos e0] at h
        cases h
      rw [if_neg e0] at h
      by_cases e1 : k = "row"
      · rw [if_pos e1] at h
        cases h
      rw [if_neg e1] at h
      by_cases e2 : k = "choice"
      · rw [if_pos e2] at h
        cases h
      rw [if_neg e2] at h
      by_cases e3 : k = "times"
      · rw [if_pos e3] at h
        cases h
      rw [if_neg e3] at h
      by_cases e4 : k = "counted"
      · rw [if_pos e4] at h
        cases h
      rw [if_neg e4] at h
      by_cases e5 : k = "within"
      · rw [if_pos e5] at h
        cases h
      rw [if_neg e5] at h
      by_cases e6 : k = "fill"
      · rw [if_pos e6] at h
        cases h
      rw [if_neg e6] at h
      by_cases e7 : k = "if left"
      · rw [if_pos e7] at h
        cases h
      rw [if_neg e7] at h
      by_cases e8 : k = "need"
      · rw [if_pos e8] at h
        cases h
      rw [if_neg e8] at h
      by_cases e9 : k = "pad"
      · rw [if_pos e9] at h
        cases h
      rw [if_neg e9] at h
      simp only [List.mem_cons, List.mem_nil_iff, or_false, e0, e1, e2, e3, e4, e5, e6, e7, e8, e9] at hk
  have C_hf := A12.cal (ok_has_form (P := l.prog) (w := w) (base := base) T Fo A12)
  have C_po := A18.cal (ok_parts_of (P := l.prog) (w := w) (base := base) T A18)
  have C_su : ∀ h, h ≤ 20 → Cal l.prog w K mg base (h + 5) "suits_its_part" ["part"] (SpR K (R_suits h)) := fun h hh => A14.cal (ok_suits_its_part (P := l.prog) (w := w) (base := base) hh T A14 A18 A17 A19 A13)
  have Fw : Fws l.prog w K mg base := ⟨C_hf, C_po, C_su⟩
  have Ck : Chks l.prog w K mg base := ⟨C_hf, C_po, C_su 8 (by decide), A20.cal (ok_first_wrong (P := l.prog) (w := w) (base := base) T Fw A20 8 (by decide)), A19.cal (ok_subparts (P := l.prog) (w := w) (base := base) T A19 A18 8 (by decide)), A15.cal (ok_counted_parts (P := l.prog) (w := w) (base := base) T A15 A18 8)⟩
  have C_check_part := A21.calE (ok_check_part (P := l.prog) (w := w) (base := base) T Ck ErN A21)
  have C_is_part := A16.cal (ok_is_part (P := l.prog) (w := w) (base := base) T Ck A16)
  have St : StC l.prog w K mg base CS := ⟨PySem.W.mg_of X G gS, fiS, _, ⟨mkS, aIS, iIS, kCS⟩, ok_study (P := l.prog) (w := w) (base := base) T clS nS_part nS_layouts nS_tables nS_efforts FiS, biS⟩
  have Rd : RdC l.prog w K mg base CN CR := ⟨PySem.W.mg_of X G gR, clR, nR_part, fiR, _, ⟨mkR, aIR, iIR, kCR⟩, ok_reader (P := l.prog) (w := w) (base := base) T C_check_part St clR nR_part nR_study FiR, biR⟩
  have C_law_pool := A22.cal (ok_law_pool (P := l.prog) (w := w) (base := base) T A22)
  have C_law_draw := A23.cal (ok_law_draw (P := l.prog) (w := w) (base := base) T A23)
  have C_law_told := A24.cal (ok_law_told (P := l.prog) (w := w) (base := base) T Rd ErN (PySem.W.exm_ref bbN hdN tN sNN) A24)
  have C_law_is := A25.cal (ok_law_is (P := l.prog) (w := w) (base := base) T C_is_part C_law_told A25)
  have C_law_chain := A26.cal (ok_law_chain (P := l.prog) (w := w) (base := base) T C_law_draw A26)
  have C_law_rows := A27.cal (ok_law_rows (P := l.prog) (w := w) (base := base) T A27)
  exact ok_law T F28 C_law_pool C_law_draw C_law_is C_law_chain C_law_rows
theorem walk {l : PySem.W.OpenLaw} {q : Program} {loose : List Str} {XP : (Str → Option Value) → Heap → Prop} {YP : World → Heap → Prop} {d : DefRec} {K : Params → PySem.W.Frag} (hn : l.most = some 63) (hdf : d.params.defaults = [])
    (hY : ∀ (w : World) (h : Heap), YP w h → (K w.params).In h)
    (F : ∀ (w : World) (mg : Str → Option Value) (fa : Addr) (h : Heap), (K w.params).In h → h.Ns mainGlobals mg → mg d.name = some (.ref fa) →
      ∃ fd : FuncData, (∀ (s : Shared) (u : Value), BindsTo s fd ⟨[u], []⟩ [("script", u)]) ∧ ∀ base : Heap, (K w.params).In base → base.Ns mainGlobals mg → FnOk l.prog w (K w.params) mg base CX0 32 fa fd ["script"] (spLaw (K w.params))) :
    PySem.W.WalkO q loose XP YP l.row.toRowW d [] (fun f vs => PySem.call f vs) :=
  L2.walk_of (n := 63) (k := 32) (x := "script") (CX := fun _ => CX0) (sp := fun w => spLaw (K w.params)) hn (by decide) hdf ⟨rfl, by decide, by decide⟩ hY F (fun _ _ a ns hl _ hS => ⟨a, ns, rfl, hS, hl, fun _ => rfl⟩) fun _ _ _ _ _ z => z
end Toy

set_option Elab.async false
set_option linter.all false
open PySem PySem.W PyProof.Rows
set_option maxRecDepth 100000 in
set_option maxHeartbeats 0 in
theorem PySem.Challenge.cw_withinlimits_k05_parts_at_their_bounds_holds : PySem.Challenge.rw_withinlimits_k05_parts_at_their_bounds.Holds := by
  w_on; o_law; k_head; (case hw => w_witness2)
  k_fill
  refine Toy.walk (l := PySem.Challenge.rw_withinlimits_k05_parts_at_their_bounds) rfl rfl (fun w h Y => PySem.W.kIn_of Y) ?F
  case F =>
    intro w mg fa h KX G hmg
    refine' Toy.all_mk KX G hmg ?a1 ?l1 ?c1 ?k1 ?a2 ?l2 ?c2 ?k2 ?a3 ?l3 ?c3 ?k3 ?a4 ?l4 ?c4 ?k4 ?a5 ?l5 ?c5 ?k5 ?a6 ?l6 ?c6 ?k6 ?a7 ?l7 ?c7 ?k7 ?a8 ?l8 ?c8 ?k8 ?a9 ?l9 ?c9 ?k9 ?a10 ?l10 ?c10 ?k10 ?a11 ?l11 ?c11 ?k11 ?a12 ?l12 ?c12 ?k12 ?a13 ?l13 ?c13 ?k13 ?a14 ?l14 ?c14 ?k14 ?a15 ?l15 ?c15 ?k15 ?a16 ?l16 ?c16 ?k16 ?a17 ?l17 ?c17 ?k17 ?a18 ?l18 ?c18 ?k18 ?a19 ?l19 ?c19 ?k19 ?a20 ?l20 ?c20 ?k20 ?a21 ?l21 ?c21 ?k21 ?a22 ?l22 ?c22 ?k22 ?a23 ?l23 ?c23 ?k23 ?a24 ?l24 ?c24 ?k24 ?a25 ?l25 ?c25 ?k25 ?a26 ?l26 ?c26 ?k26 ?a27 ?l27 ?c27 ?k27 ?a28 ?l28 ?c28 ?k28 ?z_len ?z_list ?z_tuple ?z_int ?z_str ?z_bool ?z_abs ?z_sum ?z_all ?z_any ?z_max ?z_min ?z_range ?z_enumerate ?z_isinstance ?g_MOST_CELL_BOUND ?g_MOST_DEEP ?g_MOST_PARTS ?g_MOST_COUNTED ?g_MANNERS ?v_MANNERS ?g_LIMITS ?v_LIMITS ?g_RESTS ?v_RESTS ?g_HOLDERS ?v_HOLDERS ?g_F ?v_F ?ks_F ?lo_F ?g_G ?v_G ?ks_G ?lo_G ?ff0 ?fl0 ?ff1 ?fl1 ?ff2 ?fl2 ?ff3 ?fl3 ?ff4 ?fl4 ?ff5 ?fl5 ?ff6 ?fl6 ?ff7 ?fl7 ?ff8 ?fl8 ?ff9 ?fl9 ?aA ?lA ?cA ?kA ?vA ?aB ?lB ?cB ?kB ?vB ?gS ?pgS ?hdS ?poS ?saS ?nS_part ?nS_layouts ?nS_tables ?nS_efforts ?mkS ?aIS ?iIS ?kCS ?liS ?ciS ?kiS ?gR ?pgR ?hdR ?poR ?saR ?nR_part ?nR_study ?mkR ?aIR ?iIR ?kCR ?liR ?ciR ?kiR ?gN ?eN ?rN ?sN ?bbN ?tN ?pN ?noN ?gaN ?ggN ?hdN ?inN ?tyN ?lxN ?cxN ?kxN ?sNN
    (case a1 => k_is)
    (case l1 => k_is)
    (case c1 => k_is)
    (case k1 => k_is)
    (case a2 => k_is)
    (case l2 => k_is)
    (case c2 => k_is)
    (case k2 => k_is)
    (case a3 => k_is)
    (case l3 => k_is)
    (case c3 => k_is)
    (case k3 => k_is)
    (case a4 => k_is)
    (case l4 => k_is)
    (case c4 => k_is)
    (case k4 => k_is)
    (case a5 => k_is)
    (case l5 => k_is)
    (case c5 => k_is)
    (case k5 => k_is)
    (case a6 => k_is)
    (case l6 => k_is)
    (case c6 => k_is)
    (case k6 => k_is)
    (case a7 => k_is)
    (case l7 => k_is)
    (case c7 => k_is)
    (case k7 => k_is)
    (case a8 => k_is)
    (case l8 => k_is)
    (case c8 => k_is)
    (case k8 => k_is)
    (case a9 => k_is)
    (case l9 => k_is)
    (case c9 => k_is)
    (case k9 => k_is)
    (case a10 => k_is)
    (case l10 => k_is)
    (case c10 => k_is)
    (case k10 => k_is)
    (case a11 => k_is)
    (case l11 => k_is)
    (case c11 => k_is)
    (case k11 => k_is)
    (case a12 => k_is)
    (case l12 => k_is)
    (case c12 => k_is)
    (case k12 => k_is)
    (case a13 => k_is)
    (case l13 => k_is)
    (case c13 => k_is)
    (case k13 => k_is)
    (case a14 => k_is)
    (case l14 => k_is)
    (case c14 => k_is)
    (case k14 => k_is)
    (case a15 => k_is)
    (case l15 => k_is)
    (case c15 => k_is)
    (case k15 => k_is)
    (case a16 => k_is)
    (case l16 => k_is)
    (case c16 => k_is)
    (case k16 => k_is)
    (case a17 => k_is)
    (case l17 => k_is)
    (case c17 => k_is)
    (case k17 => k_is)
    (case a18 => k_is)
    (case l18 => k_is)
    (case c18 => k_is)
    (case k18 => k_is)
    (case a19 => k_is)
    (case l19 => k_is)
    (case c19 => k_is)
    (case k19 => k_is)
    (case a20 => k_is)
    (case l20 => k_is)
    (case c20 => k_is)
    (case k20 => k_is)
    (case a21 => k_is)
    (case l21 => k_is)
    (case c21 => k_is)
    (case k21 => k_is)
    (case a22 => k_is)
    (case l22 => k_is)
    (case c22 => k_is)
    (case k22 => k_is)
    (case a23 => k_is)
    (case l23 => k_is)
    (case c23 => k_is)
    (case k23 => k_is)
    (case a24 => k_is)
    (case l24 => k_is)
    (case c24 => k_is)
    (case k24 => k_is)
    (case a25 => k_is)
    (case l25 => k_is)
    (case c25 => k_is)
    (case k25 => k_is)
    (case a26 => k_is)
    (case l26 => k_is)
    (case c26 => k_is)
    (case k26 => k_is)
    (case a27 => k_is)
    (case l27 => k_is)
    (case c27 => k_is)
    (case k27 => k_is)
    (case a28 => k_is)
    (case l28 => k_is)
    (case c28 => k_is)
    (case k28 => k_is)
    (case z_len => k_is)
    (case z_list => k_is)
    (case z_tuple => k_is)
    (case z_int => k_is)
    (case z_str => k_is)
    (case z_bool => k_is)
    (case z_abs => k_is)
    (case z_sum => k_is)
    (case z_all => k_is)
    (case z_any => k_is)
    (case z_max => k_is)
    (case z_min => k_is)
    (case z_range => k_is)
    (case z_enumerate => k_is)
    (case z_isinstance => k_is)
    (case g_MOST_CELL_BOUND => k_is)
    (case g_MOST_DEEP => k_is)
    (case g_MOST_PARTS => k_is)
    (case g_MOST_COUNTED => k_is)
    (case g_MANNERS => k_is)
    (case v_MANNERS => k_is)
    (case g_LIMITS => k_is)
    (case v_LIMITS => k_is)
    (case g_RESTS => k_is)
    (case v_RESTS => k_is)
    (case g_HOLDERS => k_is)
    (case v_HOLDERS => k_is)
    (case g_F => k_is)
    (case v_F => k_is)
    (case ks_F => rfl)
    (case lo_F => rfl)
    (case g_G => k_is)
    (case v_G => k_is)
    (case ks_G => rfl)
    (case lo_G => rfl)
    (case ff0 => k_is)
    (case fl0 => k_is)
    (case ff1 => k_is)
    (case fl1 => k_is)
    (case ff2 => k_is)
    (case fl2 => k_is)
    (case ff3 => k_is)
    (case fl3 => k_is)
    (case ff4 => k_is)
    (case fl4 => k_is)
    (case ff5 => k_is)
    (case fl5 => k_is)
    (case ff6 => k_is)
    (case fl6 => k_is)
    (case ff7 => k_is)
    (case fl7 => k_is)
    (case ff8 => k_is)
    (case fl8 => k_is)
    (case ff9 => k_is)
    (case fl9 => k_is)
    (case aA => k_is)
    (case lA => k_is)
    (case cA => k_is)
    (case kA => k_is)
    (case vA => k_is)
    (case aB => k_is)
    (case lB => k_is)
    (case cB => k_is)
    (case kB => k_is)
    (case vB => k_is)
    (case gS => k_is)
    (case pgS => k_is)
    (case hdS => k_is)
    (case poS => k_is)
    (case saS => k_is)
    (case nS_part => k_is)
    (case nS_layouts => k_is)
    (case nS_tables => k_is)
    (case nS_efforts => k_is)
    (case mkS => k_is)
    (case aIS => k_is)
    (case iIS => k_is)
    (case kCS => k_is)
    (case liS => k_is)
    (case ciS => k_is)
    (case kiS => k_is)
    (case gR => k_is)
    (case pgR => k_is)
    (case hdR => k_is)
    (case poR => k_is)
    (case saR => k_is)
    (case nR_part => k_is)
    (case nR_study => k_is)
    (case mkR => k_is)
    (case aIR => k_is)
    (case iIR => k_is)
    (case kCR => k_is)
    (case liR => k_is)
    (case ciR => k_is)
    (case kiR => k_is)
    (case gN => k_is)
    (case eN => k_is)
    (case rN => decide +kernel)
    (case sN => k_is)
    (case bbN => k_is)
    (case tN => k_is)
    (case pN => k_is)
    (case noN => k_is)
    (case gaN => k_is)
    (case ggN => k_is)
    (case hdN => k_is)
    (case inN => k_is)
    (case tyN => k_is)
    (case lxN => k_is)
    (case cxN => k_is)
    (case kxN => k_is)
    (case sNN => k_is)

