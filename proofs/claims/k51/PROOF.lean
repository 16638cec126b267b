import PyProof.Rows.All
import Wide.All
import OpenK.AllK
import Wide.FinOn
import HandS.ForMost
import HandS.Walk
import HandS.Zip
import HandS.Star
import HandS.Wide
import HandS.IsInst
import HandS.TupAny
import HandS.Conv
import KE.GoesZip
import KE.GoesMore
import KE.GoesEnum
import HandS.Evl
import PyProof.InstNe
import HandS.OwnEq
import HandS.SlotsOwn
import HandS.Defaults
import HandS.MakeKw
import HandS.ExcInit
import HandS.WordsExc
import HandS.ExcField
import HandS.DictComp
import HandS.TryOnly
import HandS.Property
import HandS.TryMany
import HandS.ExcIs
import KE.KExcIs
import PyProof.ZipIter
import PyProof.ListNew
import KE.KDictZip
import HandS.ExcValue
import HandS.List
import PyProof.WalksMore
import KE.KOpsOwn
import PyProof.TwoTypes
import PyProof.MeetsIn
import PyProof.Conv_bool
import PyProof.Rows.Range3
import PySem.Challenge.RW_withinlimits_k51_operators_of_sets
set_option Elab.async false
set_option linter.all false
set_option maxRecDepth 100000
set_option maxHeartbeats 2000000
/-! Data that stands still, and what is owned and changed: readings of pure expressions. -/
namespace DL
open PySem L2 StX

/-! ### heaps: B stands still and may grow; O is what may change -/
def Ex (H H' : Hp) : Prop := ∀ a o, H a = some o → H' a = some o
theorem Ex.refl (H : Hp) : Ex H H := fun _ _ h => h
theorem Ex.trans {H H1 H2 : Hp} (a : Ex H H1) (b : Ex H1 H2) : Ex H H2 := fun x o h => b x o (a x o h)
theorem Ex.new {H : Hp} {p : Addr} {o : HO} (h : H p = none) : Ex H (upd H p o) := fun a u e => by
  rw [upd_ne (ne_of_none e h)]
  exact e
structure W (B O H : Hp) : Prop where
  b : Ex B H
  o : Ex O H
  d : ∀ a, B a = none ∨ O a = none
theorem none_of_ex {B H : Hp} {p : Addr} (e : Ex B H) (h : H p = none) : B p = none := by
  cases h1 : B p with
  | none => rfl
  | some o =>
    rw [e p o h1] at h
    cases h
theorem W.fb {B O H : Hp} {p : Addr} (w : W B O H) (h : H p = none) : B p = none := none_of_ex w.b h
theorem W.fo {B O H : Hp} {p : Addr} (w : W B O H) (h : H p = none) : O p = none := none_of_ex w.o h
/-- a new thing that stands still -/
theorem W.newB {B O H : Hp} {p : Addr} {u : HO} (w : W B O H) (h : H p = none) : W (upd B p u) O (upd H p u) := by
  refine ⟨fun a o e => ?_, fun a o e => ?_, fun a => ?_⟩
  · by_cases hp : a = p
    · subst hp
      rw [upd_same] at e ⊢
      exact e
    · rw [upd_ne hp] at e ⊢
      exact w.b a o e
  · rw [upd_ne (ne_of_none e (w.fo h))]
    exact w.o a o e
  · by_cases hp : a = p
    · subst hp
      exact .inr (w.fo h)
    · rw [upd_ne hp]
      exact w.d a
/-- a new thing that is owned -/
theorem W.newO {B O H : Hp} {p : Addr} {u : HO} (w : W B O H) (h : H p = none) : W B (upd O p u) (upd H p u) := by
  refine ⟨fun a o e => ?_, fun a o e => ?_, fun a => ?_⟩
  · rw [upd_ne (ne_of_none e (w.fb h))]
    exact w.b a o e
  · by_cases hp : a = p
    · subst hp
      rw [upd_same] at e ⊢
      exact e
    · rw [upd_ne hp] at e ⊢
      exact w.o a o e
  · by_cases hp : a = p
    · subst hp
      exact .inl (w.fb h)
    · rw [upd_ne hp]
      exact w.d a
/-- what is owned is changed -/
theorem W.mut {B O H : Hp} {p : Addr} {u v : HO} (w : W B O H) (h : O p = some u) : W B (upd O p v) (upd H p v) := by
  have hb : B p = none := by
    rcases w.d p with q | q
    · exact q
    · rw [q] at h; cases h
  refine ⟨fun a o e => ?_, fun a o e => ?_, fun a => ?_⟩
  · rw [upd_ne (ne_of_none e hb)]
    exact w.b a o e
  · by_cases hp : a = p
    · subst hp
      rw [upd_same] at e ⊢
      exact e
    · rw [upd_ne hp] at e ⊢
      exact w.o a o e
  · by_cases hp : a = p
    · subst hp
      exact .inl hb
    · rw [upd_ne hp]
      exact w.d a
/-- what was owned is given away, to stand still -/
theorem W.give {B O H : Hp} {p : Addr} {u : HO} (w : W B (upd O p u) H) (h : O p = none) : W (upd B p u) O H := by
  have hp' : H p = some u := w.o p u upd_same
  refine ⟨fun a o e => ?_, fun a o e => ?_, fun a => ?_⟩
  · by_cases hp : a = p
    · subst hp
      rw [upd_same] at e
      cases e
      exact hp'
    · rw [upd_ne hp] at e
      exact w.b a o e
  · have hp : a ≠ p := ne_of_none e h
    exact w.o a o (by rw [upd_ne hp]; exact e)
  · by_cases hp : a = p
    · subst hp
      exact .inr h
    · rw [upd_ne hp]
      have := w.d a
      rw [upd_ne hp] at this
      exact this
theorem W.bnone {B O H : Hp} {p : Addr} {u : HO} (w : W B O H) (h : O p = some u) : B p = none := by
  rcases w.d p with q | q
  · exact q
  · rw [q] at h; cases h

/-! ### data: as Dp, each list tracked -/
mutual
inductive Dt (K : PySem.W.Frag) (B : Hp) : V → PyData → Prop
  | non : Dt K B .non .none
  | bl (b : Bool) : Dt K B (.bl b) (.bool b)
  | int (i : Int) : Dt K B (.int i) (.int i)
  | str (x : Str) : Dt K B (.str x) (.str x)
  | lst {a : Addr} {xs : List V} {ds : List PyData} : B a = some (.lst xs) → DtAll K B xs ds → Dt K B (.ref a) (.list ds)
  | tup {a : Addr} {xs : List V} {ds : List PyData} : SqT K B a xs → DtAll K B xs ds → Dt K B (.ref a) (.tuple ds)
  | dct {a : Addr} : B a = some (.dK []) → Dt K B (.ref a) (.dict [])
inductive DtAll (K : PySem.W.Frag) (B : Hp) : List V → List PyData → Prop
  | nil : DtAll K B [] []
  | cons {v : V} {vs : List V} {d : PyData} {ds : List PyData} : Dt K B v d → DtAll K B vs ds → DtAll K B (v :: vs) (d :: ds)
end
mutual
theorem dt_dp {K : PySem.W.Frag} {B : Hp} : ∀ (d : PyData) (v : V), d.canLay0 = true → Dt K B v d → Dp K B v d
  | .none, _, _, h => by cases h; exact .non
  | .bool b, _, _, h => by cases h; exact .bl b
  | .int i, _, _, h => by cases h; exact .int i
  | .str x, _, _, h => by cases h; exact .str x
  | .list ds, _, c, h => by
    cases h with
    | lst hs ha => exact .lst (.inl (.inl hs)) (dt_dps ds _ c ha)
  | .tuple ds, _, c, h => by
    cases h with
    | tup hs ha => exact .tup hs (dt_dps ds _ c ha)
  | .dict _, _, c, _ => by cases c
theorem dt_dps {K : PySem.W.Frag} {B : Hp} : ∀ (ds : List PyData) (vs : List V), PyData.canLayAll0 ds = true → DtAll K B vs ds → DpAll K B vs ds
  | [], _, _, h => by cases h; exact .nil
  | d :: ds, _, c, h => by
    have c2 : (d.canLay0 && PyData.canLayAll0 ds) = true := c
    rw [Bool.and_eq_true] at c2
    cases h with
    | cons h1 h2 => exact .cons (dt_dp d _ c2.1 h1) (dt_dps ds _ c2.2 h2)
end
theorem rd_ex {B B' : Hp} {a : Addr} {u : HO} (e : Ex B B') (h : Rd B a u) : Rd B' a u := by
  rcases h with h | ⟨o, h⟩
  · exact Or.inl (e a _ h)
  · exact Or.inr ⟨o, e a _ h⟩
theorem sl_ex {K : PySem.W.Frag} {B B' : Hp} {a : Addr} {xs : List V} (e : Ex B B') (h : SqL K B a xs) : SqL K B' a xs := by
  rcases h with h | h
  · exact Or.inl (rd_ex e h)
  · exact Or.inr h
theorem st_ex {K : PySem.W.Frag} {B B' : Hp} {a : Addr} {xs : List V} (e : Ex B B') (h : SqT K B a xs) : SqT K B' a xs := by
  rcases h with h | h
  · exact Or.inl (rd_ex e h)
  · exact Or.inr h
mutual
theorem dp_ex {K : PySem.W.Frag} {B B' : Hp} (e : Ex B B') : ∀ (d : PyData) (v : V), Dt K B v d → Dt K B' v d
  | .none, _, h => by cases h; exact .non
  | .bool b, _, h => by cases h; exact .bl b
  | .int i, _, h => by cases h; exact .int i
  | .str x, _, h => by cases h; exact .str x
  | .list ds, _, h => by
    cases h with
    | lst hs ha => exact .lst (e _ _ hs) (dps_ex e ds _ ha)
  | .tuple ds, _, h => by
    cases h with
    | tup hs ha => exact .tup (st_ex e hs) (dps_ex e ds _ ha)
  | .dict _, _, h => by
    cases h with
    | dct h => exact .dct (e _ _ h)
theorem dps_ex {K : PySem.W.Frag} {B B' : Hp} (e : Ex B B') : ∀ (ds : List PyData) (vs : List V), DtAll K B vs ds → DtAll K B' vs ds
  | [], _, h => by cases h; exact .nil
  | d :: ds, _, h => by
    cases h with
    | cons h1 h2 => exact .cons (dp_ex e d _ h1) (dps_ex e ds _ h2)
end
section
variable {K : PySem.W.Frag} {B : Hp}
theorem dps_len : ∀ {ds : List PyData} {vs : List V}, DtAll K B vs ds → vs.length = ds.length
  | [], _, h => by cases h; rfl
  | _ :: ds, _, h => by
    cases h with
    | cons h1 h2 => simp [dps_len h2]
theorem dps_get : ∀ {ds : List PyData} {vs : List V} {i : Nat} {d : PyData}, DtAll K B vs ds → ds[i]? = some d → ∃ v, vs[i]? = some v ∧ Dt K B v d
  | [], _, _, _, _, h => by simp at h
  | x :: ds, _, 0, d, h, e => by
    cases h with
    | cons h1 h2 =>
      simp at e
      subst e
      exact ⟨_, rfl, h1⟩
  | x :: ds, _, i + 1, d, h, e => by
    cases h with
    | cons h1 h2 =>
      simp at e
      obtain ⟨v, hv, dv⟩ := dps_get h2 e
      exact ⟨v, by simpa using hv, dv⟩
theorem dps_getV : ∀ {ds : List PyData} {vs : List V} {i : Nat} {v : V}, DtAll K B vs ds → vs[i]? = some v → ∃ d, ds[i]? = some d ∧ Dt K B v d
  | [], _, _, _, h, e => by cases h; simp at e
  | x :: ds, _, 0, v, h, e => by
    cases h with
    | cons h1 h2 =>
      simp at e
      subst e
      exact ⟨_, rfl, h1⟩
  | x :: ds, _, i + 1, v, h, e => by
    cases h with
    | cons h1 h2 =>
      simp at e
      obtain ⟨d, hd, dv⟩ := dps_getV h2 e
      exact ⟨d, by simpa using hd, dv⟩
theorem dps_app : ∀ {ds es : List PyData} {vs ws : List V}, DtAll K B vs ds → DtAll K B ws es → DtAll K B (vs ++ ws) (ds ++ es)
  | [], _, _, _, h, g => by cases h; exact g
  | _ :: ds, _, _, _, h, g => by
    cases h with
    | cons h1 h2 => exact .cons h1 (dps_app h2 g)
theorem dps_one {v : V} {d : PyData} (h : Dt K B v d) : DtAll K B [v] [d] := .cons h .nil
theorem dps_take : ∀ {ds : List PyData} {vs : List V} (n : Nat), DtAll K B vs ds → DtAll K B (vs.take n) (ds.take n)
  | _, _, 0, _ => by simp; exact .nil
  | [], _, n + 1, h => by cases h; simp; exact .nil
  | _ :: ds, _, n + 1, h => by
    cases h with
    | cons h1 h2 => simp; exact .cons h1 (dps_take n h2)
theorem dps_drop : ∀ {ds : List PyData} {vs : List V} (n : Nat), DtAll K B vs ds → DtAll K B (vs.drop n) (ds.drop n)
  | _, _, 0, h => by simpa using h
  | [], _, n + 1, h => by cases h; simp; exact .nil
  | _ :: ds, _, n + 1, h => by
    cases h with
    | cons h1 h2 => simp; exact dps_drop n h2
theorem dps_set : ∀ {ds : List PyData} {vs : List V} {v : V} {d : PyData} (j : Nat), DtAll K B vs ds → Dt K B v d → DtAll K B (vs.set j v) (ds.set j d)
  | [], _, _, _, _, h, _ => by cases h; exact .nil
  | _ :: ds, _, _, _, 0, h, g => by
    cases h with
    | cons h1 h2 => exact .cons g h2
  | _ :: ds, _, _, _, j + 1, h, g => by
    cases h with
    | cons h1 h2 => exact .cons h1 (dps_set j h2 g)
theorem dp_int {v : V} {i : Int} (h : Dt K B v (.int i)) : v = .int i := by cases h; rfl
theorem dp_bool {v : V} {b : Bool} (h : Dt K B v (.bool b)) : v = .bl b := by cases h; rfl
theorem dp_str {v : V} {x : Str} (h : Dt K B v (.str x)) : v = .str x := by cases h; rfl
theorem dp_none {v : V} (h : Dt K B v .none) : v = .non := by cases h; rfl
theorem dp_tup {v : V} {ds : List PyData} (h : Dt K B v (.tuple ds)) : ∃ a xs, v = .ref a ∧ SqT K B a xs ∧ DtAll K B xs ds := by
  cases h with
  | tup h1 h2 => exact ⟨_, _, rfl, h1, h2⟩
theorem dp_lst {v : V} {ds : List PyData} (h : Dt K B v (.list ds)) : ∃ a xs, v = .ref a ∧ B a = some (.lst xs) ∧ DtAll K B xs ds := by
  cases h with
  | lst h1 h2 => exact ⟨_, _, rfl, h1, h2⟩
theorem dps_ints : ∀ {ns : List Int} {vs : List V}, DtAll K B vs (ns.map .int) → vs = ns.map V.int
  | [], _, h => by cases h; rfl
  | n :: ns, _, h => by
    cases h with
    | cons h1 h2 =>
      rw [dp_int h1, dps_ints h2]
      rfl
theorem dps_bools : ∀ {ns : List Bool} {vs : List V}, DtAll K B vs (ns.map .bool) → vs = ns.map V.bl
  | [], _, h => by cases h; rfl
  | n :: ns, _, h => by
    cases h with
    | cons h1 h2 =>
      rw [dp_bool h1, dps_bools h2]
      rfl
theorem ints_dps : ∀ (ns : List Int), DtAll K B (ns.map V.int) (ns.map .int)
  | [] => .nil
  | n :: ns => .cons (.int n) (ints_dps ns)
end
/-- the flat data -/
def fv : PyData → V
  | .none => .non
  | .bool b => .bl b
  | .int i => .int i
  | .str x => .str x
  | _ => .ref 0
def flatD : PyData → Bool
  | .none => true
  | .bool _ => true
  | .int _ => true
  | .str _ => true
  | _ => false
theorem fv_of {K : PySem.W.Frag} {B : Hp} {v : V} {d : PyData} (h : Dt K B v d) (f : flatD d = true) : v = fv d ∧ flatV v = true := by
  cases h with
  | non => exact ⟨rfl, rfl⟩
  | bl => exact ⟨rfl, rfl⟩
  | int => exact ⟨rfl, rfl⟩
  | str => exact ⟨rfl, rfl⟩
  | lst => cases f
  | tup => cases f
  | dct => cases f
theorem fvs_of {K : PySem.W.Frag} {B : Hp} : ∀ {ds : List PyData} {vs : List V}, DtAll K B vs ds → ds.all flatD = true → vs = ds.map fv ∧ vs.all flatV = true
  | [], _, h, _ => by cases h; exact ⟨rfl, rfl⟩
  | d :: ds, _, h, f => by
    rw [List.all_cons, Bool.and_eq_true] at f
    cases h with
    | cons h1 h2 =>
      obtain ⟨e1, f1⟩ := fv_of h1 f.1
      obtain ⟨e2, f2⟩ := fvs_of h2 f.2
      refine ⟨by rw [e1, e2]; rfl, ?_⟩
      rw [List.all_cons, f1, f2]
      rfl

/-! ### slots -/
inductive SD where
  | un
  | dat (d : PyData)
  | val (v : V)
def SlotOk (K : PySem.W.Frag) (B : Hp) : Option V → SD → Prop
  | _, .un => True
  | ov, .dat d => ∃ v, ov = some v ∧ Dt K B v d
  | ov, .val v => ov = some v
def Slots (K : PySem.W.Frag) (B : Hp) : L2.St → List SD → Prop
  | [], [] => True
  | s :: σ, g :: G => SlotOk K B s g ∧ Slots K B σ G
  | _, _ => False
section
variable {K : PySem.W.Frag} {B B' : Hp}
theorem SlotOk.ex (e : Ex B B') {s : Option V} {g : SD} (h : SlotOk K B s g) : SlotOk K B' s g := by
  cases g with
  | un => exact trivial
  | dat d =>
    obtain ⟨v, hv, hd⟩ := h
    exact ⟨v, hv, dp_ex e d v hd⟩
  | val v => exact h
theorem Slots.ex (e : Ex B B') : ∀ {σ : L2.St} {G : List SD}, Slots K B σ G → Slots K B' σ G
  | [], [], _ => trivial
  | _ :: _, _ :: _, h => ⟨h.1.ex e, Slots.ex e h.2⟩
  | [], _ :: _, h => h.elim
  | _ :: _, [], h => h.elim
theorem Slots.get : ∀ {σ : L2.St} {G : List SD} {i : Nat} {g : SD}, Slots K B σ G → G[i]? = some g → ∃ s, σ[i]? = some s ∧ SlotOk K B s g
  | [], [], _, _, _, e => by simp at e
  | s :: _, g :: _, 0, _, h, e => by
    simp at e
    subst e
    exact ⟨s, rfl, h.1⟩
  | _ :: _, _ :: _, i + 1, _, h, e => by
    simp at e
    obtain ⟨s, hs, ho⟩ := Slots.get h.2 e
    exact ⟨s, by simpa using hs, ho⟩
  | [], _ :: _, _, _, h, _ => h.elim
  | _ :: _, [], _, _, h, _ => h.elim
theorem Slots.set : ∀ {σ : L2.St} {G : List SD} (i : Nat) {s : Option V} {g : SD}, Slots K B σ G → SlotOk K B s g → Slots K B (σ.set i s) (G.set i g)
  | [], [], _, _, _, _, _ => trivial
  | _ :: _, _ :: _, 0, _, _, h, q => ⟨q, h.2⟩
  | _ :: _, _ :: _, i + 1, _, _, h, q => ⟨h.1, Slots.set i h.2 q⟩
  | [], _ :: _, _, _, _, h, _ => h.elim
  | _ :: _, [], _, _, _, h, _ => h.elim
def wipeG (G : List SD) : List Nat → List SD
  | [] => G
  | v :: vs => (wipeG G vs).set v .un
theorem Slots.wipe {σ : L2.St} {G : List SD} (h : Slots K B σ G) : ∀ vs : List Nat, Slots K B (L2.wipe σ vs) (wipeG G vs)
  | [] => h
  | v :: vs => Slots.set v (Slots.wipe h vs) trivial
end

/-- where one stands -/
structure Sta (K : PySem.W.Frag) (B O : Hp) (G : List SD) (σ : L2.St) (H : Hp) : Prop where
  w : W B O H
  s : Slots K B σ G
theorem Sta.ex {K : PySem.W.Frag} {B B' O : Hp} {G : List SD} {σ : L2.St} {H H' : Hp} (s : Sta K B O G σ H) (e : Ex B B') (w : W B' O H') : Sta K B' O G σ H' := ⟨w, s.s.ex e⟩
theorem Sta.set {K : PySem.W.Frag} {B O : Hp} {G : List SD} {σ : L2.St} {H : Hp} (s : Sta K B O G σ H) (i : Nat) {v : V} {d : PyData} (h : Dt K B v d) : Sta K B O (G.set i (.dat d)) (σ.set i (some v)) H := ⟨s.w, s.s.set i ⟨v, rfl, h⟩⟩
theorem Sta.setV {K : PySem.W.Frag} {B O : Hp} {G : List SD} {σ : L2.St} {H : Hp} (s : Sta K B O G σ H) (i : Nat) {v : V} : Sta K B O (G.set i (.val v)) (σ.set i (some v)) H := ⟨s.w, s.s.set i rfl⟩

/-! ### what evaluates to what -/
section
variable (K : PySem.W.Frag) (B O : Hp) (G : List SD)
def EvD (te : TE) (d : PyData) : Prop := ∀ B1 O1 σ H, Ex B B1 → Ex O O1 → Sta K B1 O1 G σ H → ∀ Q : VK, (∀ v B' H', Ex B1 B' → W B' O1 H' → Dt K B' v d → Q v H') → te σ H Q
def EvV (te : TE) (v : V) : Prop := ∀ B1 O1 σ H, Ex B B1 → Ex O O1 → Sta K B1 O1 G σ H → ∀ Q : VK, (∀ B' H', Ex B1 B' → W B' O1 H' → Q v H') → te σ H Q
def EvT (tt : TT) (b : Bool) : Prop := ∀ B1 O1 σ H, Ex B B1 → Ex O O1 → Sta K B1 O1 G σ H → ∀ Q : Bool → Hp → Prop, (∀ B' H', Ex B1 B' → W B' O1 H' → Q b H') → tt σ H Q
def EvA (ta : TA) (ds : List PyData) : Prop := ∀ B1 O1 σ H, Ex B B1 → Ex O O1 → Sta K B1 O1 G σ H → ∀ Q : List V → Hp → Prop, (∀ vs B' H', Ex B1 B' → W B' O1 H' → DtAll K B' vs ds → Q vs H') → ta σ H Q
def EvO (to : TO) (o : Option Int) : Prop := ∀ B1 O1 σ H, Ex B B1 → Ex O O1 → Sta K B1 O1 G σ H → ∀ Q : Option Int → Hp → Prop, (∀ B' H', Ex B1 B' → W B' O1 H' → Q o H') → to σ H Q
/-- an operator on data -/
def RD (K : PySem.W.Frag) (r : R2) (x y z : PyData) : Prop := ∀ B1 O1 H v w, W B1 O1 H → Dt K B1 v x → Dt K B1 w y → ∀ Q : VK, (∀ u B' H', Ex B1 B' → W B' O1 H' → Dt K B' u z → Q u H') → r v w H Q
/-- a built-in on data -/
def RC (K : PySem.W.Frag) (r : List V → Hp → VK → Prop) (xs : List PyData) (z : PyData) : Prop := ∀ B1 O1 H vs, W B1 O1 H → DtAll K B1 vs xs → ∀ Q : VK, (∀ u B' H', Ex B1 B' → W B' O1 H' → Dt K B' u z → Q u H') → r vs H Q
end
section
variable {K : PySem.W.Frag} {B B' O : Hp} {G : List SD} {ta tb te tc : TE} {t u : TT} {r : R2} {d x y z : PyData}
theorem EvD.ex (h : EvD K B O G te d) (e : Ex B B') : EvD K B' O G te d := fun B1 O1 σ H e1 o s Q q => h B1 O1 σ H (e.trans e1) o s Q q
theorem EvT.ex {b : Bool} (h : EvT K B O G t b) (e : Ex B B') : EvT K B' O G t b := fun B1 O1 σ H e1 o s Q q => h B1 O1 σ H (e.trans e1) o s Q q
theorem ev_is (h : EvD K B O G te d) (e : d = x) : EvD K B O G te x := by
  rw [← e]
  exact h
theorem et_is {a b : Bool} (h : EvT K B O G t a) (e : a = b) : EvT K B O G t b := by
  rw [← e]
  exact h
theorem ev_var {i : Nat} (h : G[i]? = some (.dat d)) : EvD K B O G (tVar i) d := fun B1 O1 σ H _ o s Q q => by
  obtain ⟨sv, h1, v, rfl, h2⟩ := s.s.get h
  exact ⟨v, h1, q v B1 H (Ex.refl _) s.w h2⟩
theorem evV_var {i : Nat} {v : V} (h : G[i]? = some (.val v)) : EvV K B O G (tVar i) v := fun B1 O1 σ H _ o s Q q => by
  obtain ⟨sv, h1, h2⟩ := s.s.get h
  have h3 : sv = some v := h2
  subst h3
  exact ⟨v, h1, q B1 H (Ex.refl _) s.w⟩
theorem ev_c {v : V} (h : ∀ H : Hp, Dt K H v d) : EvD K B O G (tC v) d := fun B1 _ _ H _ _ s Q q => q v B1 H (Ex.refl _) s.w (h B1)
theorem ev_int {i : Int} : EvD K B O G (tC (.int i)) (.int i) := ev_c fun _ => .int i
theorem ev_bl {b : Bool} : EvD K B O G (tC (.bl b)) (.bool b) := ev_c fun _ => .bl b
theorem ev_str {x : Str} : EvD K B O G (tC (.str x)) (.str x) := ev_c fun _ => .str x
theorem ev_non : EvD K B O G (tC .non) .none := ev_c fun _ => .non
theorem ev_op (ha : EvD K B O G ta x) (hb : EvD K B O G tb y) (hr : RD K r x y z) : EvD K B O G (tOp r ta tb) z := fun B1 O1 σ H e o s Q q =>
  ha B1 O1 σ H e o s _ fun v B2 H2 e2 w2 d2 => hb B2 O1 σ H2 (e.trans e2) o (s.ex e2 w2) _ fun v' B3 H3 e3 w3 d3 =>
    hr B3 O1 H3 v v' w3 (dp_ex e3 _ _ d2) d3 Q fun u B4 H4 e4 w4 d4 => q u B4 H4 ((e2.trans e3).trans e4) w4 d4
theorem ea_nil : EvA K B O G tNil [] := fun B1 _ _ H _ _ s Q q => q [] B1 H (Ex.refl _) s.w .nil
theorem ea_cons {tr : TA} {ds : List PyData} (h : EvD K B O G ta d) (hr : EvA K B O G tr ds) : EvA K B O G (tCons ta tr) (d :: ds) := fun B1 O1 σ H e o s Q q =>
  h B1 O1 σ H e o s _ fun v B2 H2 e2 w2 d2 => hr B2 O1 σ H2 (e.trans e2) o (s.ex e2 w2) _ fun vs B3 H3 e3 w3 d3 => q (v :: vs) B3 H3 (e2.trans e3) w3 (.cons (dp_ex e3 _ _ d2) d3)
theorem sz_of {n : Nat} (h : n ≤ 100000) : n ≤ sizeLine := Nat.le_trans h (by decide)
theorem ev_tup {t : TA} {ds : List PyData} (h : EvA K B O G t ds) (hl : ds.length ≤ 100000) : EvD K B O G (tTup t) (.tuple ds) := fun B1 O1 σ H e o s Q q =>
  h B1 O1 σ H e o s _ fun vs B2 H2 e2 w2 d2 => ⟨by rw [dps_len d2]; exact sz_of hl, fun p hp => q _ (upd B2 p (.tup vs)) _ (e2.trans (Ex.new (w2.fb hp))) (w2.newB hp) (.tup (.inl (.inl upd_same)) (dps_ex (Ex.new (w2.fb hp)) _ _ d2))⟩
theorem ev_lst {t : TA} {ds : List PyData} (h : EvA K B O G t ds) (hl : ds.length ≤ 100000) : EvD K B O G (tLst t) (.list ds) := fun B1 O1 σ H e o s Q q =>
  h B1 O1 σ H e o s _ fun vs B2 H2 e2 w2 d2 => ⟨by rw [dps_len d2]; exact sz_of hl, fun p hp => q _ (upd B2 p (.lst vs)) _ (e2.trans (Ex.new (w2.fb hp))) (w2.newB hp) (.lst upd_same (dps_ex (Ex.new (w2.fb hp)) _ _ d2))⟩
/-- *e within a display: e a tuple -/
theorem ea_star {t : TA} {es ds : List PyData} (h : EvD K B O G te (.tuple es)) (hr : EvA K B O G t ds) : EvA K B O G (tStar K te t) (es ++ ds) := fun B1 O1 σ H e o s Q q =>
  h B1 O1 σ H e o s _ fun v B2 H2 e2 w2 d2 => by
    obtain ⟨a, xs, rfl, h1, h2⟩ := dp_tup d2
    refine ⟨a, xs, rfl, .inl (st_ex w2.b h1), ?_⟩
    exact hr B2 O1 σ H2 (e.trans e2) o (s.ex e2 w2) _ fun vs B3 H3 e3 w3 d3 => q _ B3 H3 (e2.trans e3) w3 (dps_app (dps_ex e3 _ _ h2) d3)
/-! tests -/
theorem et_test {b : Bool} (h : EvD K B O G te (.bool b)) : EvT K B O G (tTest te) b := fun B1 O1 σ H e o s Q q => h B1 O1 σ H e o s _ fun v B2 H2 e2 w2 d2 => ⟨b, dp_bool d2, q B2 H2 e2 w2⟩
theorem et_B {b : Bool} (h : EvD K B O G te (.bool b)) : EvT K B O G (tB te) b := fun B1 O1 σ H e o s Q q => h B1 O1 σ H e o s _ fun v B2 H2 e2 w2 d2 => ⟨b, dp_bool d2, q B2 H2 e2 w2⟩
theorem et_yes : EvT K B O G tYes true := fun B1 O1 σ H _ o s Q q => q B1 H (Ex.refl _) s.w
theorem et_and {a b : Bool} (h1 : EvT K B O G t a) (h2 : a = true → EvT K B O G u b) : EvT K B O G (tAnd t u) (a && b) := fun B1 O1 σ H e o s Q q => h1 B1 O1 σ H e o s _ fun B2 H2 e2 w2 => by
  cases a with
  | true =>
    show u σ H2 Q
    exact h2 rfl B2 O1 σ H2 (e.trans e2) o (s.ex e2 w2) Q fun B3 H3 e3 w3 => q B3 H3 (e2.trans e3) w3
  | false =>
    show Q false H2
    exact q B2 H2 e2 w2
theorem et_or {a b : Bool} (h1 : EvT K B O G t a) (h2 : a = false → EvT K B O G u b) : EvT K B O G (tOr t u) (a || b) := fun B1 O1 σ H e o s Q q => h1 B1 O1 σ H e o s _ fun B2 H2 e2 w2 => by
  cases a with
  | true =>
    show Q true H2
    exact q B2 H2 e2 w2
  | false =>
    show u σ H2 Q
    exact h2 rfl B2 O1 σ H2 (e.trans e2) o (s.ex e2 w2) Q fun B3 H3 e3 w3 => q B3 H3 (e2.trans e3) w3
theorem et_not {a : Bool} (h1 : EvT K B O G t a) : EvT K B O G (tNot t) (!a) := fun B1 O1 σ H e o s Q q => h1 B1 O1 σ H e o s _ fun B2 H2 e2 w2 => q B2 H2 e2 w2
theorem ev_andV {a b : Bool} (h1 : EvD K B O G ta (.bool a)) (h2 : a = true → EvD K B O G tb (.bool b)) : EvD K B O G (tAndV ta tb) (.bool (a && b)) := fun B1 O1 σ H e o s Q q => h1 B1 O1 σ H e o s _ fun v B2 H2 e2 w2 d2 => ⟨a, dp_bool d2, by
  cases a with
  | true =>
    show tb σ H2 Q
    exact h2 rfl B2 O1 σ H2 (e.trans e2) o (s.ex e2 w2) Q fun v B3 H3 e3 w3 d3 => q v B3 H3 (e2.trans e3) w3 d3
  | false =>
    show Q (.bl false) H2
    exact q _ B2 H2 e2 w2 (.bl false)⟩
theorem ev_orV {a b : Bool} (h1 : EvD K B O G ta (.bool a)) (h2 : a = false → EvD K B O G tb (.bool b)) : EvD K B O G (tOrV ta tb) (.bool (a || b)) := fun B1 O1 σ H e o s Q q => h1 B1 O1 σ H e o s _ fun v B2 H2 e2 w2 d2 => ⟨a, dp_bool d2, by
  cases a with
  | true =>
    show Q (.bl true) H2
    exact q _ B2 H2 e2 w2 (.bl true)
  | false =>
    show tb σ H2 Q
    exact h2 rfl B2 O1 σ H2 (e.trans e2) o (s.ex e2 w2) Q fun v B3 H3 e3 w3 d3 => q v B3 H3 (e2.trans e3) w3 d3⟩
theorem ev_notV {a : Bool} (h1 : EvD K B O G ta (.bool a)) : EvD K B O G (tNotV ta) (.bool (!a)) := fun B1 O1 σ H e o s Q q => h1 B1 O1 σ H e o s _ fun v B2 H2 e2 w2 d2 => ⟨a, dp_bool d2, q _ B2 H2 e2 w2 (.bl _)⟩
theorem ev_if {b : Bool} (h : EvT K B O G t b) (h1 : b = true → EvD K B O G ta d) (h2 : b = false → EvD K B O G tb d) : EvD K B O G (tIf t ta tb) d := fun B1 O1 σ H e o s Q q => h B1 O1 σ H e o s _ fun B2 H2 e2 w2 => by
  cases b with
  | true =>
    show ta σ H2 Q
    exact h1 rfl B2 O1 σ H2 (e.trans e2) o (s.ex e2 w2) Q fun v B3 H3 e3 w3 d3 => q v B3 H3 (e2.trans e3) w3 d3
  | false =>
    show tb σ H2 Q
    exact h2 rfl B2 O1 σ H2 (e.trans e2) o (s.ex e2 w2) Q fun v B3 H3 e3 w3 d3 => q v B3 H3 (e2.trans e3) w3 d3
theorem ev_isN {b : Bool} (h : EvD K B O G ta d) (e : (match d with | .none => true | _ => false) = b) : EvD K B O G (tOp (fun x y H Q => y = .non ∧ Q (.bl (decide (x = .non))) H) ta (tC .non)) (.bool b) := fun B1 O1 σ H e1 o s Q q =>
  h B1 O1 σ H e1 o s _ fun v B2 H2 e2 w2 d2 => ⟨rfl, by
    have : decide (v = V.non) = b := by
      rw [← e]
      cases d2 <;> simp
    rw [this]
    exact q _ B2 H2 e2 w2 (.bl b)⟩
end
end DL

set_option Elab.async false
set_option linter.all false
set_option maxRecDepth 100000
set_option maxHeartbeats 2000000
namespace DL
open PySem L2 StX
/-! ### operators -/
section
variable {K : PySem.W.Frag} {B O : Hp} {i j : Int} {d e : PyData} {ds es : List PyData}
theorem rd_I0 {f : Int → Int → Int} : RD K (rI0 fun i j => .int (f i j)) (.int i) (.int j) (.int (f i j)) := fun B1 O1 H v w hw hv hx Q q => by
  rw [dp_int hv, dp_int hx]
  exact ⟨i, j, rfl, rfl, q _ B1 H (Ex.refl _) hw (.int _)⟩
theorem rd_B0 {f : Int → Int → Bool} : RD K (rI0 fun i j => .bl (f i j)) (.int i) (.int j) (.bool (f i j)) := fun B1 O1 H v w hw hv hx Q q => by
  rw [dp_int hv, dp_int hx]
  exact ⟨i, j, rfl, rfl, q _ B1 H (Ex.refl _) hw (.bl _)⟩
theorem rd_I {C : Int → Int → Prop} {f : Int → Int → Int} (hc : C i j) : RD K (rI C fun i j => .int (f i j)) (.int i) (.int j) (.int (f i j)) := fun B1 O1 H v w hw hv hx Q q => by
  rw [dp_int hv, dp_int hx]
  exact ⟨i, j, rfl, rfl, hc, q _ B1 H (Ex.refl _) hw (.int _)⟩
theorem atI_get {ds : List PyData} {vs : List V} {i : Int} {d : PyData} {B : Hp} (h : DtAll K B vs ds) (e : atI ds i = some d) : ∃ v, atI vs i = some v ∧ Dt K B v d := by
  unfold atI at e ⊢
  rw [dps_len h]
  cases hj : ixN ds.length i with
  | none => rw [hj] at e; cases e
  | some j =>
    rw [hj] at e
    exact dps_get h e
theorem rd_ixT (h : atI ds i = some d) : RD K (rIxT K) (.tuple ds) (.int i) d := fun B1 O1 H v w hw hv hx Q q => by
  obtain ⟨a, xs, rfl, h1, h2⟩ := dp_tup hv
  obtain ⟨v', h3, h4⟩ := atI_get h2 h
  rw [dp_int hx]
  exact ⟨a, xs, i, v', rfl, rfl, st_ex hw.b h1, h3, q _ B1 H (Ex.refl _) hw h4⟩
theorem rd_ixL (h : atI ds i = some d) : RD K (rIxL K) (.list ds) (.int i) d := fun B1 O1 H v w hw hv hx Q q => by
  obtain ⟨a, xs, rfl, h1, h2⟩ := dp_lst hv
  obtain ⟨v', h3, h4⟩ := atI_get h2 h
  rw [dp_int hx]
  exact ⟨a, xs, i, v', rfl, rfl, .inl (.inl (hw.b _ _ h1)), h3, q _ B1 H (Ex.refl _) hw h4⟩
theorem rd_eq {b : Bool} (hd : SeqAt.shaped d = true) (he : SeqAt.shaped e = true) (h : PyData.eqv d e = b) : RD K (rEqD K) d e (.bool b) := fun B1 O1 H v w hw hv hx Q q =>
  ⟨d, e, dt_dp _ _ (SeqAt.canLay_of_shaped hd) (dp_ex hw.b _ _ hv), dt_dp _ _ (SeqAt.canLay_of_shaped he) (dp_ex hw.b _ _ hx), hd, he, by rw [h]; exact q _ B1 H (Ex.refl _) hw (.bl _)⟩
theorem rd_ne {b : Bool} (hd : SeqAt.shaped d = true) (he : SeqAt.shaped e = true) (h : (!PyData.eqv d e) = b) : RD K (rNeD K) d e (.bool b) := fun B1 O1 H v w hw hv hx Q q =>
  ⟨d, e, dt_dp _ _ (SeqAt.canLay_of_shaped hd) (dp_ex hw.b _ _ hv), dt_dp _ _ (SeqAt.canLay_of_shaped he) (dp_ex hw.b _ _ hx), hd, he, by rw [h]; exact q _ B1 H (Ex.refl _) hw (.bl _)⟩
theorem rd_inT {neg : Bool} (hd : flatD d = true) (hs : es.all flatD = true) {b : Bool} (h : (if neg then !inV (fv d) (es.map fv) else inV (fv d) (es.map fv)) = b) : RD K (rIn K neg) d (.tuple es) (.bool b) := fun B1 O1 H v w hw hv hx Q q => by
  obtain ⟨a, xs, rfl, h1, h2⟩ := dp_tup hx
  obtain ⟨e1, f1⟩ := fv_of hv hd
  obtain ⟨e2, f2⟩ := fvs_of h2 hs
  refine ⟨a, xs, rfl, .inr (st_ex hw.b h1), f1, f2, ?_⟩
  rw [e1, e2, h]
  exact q _ B1 H (Ex.refl _) hw (.bl _)
theorem rd_inL {neg : Bool} (hd : flatD d = true) (hs : es.all flatD = true) {b : Bool} (h : (if neg then !inV (fv d) (es.map fv) else inV (fv d) (es.map fv)) = b) : RD K (rIn K neg) d (.list es) (.bool b) := fun B1 O1 H v w hw hv hx Q q => by
  obtain ⟨a, xs, rfl, h1, h2⟩ := dp_lst hx
  obtain ⟨e1, f1⟩ := fv_of hv hd
  obtain ⟨e2, f2⟩ := fvs_of h2 hs
  refine ⟨a, xs, rfl, .inl (.inl (.inl (hw.b _ _ h1))), f1, f2, ?_⟩
  rw [e1, e2, h]
  exact q _ B1 H (Ex.refl _) hw (.bl _)
theorem dt_tup {B1 B' : Hp} {a : Addr} {xs : List V} (e : Ex B1 B') (h1 : SqT K B1 a xs) (h2 : DtAll K B1 xs ds) : Dt K B' (.ref a) (.tuple ds) := .tup (st_ex e h1) (dps_ex e _ _ h2)
theorem rd_catT (hl : ds.length + es.length ≤ 100000) : RD K (rCatA K) (.tuple ds) (.tuple es) (.tuple (ds ++ es)) := fun B1 O1 H v w hw hv hx Q q => by
  obtain ⟨a, xs, rfl, h1, h2⟩ := dp_tup hv
  obtain ⟨b, ys, rfl, h3, h4⟩ := dp_tup hx
  have l1 := dps_len h2
  have l2 := dps_len h4
  refine ⟨a, b, xs, ys, rfl, rfl, st_ex hw.b h1, st_ex hw.b h3, sz_of (by omega), fun e => ?_, fun _ e => ?_, fun _ _ p hp => ?_⟩
  · subst e
    have : ds = [] := List.length_eq_zero_iff.mp (by rw [← l1]; rfl)
    subst this
    exact q _ B1 H (Ex.refl _) hw (.tup h3 h4)
  · subst e
    have : es = [] := List.length_eq_zero_iff.mp (by rw [← l2]; rfl)
    subst this
    rw [List.append_nil] at q
    exact q _ B1 H (Ex.refl _) hw (.tup h1 h2)
  · exact q _ (upd B1 p _) _ (Ex.new (hw.fb hp)) (hw.newB hp) (.tup (.inl (.inl upd_same)) (dps_ex (Ex.new (hw.fb hp)) _ _ (dps_app h2 h4)))
theorem rd_cat (hl : ds.length + es.length ≤ 100000) : RD K rCat (.list ds) (.list es) (.list (ds ++ es)) := fun B1 O1 H v w hw hv hx Q q => by
  obtain ⟨a, xs, rfl, h1, h2⟩ := dp_lst hv
  obtain ⟨b, ys, rfl, h3, h4⟩ := dp_lst hx
  have l1 := dps_len h2
  have l2 := dps_len h4
  refine ⟨a, b, xs, ys, rfl, rfl, hw.b _ _ h1, hw.b _ _ h3, sz_of (by omega), fun p hp => ?_⟩
  exact q _ (upd B1 p _) _ (Ex.new (hw.fb hp)) (hw.newB hp) (.lst upd_same (dps_ex (Ex.new (hw.fb hp)) _ _ (dps_app h2 h4)))
theorem list_rep {α : Type} {xs : List α} : ∀ n, (List.replicate n xs).flatten.length = xs.length * n := fun n => by
  simp [Nat.mul_comm]
end
section
variable {K : PySem.W.Frag} {B O : Hp} {G : List SD} {ta tb te : TE} {d e : PyData} {ds es : List PyData} {i j : Int}
theorem ev_un {f : Int → Int} (ha : EvD K B O G ta (.int i)) : EvD K B O G (tUn (rU fun i => .int (f i)) ta) (.int (f i)) := fun B1 O1 σ H e1 o s Q q =>
  ha B1 O1 σ H e1 o s _ fun v B2 H2 e2 w2 d2 => ⟨i, dp_int d2, q _ B2 H2 e2 w2 (.int _)⟩
theorem ev_cb {r : List V → Hp → VK → Prop} {t : TA} {xs : List PyData} (h : EvA K B O G t xs) (hr : RC K r xs d) : EvD K B O G (tCB r t) d := fun B1 O1 σ H e1 o s Q q =>
  h B1 O1 σ H e1 o s _ fun vs B2 H2 e2 w2 d2 => hr B2 O1 H2 vs w2 d2 Q fun u B3 H3 e3 w3 d3 => q u B3 H3 (e2.trans e3) w3 d3
/-! slices -/
theorem eo_none : EvO K B O G tNoPart none := fun B1 O1 σ H _ _ s Q q => q B1 H (Ex.refl _) s.w
theorem eo_some (h : EvD K B O G te (.int i)) : EvO K B O G (tPart te) (some i) := fun B1 O1 σ H e1 o s Q q => h B1 O1 σ H e1 o s _ fun v B2 H2 e2 w2 d2 => ⟨i, dp_int d2, q B2 H2 e2 w2⟩
def cutX (xs : List PyData) (lo hi : Option Int) : List PyData := (xs.drop (HT.sIx xs.length 0 lo)).take (HT.sIx xs.length xs.length hi - HT.sIx xs.length 0 lo)
theorem cut_dps {lo hi : Option Int} {vs : List V} (h : DtAll K B vs ds) : DtAll K B (cutV vs lo hi) (cutX ds lo hi) := by
  unfold cutV cutX
  rw [dps_len h]
  exact dps_take _ (dps_drop _ h)
theorem cut_whole {lo hi : Option Int} {vs : List V} (h : HT.sIx vs.length 0 lo = 0 ∧ HT.sIx vs.length vs.length hi = vs.length) : cutV vs lo hi = vs := by
  unfold cutV
  rw [h.1, h.2]
  simp
theorem ev_slT {to tp : TO} {lo hi : Option Int} (h : EvD K B O G te (.tuple ds)) (h1 : EvO K B O G to lo) (h2 : EvO K B O G tp hi) : EvD K B O G (tSl (rSlA K) te to tp) (.tuple (cutX ds lo hi)) := fun B1 O1 σ H e1 o s Q q =>
  h B1 O1 σ H e1 o s _ fun v B2 H2 e2 w2 d2 => h1 B2 O1 σ H2 (e1.trans e2) o (s.ex e2 w2) _ fun B3 H3 e3 w3 => h2 B3 O1 σ H3 ((e1.trans e2).trans e3) o (s.ex (e2.trans e3) w3) _ fun B4 H4 e4 w4 => by
    obtain ⟨a, xs, rfl, k1, k2⟩ := dp_tup d2
    have k1' := st_ex (e3.trans e4) k1
    have k2' := dps_ex (e3.trans e4) _ _ k2
    refine ⟨a, xs, rfl, st_ex w4.b k1', fun hw => ?_, fun _ p hp => ?_⟩
    · have k3 := cut_dps (lo := lo) (hi := hi) k2'
      rw [cut_whole hw] at k3
      exact q _ B4 H4 ((e2.trans e3).trans e4) w4 (.tup k1' k3)
    · exact q _ (upd B4 p _) _ (((e2.trans e3).trans e4).trans (Ex.new (w4.fb hp))) (w4.newB hp) (.tup (.inl (.inl upd_same)) (dps_ex (Ex.new (w4.fb hp)) _ _ (cut_dps k2')))
theorem ev_slL {to tp : TO} {lo hi : Option Int} (h : EvD K B O G te (.list ds)) (h1 : EvO K B O G to lo) (h2 : EvO K B O G tp hi) : EvD K B O G (tSl (rSlL K) te to tp) (.list (cutX ds lo hi)) := fun B1 O1 σ H e1 o s Q q =>
  h B1 O1 σ H e1 o s _ fun v B2 H2 e2 w2 d2 => h1 B2 O1 σ H2 (e1.trans e2) o (s.ex e2 w2) _ fun B3 H3 e3 w3 => h2 B3 O1 σ H3 ((e1.trans e2).trans e3) o (s.ex (e2.trans e3) w3) _ fun B4 H4 e4 w4 => by
    obtain ⟨a, xs, rfl, k1, k2⟩ := dp_lst d2
    have k1' := (e3.trans e4) _ _ k1
    have k2' := dps_ex (e3.trans e4) _ _ k2
    exact ⟨a, xs, rfl, .inl (.inl (w4.b _ _ k1')), fun p hp => q _ (upd B4 p _) _ (((e2.trans e3).trans e4).trans (Ex.new (w4.fb hp))) (w4.newB hp) (.lst upd_same (dps_ex (Ex.new (w4.fb hp)) _ _ (cut_dps k2')))⟩
end
/-! ### built-ins -/
section
variable {K : PySem.W.Frag} {ds : List PyData}
theorem rc_lenL : RC K (fun xs H Q => ∃ p ys, xs = [.ref p] ∧ (SqL K H p ys ∨ SqT K H p ys) ∧ Q (.int ys.length) H) [.list ds] (.int ds.length) := fun B1 O1 H vs w h Q q => by
  cases h with
  | cons h1 h2 =>
    cases h2
    obtain ⟨a, xs, rfl, k1, k2⟩ := dp_lst h1
    refine ⟨a, xs, rfl, .inl (.inl (.inl (w.b _ _ k1))), ?_⟩
    rw [dps_len k2]
    exact q _ B1 H (Ex.refl _) w (.int _)
theorem rc_lenT : RC K (fun xs H Q => ∃ p ys, xs = [.ref p] ∧ (SqL K H p ys ∨ SqT K H p ys) ∧ Q (.int ys.length) H) [.tuple ds] (.int ds.length) := fun B1 O1 H vs w h Q q => by
  cases h with
  | cons h1 h2 =>
    cases h2
    obtain ⟨a, xs, rfl, k1, k2⟩ := dp_tup h1
    refine ⟨a, xs, rfl, .inr (st_ex w.b k1), ?_⟩
    rw [dps_len k2]
    exact q _ B1 H (Ex.refl _) w (.int _)
theorem rc_listT : RC K (fun xs H Q => ∃ p ys, xs = [.ref p] ∧ (SqL K H p ys ∨ SqT K H p ys) ∧ ∀ l, H l = none → Q (.ref l) (upd H l (.lst ys))) [.tuple ds] (.list ds) := fun B1 O1 H vs w h Q q => by
  cases h with
  | cons h1 h2 =>
    cases h2
    obtain ⟨a, xs, rfl, k1, k2⟩ := dp_tup h1
    exact ⟨a, xs, rfl, .inr (st_ex w.b k1), fun l hl => q _ (upd B1 l _) _ (Ex.new (w.fb hl)) (w.newB hl) (.lst upd_same (dps_ex (Ex.new (w.fb hl)) _ _ k2))⟩
theorem rc_listL : RC K (fun xs H Q => ∃ p ys, xs = [.ref p] ∧ (SqL K H p ys ∨ SqT K H p ys) ∧ ∀ l, H l = none → Q (.ref l) (upd H l (.lst ys))) [.list ds] (.list ds) := fun B1 O1 H vs w h Q q => by
  cases h with
  | cons h1 h2 =>
    cases h2
    obtain ⟨a, xs, rfl, k1, k2⟩ := dp_lst h1
    exact ⟨a, xs, rfl, .inl (.inl (.inl (w.b _ _ k1))), fun l hl => q _ (upd B1 l _) _ (Ex.new (w.fb hl)) (w.newB hl) (.lst upd_same (dps_ex (Ex.new (w.fb hl)) _ _ k2))⟩
theorem rc_tupL : RC K (fun xs H Q => ∃ p ys, xs = [.ref p] ∧ ((SqL K H p ys ∧ ∀ l, H l = none → Q (.ref l) (upd H l (.tup ys))) ∨ (SqT K H p ys ∧ Q (.ref p) H))) [.list ds] (.tuple ds) := fun B1 O1 H vs w h Q q => by
  cases h with
  | cons h1 h2 =>
    cases h2
    obtain ⟨a, xs, rfl, k1, k2⟩ := dp_lst h1
    exact ⟨a, xs, rfl, .inl ⟨.inl (.inl (w.b _ _ k1)), fun l hl => q _ (upd B1 l _) _ (Ex.new (w.fb hl)) (w.newB hl) (.tup (.inl (.inl upd_same)) (dps_ex (Ex.new (w.fb hl)) _ _ k2))⟩⟩
theorem rc_tupT : RC K (fun xs H Q => ∃ p ys, xs = [.ref p] ∧ ((SqL K H p ys ∧ ∀ l, H l = none → Q (.ref l) (upd H l (.tup ys))) ∨ (SqT K H p ys ∧ Q (.ref p) H))) [.tuple ds] (.tuple ds) := fun B1 O1 H vs w h Q q => by
  cases h with
  | cons h1 h2 =>
    cases h2
    obtain ⟨a, xs, rfl, k1, k2⟩ := dp_tup h1
    exact ⟨a, xs, rfl, .inr ⟨st_ex w.b k1, q _ B1 H (Ex.refl _) w (.tup k1 k2)⟩⟩
theorem rc_sum {ns : List Int} : RC K (rSum K) [.list (ns.map .int)] (.int ns.sum) := fun B1 O1 H vs w h Q q => by
  cases h with
  | cons h1 h2 =>
    cases h2
    obtain ⟨a, xs, rfl, k1, k2⟩ := dp_lst h1
    have e := dps_ints k2
    subst e
    exact ⟨a, ns, rfl, .inl (.inl (w.b _ _ k1)), q _ B1 H (Ex.refl _) w (.int _)⟩
theorem rc_all {bs : List Bool} : RC K (rAll K) [.list (bs.map .bool)] (.bool (bs.all id)) := fun B1 O1 H vs w h Q q => by
  cases h with
  | cons h1 h2 =>
    cases h2
    obtain ⟨a, xs, rfl, k1, k2⟩ := dp_lst h1
    have e := dps_bools k2
    subst e
    exact ⟨a, bs, rfl, .inl (.inl (w.b _ _ k1)), q _ B1 H (Ex.refl _) w (.bl _)⟩
theorem rc_any {bs : List Bool} : RC K (rAny K) [.list (bs.map .bool)] (.bool (bs.any id)) := fun B1 O1 H vs w h Q q => by
  cases h with
  | cons h1 h2 =>
    cases h2
    obtain ⟨a, xs, rfl, k1, k2⟩ := dp_lst h1
    have e := dps_bools k2
    subst e
    exact ⟨a, bs, rfl, .inl (.inl (w.b _ _ k1)), q _ B1 H (Ex.refl _) w (.bl _)⟩
theorem rc_intI {i : Int} : RC K (fun xs H Q => (∃ i, xs = [.int i] ∧ Q (.int i) H) ∨ ∃ k, xs = [.bl k] ∧ Q (.int (if k then 1 else 0)) H) [.int i] (.int i) := fun B1 O1 H vs w h Q q => by
  cases h with
  | cons h1 h2 =>
    cases h2
    exact .inl ⟨i, by rw [dp_int h1], q _ B1 H (Ex.refl _) w (.int _)⟩
theorem rc_intB {k : Bool} : RC K (fun xs H Q => (∃ i, xs = [.int i] ∧ Q (.int i) H) ∨ ∃ k, xs = [.bl k] ∧ Q (.int (if k then 1 else 0)) H) [.bool k] (.int (if k then 1 else 0)) := fun B1 O1 H vs w h Q q => by
  cases h with
  | cons h1 h2 =>
    cases h2
    exact .inr ⟨k, by rw [dp_bool h1], q _ B1 H (Ex.refl _) w (.int _)⟩
theorem rc_abs {i : Int} : RC K (fun xs H Q => ∃ i, xs = [.int i] ∧ Q (.int (if i < 0 then -i else i)) H) [.int i] (.int (if i < 0 then -i else i)) := fun B1 O1 H vs w h Q q => by
  cases h with
  | cons h1 h2 =>
    cases h2
    exact ⟨i, by rw [dp_int h1], q _ B1 H (Ex.refl _) w (.int _)⟩
theorem rc_max2 {i j : Int} : RC K (fun xs H Q => ∃ i j, xs = [.int i, .int j] ∧ Q (.int (if j > i then j else i)) H) [.int i, .int j] (.int (if j > i then j else i)) := fun B1 O1 H vs w h Q q => by
  cases h with
  | cons h1 h2 =>
    cases h2 with
    | cons h3 h4 =>
      cases h4
      exact ⟨i, j, by rw [dp_int h1, dp_int h3], q _ B1 H (Ex.refl _) w (.int _)⟩
theorem rc_min2 {i j : Int} : RC K (fun xs H Q => ∃ i j, xs = [.int i, .int j] ∧ Q (.int (if j < i then j else i)) H) [.int i, .int j] (.int (if j < i then j else i)) := fun B1 O1 H vs w h Q q => by
  cases h with
  | cons h1 h2 =>
    cases h2 with
    | cons h3 h4 =>
      cases h4
      exact ⟨i, j, by rw [dp_int h1, dp_int h3], q _ B1 H (Ex.refl _) w (.int _)⟩
end

/-! ### what is walked -/
section
variable (K : PySem.W.Frag) (B O : Hp) (G : List SD)
/-- the walk gives the data es in order -/
structure Gives (J : It) (es : List PyData) (B' : Hp) : Prop where
  walk : ∃ (n : Nat) (G0 : Hp → Prop) (Y : Nat → Hp → V → Hp → Prop), n = es.length ∧ Walk J n G0 Y ∧ (∀ B2 O2 H2, Ex B' B2 → W B2 O2 H2 → G0 H2) ∧
    ∀ i H2 x H3 B2 O2, Ex B' B2 → W B2 O2 H2 → i < n → Y i H2 x H3 → ∃ e B3, es[i]? = some e ∧ Ex B2 B3 ∧ W B3 O2 H3 ∧ Dt K B3 x e
def EvI (wi : TI) (es : List PyData) : Prop := ∀ B1 O1 σ H, Ex B B1 → Ex O O1 → Sta K B1 O1 G σ H → ∀ R : It → Hp → Prop, (∀ J B' H', Ex B1 B' → W B' O1 H' → Gives K J es B' → R J H') → wi σ H R
end
section
variable {K : PySem.W.Frag} {B O : Hp} {G : List SD} {te : TE} {ta : TA} {es ds : List PyData}
theorem ei_list (h : EvD K B O G te (.list es)) : EvI K B O G (iList K te) es := fun B1 O1 σ H e1 o s R r => h B1 O1 σ H e1 o s _ fun v B2 H2 e2 w2 d2 => by
  obtain ⟨a, xs, rfl, k1, k2⟩ := dp_lst d2
  refine ⟨a, rfl, ⟨xs, .inl (.inl (w2.b _ _ k1))⟩, r _ B2 H2 e2 w2 ⟨xs.length, _, _, dps_len k2, walk_list (xs := xs), fun B3 O3 H3 e3 w3 => .inl (.inl (w3.b _ _ (e3 _ _ k1))), fun i H3 x H4 B3 O3 e3 w3 hi y => ?_⟩⟩
  obtain ⟨rfl, hx⟩ := y
  obtain ⟨e, he, hd⟩ := dps_getV k2 hx
  exact ⟨e, B3, he, Ex.refl _, w3, dp_ex e3 _ _ hd⟩
theorem ei_tup (h : EvD K B O G te (.tuple es)) : EvI K B O G (iTup K te) es := fun B1 O1 σ H e1 o s R r => h B1 O1 σ H e1 o s _ fun v B2 H2 e2 w2 d2 => by
  obtain ⟨a, xs, rfl, k1, k2⟩ := dp_tup d2
  refine ⟨a, rfl, ⟨xs, st_ex w2.b k1⟩, r _ B2 H2 e2 w2 ⟨xs.length, _, _, dps_len k2, walk_tup (xs := xs), fun B3 O3 H3 e3 w3 => st_ex (e3.trans w3.b) k1, fun i H3 x H4 B3 O3 e3 w3 hi y => ?_⟩⟩
  obtain ⟨rfl, hx⟩ := y
  obtain ⟨e, he, hd⟩ := dps_getV k2 hx
  exact ⟨e, B3, he, Ex.refl _, w3, dp_ex e3 _ _ hd⟩
def rangeD (lo : Int) (n : Nat) : List PyData := (List.range n).map fun (i : Nat) => .int (lo + i)
theorem rangeD_get {lo : Int} {n i : Nat} (h : i < n) : (rangeD lo n)[i]? = some (.int (lo + i)) := by
  unfold rangeD
  rw [List.getElem?_map, List.getElem?_range h]
  rfl
theorem rangeD_len {lo : Int} {n : Nat} : (rangeD lo n).length = n := by
  unfold rangeD
  rw [List.length_map, List.length_range]
theorem ei_range1 {j : Int} (h : EvA K B O G ta [.int j]) (hj : -1000000 ≤ j ∧ j ≤ 1000000) : EvI K B O G (iRng1 ta) (rangeD 0 j.toNat) := fun B1 O1 σ H e1 o s R r => h B1 O1 σ H e1 o s _ fun vs B2 H2 e2 w2 d2 => by
  have e := dps_ints (ns := [j]) d2
  refine ⟨j, e, by omega, by omega, r _ B2 H2 e2 w2 ⟨j.toNat, _, _, rangeD_len.symm, walk_range, fun _ _ _ _ _ => trivial, fun i H3 x H4 B3 O3 e3 w3 hi y => ?_⟩⟩
  obtain ⟨rfl, rfl⟩ := y
  exact ⟨_, B3, rangeD_get hi, Ex.refl _, w3, .int _⟩
theorem ei_range2 {i j : Int} (h : EvA K B O G ta [.int i, .int j]) (hi : -1000000 ≤ i ∧ i ≤ 1000000) (hj : -1000000 ≤ j ∧ j ≤ 1000000) : EvI K B O G (iRng2 ta) (rangeD i (j - i).toNat) := fun B1 O1 σ H e1 o s R r => h B1 O1 σ H e1 o s _ fun vs B2 H2 e2 w2 d2 => by
  have e := dps_ints (ns := [i, j]) d2
  refine ⟨i, j, e, by omega, r _ B2 H2 e2 w2 ⟨(j - i).toNat, _, _, rangeD_len.symm, walk_range, fun _ _ _ _ _ => trivial, fun k H3 x H4 B3 O3 e3 w3 hi y => ?_⟩⟩
  obtain ⟨rfl, rfl⟩ := y
  exact ⟨_, B3, rangeD_get hi, Ex.refl _, w3, .int _⟩
def enumD (es : List PyData) : List PyData := (List.range es.length).map fun (i : Nat) => .tuple [.int i, es.getD i .none]
theorem enumD_len : (enumD es).length = es.length := by
  unfold enumD
  rw [List.length_map, List.length_range]
theorem enumD_get {i : Nat} {e : PyData} (h : es[i]? = some e) : (enumD es)[i]? = some (.tuple [.int i, e]) := by
  have hi : i < es.length := (List.getElem?_eq_some_iff.mp h).1
  unfold enumD
  rw [List.getElem?_map, List.getElem?_range hi]
  have : es.getD i PyData.none = e := by rw [List.getD_eq_getElem?_getD, h]; rfl
  simp [this, h]
theorem pair_new {B2 O2 H2 : Hp} {T : Addr} {x y : V} {d e : PyData} (w : W B2 O2 H2) (hT : H2 T = none) (hx : Dt K B2 x d) (hy : Dt K B2 y e) :
    Ex B2 (upd B2 T (.tup [x, y])) ∧ W (upd B2 T (.tup [x, y])) O2 (upd H2 T (.tup [x, y])) ∧ Dt K (upd B2 T (.tup [x, y])) (.ref T) (.tuple [d, e]) :=
  ⟨Ex.new (w.fb hT), w.newB hT, .tup (.inl (.inl upd_same)) (dps_ex (Ex.new (w.fb hT)) _ _ (.cons hx (.cons hy .nil)))⟩
theorem ei_enum (h : EvA K B O G ta [.list es]) : EvI K B O G (iEnum K ta) (enumD es) := fun B1 O1 σ H e1 o s R r => h B1 O1 σ H e1 o s _ fun vs B2 H2 e2 w2 d2 => by
  cases d2 with
  | cons d3 d4 =>
    cases d4
    obtain ⟨a, xs, rfl, k1, k2⟩ := dp_lst d3
    refine ⟨a, xs, rfl, .inl (.inl (w2.b _ _ k1)), r _ B2 H2 e2 w2 ⟨xs.length, _, _, by rw [enumD_len]; exact dps_len k2, walk_enum (xs := xs), fun B3 O3 H3 e3 w3 => .inl (.inl (w3.b _ _ (e3 _ _ k1))), fun i H3 x H4 B3 O3 e3 w3 hi y => ?_⟩⟩
    obtain ⟨T, x', y', rfl, hT, rfl, hx, hy⟩ := y
    cases hx
    obtain ⟨e, he, hd⟩ := dps_getV k2 hy
    obtain ⟨q1, q2, q3⟩ := pair_new w3 hT (.int (i : Nat)) (dp_ex e3 _ _ hd)
    exact ⟨_, _, enumD_get he, q1, q2, q3⟩
end
/-! ### targets -/
/-- the target takes the data e: G becomes G' -/
def EvG (K : PySem.W.Frag) (R : L2.St → L2.St → Prop) (g : TG) (G : List SD) (e : PyData) (G' : List SD) : Prop :=
  ∀ B1 O1 σ H v, Sta K B1 O1 G σ H → Dt K B1 v e → ∀ Q : L2.St → Hp → Prop, (∀ σ', Sta K B1 O1 G' σ' H → R σ σ' → Q σ' H) → g v σ H Q
theorem wipe_get (σ : L2.St) (i : Nat) : ∀ vs : List Nat, (L2.wipe σ vs)[i]? = if i ∈ vs then (if i < σ.length then some none else none) else σ[i]?
  | [] => by simp [L2.wipe]
  | v :: vs => by
    unfold L2.wipe
    rw [List.getElem?_set]
    by_cases h : v = i
    · subst h
      simp [wipe_length]
    · rw [if_neg h, wipe_get σ i vs]
      have h' : ¬ i = v := fun e => h e.symm
      simp [h']
theorem wipe_set {σ : L2.St} {j : Nat} {x : Option V} {vs : List Nat} (h : j ∈ vs) : L2.wipe (σ.set j x) vs = L2.wipe σ vs := by
  apply List.ext_getElem?
  intro i
  rw [wipe_get, wipe_get, List.length_set]
  by_cases hi : i ∈ vs
  · simp [hi]
  · rw [if_neg hi, if_neg hi, List.getElem?_set_ne (by rintro rfl; exact hi h)]
theorem wipe_wipe {σ : L2.St} {vs : List Nat} : L2.wipe (L2.wipe σ vs) vs = L2.wipe σ vs := by
  apply List.ext_getElem?
  intro i
  rw [wipe_get, wipe_get, wipe_length]
  by_cases hi : i ∈ vs <;> simp [hi]
section
variable {K : PySem.W.Frag} {G : List SD} {e a b : PyData} {j k : Nat} {vs : List Nat} {n : Nat}
abbrev RW (vs : List Nat) : L2.St → L2.St → Prop := fun σ σ' => L2.wipe σ' vs = L2.wipe σ vs
abbrev RT : L2.St → L2.St → Prop := fun _ _ => True
theorem eg_name : EvG K RT (gName j) G e (G.set j (.dat e)) := fun B1 O1 σ H v s d Q q => q _ (s.set j d) trivial
theorem eg_nameW (h : j ∈ vs) : EvG K (RW vs) (gName j) G e (G.set j (.dat e)) := fun B1 O1 σ H v s d Q q => q _ (s.set j d) (wipe_set h)
theorem eg_pair : EvG K RT (gTup K 2 (gCons (gName j) (gCons (gName k) gNil))) G (.tuple [a, b]) ((G.set j (.dat a)).set k (.dat b)) := fun B1 O1 σ H v s d Q q => by
  obtain ⟨p, xs, rfl, h1, h2⟩ := dp_tup d
  have hl := dps_len h2
  cases h2 with
  | cons h3 h4 =>
    cases h4 with
    | cons h5 h6 =>
      cases h6
      refine ⟨p, _, rfl, st_ex s.w.b h1, rfl, _, _, rfl, _, _, rfl, rfl, q _ ((s.set j h3).set k h5) trivial⟩
theorem eg_pairW (hj : j ∈ vs) (hk : k ∈ vs) : EvG K (RW vs) (gTup K 2 (gCons (gName j) (gCons (gName k) gNil))) G (.tuple [a, b]) ((G.set j (.dat a)).set k (.dat b)) := fun B1 O1 σ H v s d Q q => by
  obtain ⟨p, xs, rfl, h1, h2⟩ := dp_tup d
  cases h2 with
  | cons h3 h4 =>
    cases h4 with
    | cons h5 h6 =>
      cases h6
      refine ⟨p, _, rfl, st_ex s.w.b h1, rfl, _, _, rfl, _, _, rfl, rfl, q _ ((s.set j h3).set k h5) ?_⟩
      show L2.wipe ((σ.set j _).set k _) vs = _
      rw [wipe_set hk, wipe_set hj]
end
/-! ### comprehensions -/
section
variable {K : PySem.W.Frag} {B O : Hp} {G : List SD} {wi : TI} {g : TG} {tt : TT} {te : TE} {vs : List Nat} {es : List PyData}
theorem ev_lc (f : PyData → Bool) (v : PyData → PyData) (Gi : PyData → List SD) (hI : EvI K B O G wi es) (hz : es.length ≤ 100000)
    (hg : ∀ e, e ∈ es → EvG K (RW vs) g (wipeG G vs) e (Gi e)) (ht : ∀ e, e ∈ es → EvT K B O (Gi e) tt (f e)) (he : ∀ e, e ∈ es → f e = true → EvD K B O (Gi e) te (v e)) :
    EvD K B O G (tLc wi g tt te vs) (.list ((es.filter f).map v)) := fun B1 O1 σ H e1 o s Q q => by
  refine hI B1 O1 σ H e1 o s _ fun J B2 H2 e2 w2 gv D hD => ?_
  obtain ⟨n, G0, Y, hn, wk, hG0, hY⟩ := gv
  have oD : O1 D = none := w2.fo hD
  refine lc_it wk (fun i H' => ∃ B' acc, Ex B2 B' ∧ W B' (upd O1 D (.lst acc)) H' ∧ DtAll K B' acc (((es.take i).filter f).map v))
    ⟨B2, [], Ex.refl _, w2.newO hD, by simp; exact .nil⟩ (fun i H' _ ⟨B', acc, e', w', _⟩ => hG0 B' _ H' e' w') ?_ ?_
  · rintro i x H3 H4 hi ⟨B3, acc, e3, w3, da⟩ y
    obtain ⟨e, B4, hie, e4, w4, dx⟩ := hY i H3 x H4 B3 _ e3 w3 hi y
    have hm : e ∈ es := List.mem_of_getElem? hie
    have s4 : Sta K B4 (upd O1 D (.lst acc)) (wipeG G vs) (L2.wipe σ vs) H4 := ⟨w4, (s.s.ex ((e2.trans e3).trans e4)).wipe vs⟩
    have hOD : Ex O (upd O1 D (.lst acc)) := o.trans (Ex.new oD)
    refine hg e hm B4 _ _ H4 x s4 dx _ fun σ' s5 r5 => ⟨r5.trans wipe_wipe, ?_⟩
    have hlen : acc.length ≤ 100000 := by
      rw [dps_len da, List.length_map]
      have h1 := List.length_filter_le f (es.take i)
      have h2 : (es.take i).length ≤ es.length := List.length_take_le' i es
      omega
    refine ht e hm B4 _ σ' H4 (e1.trans ((e2.trans e3).trans e4)) hOD s5 _ fun B5 H5 e5 w5 => ?_
    have htk : es.take (i + 1) = es.take i ++ [e] := by
      rw [List.take_add_one, hie]
      rfl
    cases hf : f e with
    | true =>
      show te σ' H5 _
      refine he e hm hf B5 _ σ' H5 (e1.trans (((e2.trans e3).trans e4).trans e5)) hOD (s5.ex e5 w5) _ fun u B6 H6 e6 w6 d6 => ?_
      refine ⟨acc, w6.o D _ upd_same, Nat.lt_of_le_of_lt hlen (by decide), B6, acc ++ [u], ((e3.trans e4).trans e5).trans e6, ?_, ?_⟩
      · have := w6.mut (v := .lst (acc ++ [u])) upd_same
        rw [upd_upd] at this
        exact this
      · rw [htk, List.filter_append, List.map_append]
        refine dps_app (dps_ex ((e4.trans e5).trans e6) _ _ da) ?_
        simp [hf]
        exact dps_one d6
    | false =>
      show ∃ B' acc, _
      refine ⟨B5, acc, (e3.trans e4).trans e5, w5, ?_⟩
      rw [htk, List.filter_append, List.map_append]
      simp [hf]
      have := dps_ex (e4.trans e5) _ _ da
      simpa using this
  · rintro H3 ⟨B3, acc, e3, w3, da⟩
    rw [hn, List.take_length] at da
    exact q _ (upd B3 D (.lst acc)) H3 ((e2.trans e3).trans (Ex.new (w3.bnone upd_same))) (w3.give oD) (.lst upd_same (dps_ex (Ex.new (w3.bnone upd_same)) _ _ da))
end
end DL
namespace DL
open PySem L2 StX
section
variable {K : PySem.W.Frag} {B O : Hp} {G : List SD} {te : TE} {d e : PyData}
theorem rd_eqS {b : Bool} (hd : flatD d = true) (he : flatD e = true) (hs : scal (fv d) (fv e) = true) (h : decide (fv d = fv e) = b) : RD K rEq d e (.bool b) := fun B1 O1 H v w hw hv hx Q q => by
  obtain ⟨e1, _⟩ := fv_of hv hd
  obtain ⟨e2, _⟩ := fv_of hx he
  rw [e1, e2]
  refine ⟨hs, ?_⟩
  rw [h]
  exact q _ B1 H (Ex.refl _) hw (.bl _)
theorem rd_neS {b : Bool} (hd : flatD d = true) (he : flatD e = true) (hs : scal (fv d) (fv e) = true) (h : (!decide (fv d = fv e)) = b) : RD K rNe d e (.bool b) := fun B1 O1 H v w hw hv hx Q q => by
  obtain ⟨e1, _⟩ := fv_of hv hd
  obtain ⟨e2, _⟩ := fv_of hx he
  rw [e1, e2]
  refine ⟨hs, ?_⟩
  rw [h]
  exact q _ B1 H (Ex.refl _) hw (.bl _)
theorem rd_eqStr {x y : Str} : RD K rEq (.str x) (.str y) (.bool (x == y)) := rd_eqS rfl rfl rfl dec_str
theorem rd_eqInt {x y : Int} : RD K rEq (.int x) (.int y) (.bool (x == y)) := rd_eqS rfl rfl rfl dec_int
theorem rd_neInt {x y : Int} : RD K rNe (.int x) (.int y) (.bool (!(x == y))) := rd_neS rfl rfl rfl (by rw [show decide (fv (.int x) = fv (.int y)) = (x == y) from dec_int])
/-- x is None -/
theorem ev_isNone {tb : TE} {b : Bool} {ta : TE} (h : EvD K B O G ta d) (hb : EvD K B O G tb .none) (e : (match d with | .none => true | _ => false) = b) : EvD K B O G (tOp (fun x y H Q => y = .non ∧ Q (.bl (decide (x = .non))) H) ta tb) (.bool b) :=
  ev_op h hb fun B1 O1 H v w hw hv hx Q q => ⟨dp_none hx, by
    have : decide (v = V.non) = b := by
      rw [← e]
      cases hv <;> simp
    rw [this]
    exact q _ B1 H (Ex.refl _) hw (.bl b)⟩
end
end DL

set_option Elab.async false
set_option linter.all false
set_option maxRecDepth 100000
set_option maxHeartbeats 2000000
namespace DL
open PySem PySem.Spec PyProof.Rows L2 StX
/-! ### statements -/
section
variable {K : PySem.W.Frag} {B O : Hp} {G : List SD} {σ : L2.St} {H : Hp} {te ta tb : TE} {tt : TT} {tu tw tz : TS} {D : Ends} {d : PyData} {ds : List PyData} {i : Nat}
theorem s_asg (s : Sta K B O G σ H) (h : EvD K B O G te d) (k : ∀ v B' H', Ex B B' → Dt K B' v d → Sta K B' O (G.set i (.dat d)) (σ.set i (some v)) H' → D.nx (σ.set i (some v)) H') : tAsg te (gName i) D σ H :=
  h B O σ H (Ex.refl _) (Ex.refl _) s _ fun v B' H' e w dv => k v B' H' e dv ((s.ex e w).set i dv)
theorem q_asg (s : Sta K B O G σ H) (h : EvD K B O G te d) (k : ∀ v B' H', Ex B B' → Dt K B' v d → Sta K B' O (G.set i (.dat d)) (σ.set i (some v)) H' → tz D (σ.set i (some v)) H') : tSeq (tAsg te (gName i)) tz D σ H := s_asg (D := { D with nx := tz D }) s h k
theorem s_ret (s : Sta K B O G σ H) (h : EvD K B O G te d) (k : ∀ v B' H', Ex B B' → W B' O H' → Dt K B' v d → D.rt v H') : tRet te D σ H :=
  h B O σ H (Ex.refl _) (Ex.refl _) s _ fun v B' H' e w dv => k v B' H' e w dv
theorem s_if {b : Bool} (s : Sta K B O G σ H) (h : EvT K B O G tt b) (h1 : b = true → ∀ B' H', Ex B B' → Sta K B' O G σ H' → tu D σ H') (h2 : b = false → ∀ B' H', Ex B B' → Sta K B' O G σ H' → tw D σ H') : tIfS tt tu tw D σ H :=
  h B O σ H (Ex.refl _) (Ex.refl _) s _ fun B' H' e w => by
    cases b with
    | true =>
      show tu D σ H'
      exact h1 rfl B' H' e (s.ex e w)
    | false =>
      show tw D σ H'
      exact h2 rfl B' H' e (s.ex e w)
theorem q_if {b : Bool} (s : Sta K B O G σ H) (h : EvT K B O G tt b) (h1 : b = true → ∀ B' H', Ex B B' → Sta K B' O G σ H' → tu { D with nx := tz D } σ H') (h2 : b = false → ∀ B' H', Ex B B' → Sta K B' O G σ H' → tw { D with nx := tz D } σ H') : tSeq (tIfS tt tu tw) tz D σ H := s_if (D := { D with nx := tz D }) s h h1 h2
/-- an if that ends the def -/
theorem q_when {b : Bool} (s : Sta K B O G σ H) (h : EvT K B O G tt b) (h1 : b = true → ∀ B' H', Ex B B' → Sta K B' O G σ H' → tu { D with nx := tz D } σ H') (h2 : b = false → ∀ B' H', Ex B B' → Sta K B' O G σ H' → tz D σ H') : tSeq (tIfS tt tu tNext) tz D σ H := q_if s h h1 h2
theorem q_whenF (s : Sta K B O G σ H) (h : EvT K B O G tt false) (h2 : ∀ B' H', Ex B B' → Sta K B' O G σ H' → tz D σ H') : tSeq (tIfS tt tu tNext) tz D σ H := q_if s h (fun z => nomatch z) fun _ => h2
theorem q_whenT (s : Sta K B O G σ H) (h : EvT K B O G tt true) (h1 : ∀ B' H', Ex B B' → Sta K B' O G σ H' → tu { D with nx := tz D } σ H') : tSeq (tIfS tt tu tNext) tz D σ H := q_if s h (fun _ => h1) fun z => nomatch z
/-- a new list that will be changed -/
def EvL (K : PySem.W.Frag) (B O : Hp) (G : List SD) (te : TE) (ds : List PyData) : Prop := ∀ B1 O1 σ H, Ex B B1 → Ex O O1 → Sta K B1 O1 G σ H → ∀ Q : VK, (∀ p vs B' H', Ex B1 B' → O1 p = none → W B' (upd O1 p (.lst vs)) H' → DtAll K B' vs ds → Q (.ref p) H') → te σ H Q
theorem el_lst {t : TA} (h : EvA K B O G t ds) (hl : ds.length ≤ 100000) : EvL K B O G (tLst t) ds := fun B1 O1 σ H e o s Q q =>
  h B1 O1 σ H e o s _ fun vs B2 H2 e2 w2 d2 => ⟨by rw [dps_len d2]; exact sz_of hl, fun p hp => q p vs B2 _ e2 (w2.fo hp) (w2.newO hp) d2⟩
theorem el_listL (h : EvD K B O G te (.list ds)) : EvL K B O G (tCB (fun xs H Q => ∃ p ys, xs = [.ref p] ∧ (SqL K H p ys ∨ SqT K H p ys) ∧ ∀ l, H l = none → Q (.ref l) (upd H l (.lst ys))) (tCons te tNil)) ds := fun B1 O1 σ H e o s Q q =>
  h B1 O1 σ H e o s _ fun v B2 H2 e2 w2 d2 => by
    obtain ⟨a, xs, rfl, k1, k2⟩ := dp_lst d2
    exact ⟨a, xs, rfl, .inl (.inl (.inl (w2.b _ _ k1))), fun l hl => q l xs B2 _ e2 (w2.fo hl) (w2.newO hl) k2⟩
theorem q_asgL (s : Sta K B O G σ H) (h : EvL K B O G te ds) (k : ∀ p vs B' H', Ex B B' → O p = none → DtAll K B' vs ds → Sta K B' (upd O p (.lst vs)) (G.set i (.val (.ref p))) (σ.set i (some (.ref p))) H' → tz D (σ.set i (some (.ref p))) H') : tSeq (tAsg te (gName i)) tz D σ H :=
  h B O σ H (Ex.refl _) (Ex.refl _) s _ fun p vs B' H' e hp w dv => k p vs B' H' e hp dv ⟨w, (s.s.ex e).set i rfl⟩
/-- append to an owned list -/
theorem s_app {l : Addr} {vs : List V} (s : Sta K B O G σ H) (hg : G[i]? = some (.val (.ref l))) (ho : O l = some (.lst vs)) (hz : vs.length < 100000) (h : EvD K B O G te d)
    (k : ∀ v B' H', Ex B B' → Dt K B' v d → Sta K B' (upd O l (.lst (vs ++ [v]))) G σ H' → D.nx σ H') : tDrop (tBM K "list" rAppend (tVar i) (tCons te tNil)) D σ H := by
  obtain ⟨sv, h1, h2⟩ := s.s.get hg
  have h3 : sv = some (.ref l) := h2
  subst h3
  refine ⟨_, h1, .inl ⟨rfl, _, SqL.of (s.w.o _ _ ho)⟩, ?_⟩
  refine h B O σ H (Ex.refl _) (Ex.refl _) s _ fun v B' H' e w dv => ?_
  exact ⟨l, vs, v, rfl, rfl, w.o _ _ ho, Nat.lt_of_lt_of_le hz (by decide), k v B' _ e dv ⟨w.mut ho, s.s.ex e⟩⟩
theorem q_app {l : Addr} {vs : List V} (s : Sta K B O G σ H) (hg : G[i]? = some (.val (.ref l))) (ho : O l = some (.lst vs)) (hz : vs.length < 100000) (h : EvD K B O G te d)
    (k : ∀ v B' H', Ex B B' → Dt K B' v d → Sta K B' (upd O l (.lst (vs ++ [v]))) G σ H' → tz D σ H') : tSeq (tDrop (tBM K "list" rAppend (tVar i) (tCons te tNil))) tz D σ H := s_app (D := { D with nx := tz D }) s hg ho hz h k
theorem q_extend {l : Addr} {vs : List V} (s : Sta K B O G σ H) (hg : G[i]? = some (.val (.ref l))) (ho : O l = some (.lst vs)) (hz : vs.length + ds.length ≤ 100000) (h : EvD K B O G te (.list ds))
    (k : ∀ ws B' H', Ex B B' → DtAll K B' ws ds → Sta K B' (upd O l (.lst (vs ++ ws))) G σ H' → D.nx σ H') : tDrop (tBM K "list" rExtend (tVar i) (tCons te tNil)) D σ H := by
  obtain ⟨sv, h1, h2⟩ := s.s.get hg
  have h3 : sv = some (.ref l) := h2
  subst h3
  refine ⟨_, h1, .inl ⟨rfl, _, SqL.of (s.w.o _ _ ho)⟩, ?_⟩
  refine h B O σ H (Ex.refl _) (Ex.refl _) s _ fun v B' H' e w dv => ?_
  obtain ⟨b, zs, rfl, k1, k2⟩ := dp_lst dv
  exact ⟨l, b, vs, zs, rfl, rfl, w.o _ _ ho, w.b _ _ k1, sz_of (by rw [dps_len k2]; exact hz), k zs B' _ e k2 ⟨w.mut ho, s.s.ex e⟩⟩
/-- x[j] = e of an owned list -/
theorem s_setO {l : Addr} {vs : List V} {z : Int} {j : Nat} {ti : TE} (s : Sta K B O G σ H) (hg : G[i]? = some (.val (.ref l))) (ho : O l = some (.lst vs)) (h : EvD K B O G te d) (hi : EvD K B O G ti (.int z)) (hj : ixN vs.length z = some j)
    (k : ∀ v B' H', Ex B B' → Dt K B' v d → Sta K B' (upd O l (.lst (vs.set j v))) G σ H' → D.nx σ H') : tAsg te (gSub (tVar i) ti rSetL) D σ H := by
  obtain ⟨sv, h1, h2⟩ := s.s.get hg
  have h3 : sv = some (.ref l) := h2
  subst h3
  refine h B O σ H (Ex.refl _) (Ex.refl _) s _ fun v B' H' e w dv => ?_
  refine ⟨_, h1, ?_⟩
  refine hi B' O σ H' e (Ex.refl _) (s.ex e w) _ fun v2 B2 H2 e2 w2 dv2 => ?_
  rw [dp_int dv2]
  exact ⟨l, vs, z, j, rfl, rfl, w2.o _ _ ho, hj, k v B2 _ (e.trans e2) (dp_ex e2 _ _ dv) ⟨w2.mut ho, s.s.ex (e.trans e2)⟩⟩
theorem q_setO {l : Addr} {vs : List V} {z : Int} {j : Nat} {ti : TE} (s : Sta K B O G σ H) (hg : G[i]? = some (.val (.ref l))) (ho : O l = some (.lst vs)) (h : EvD K B O G te d) (hi : EvD K B O G ti (.int z)) (hj : ixN vs.length z = some j)
    (k : ∀ v B' H', Ex B B' → Dt K B' v d → Sta K B' (upd O l (.lst (vs.set j v))) G σ H' → tz D σ H') : tSeq (tAsg te (gSub (tVar i) ti rSetL)) tz D σ H := s_setO (D := { D with nx := tz D }) s hg ho h hi hj k
/-- an owned list is read -/
theorem ev_ixO {l : Addr} {vs : List V} {z : Int} (hg : G[i]? = some (.val (.ref l))) (ho : O l = some (.lst vs)) (hv : DtAll K B vs ds) (hb : EvD K B O G tb (.int z)) (h : atI ds z = some d) : EvD K B O G (tOp (rIxL K) (tVar i) tb) d := fun B1 O1 σ H e o s Q q => by
  obtain ⟨sv, h1, h2⟩ := s.s.get hg
  have h3 : sv = some (.ref l) := h2
  subst h3
  refine ⟨_, h1, ?_⟩
  refine hb B1 O1 σ H e o s _ fun v B2 H2 e2 w2 d2 => ?_
  obtain ⟨v', h4, h5⟩ := atI_get (dps_ex (e.trans e2) _ _ hv) h
  rw [dp_int d2]
  exact ⟨l, vs, z, v', rfl, rfl, .inl (.inl (w2.o _ _ (o _ _ ho))), h4, q _ B2 H2 e2 w2 h5⟩
theorem ev_lenO {l : Addr} {vs : List V} (hg : G[i]? = some (.val (.ref l))) (ho : O l = some (.lst vs)) : EvD K B O G (tCB (fun xs H Q => ∃ p ys, xs = [.ref p] ∧ (SqL K H p ys ∨ SqT K H p ys) ∧ Q (.int ys.length) H) (tCons (tVar i) tNil)) (.int vs.length) := fun B1 O1 σ H e o s Q q => by
  obtain ⟨sv, h1, h2⟩ := s.s.get hg
  have h3 : sv = some (.ref l) := h2
  subst h3
  exact ⟨_, h1, l, vs, rfl, .inl (.inl (.inl (s.w.o _ _ (o _ _ ho)))), q _ B1 H (Ex.refl _) s.w (.int _)⟩
/-- tuple(x) of an owned list -/
theorem ev_tupO {l : Addr} {vs : List V} (hg : G[i]? = some (.val (.ref l))) (ho : O l = some (.lst vs)) (hv : DtAll K B vs ds) : EvD K B O G (tCB (fun xs H Q => ∃ p ys, xs = [.ref p] ∧ ((SqL K H p ys ∧ ∀ l, H l = none → Q (.ref l) (upd H l (.tup ys))) ∨ (SqT K H p ys ∧ Q (.ref p) H))) (tCons (tVar i) tNil)) (.tuple ds) := fun B1 O1 σ H e o s Q q => by
  obtain ⟨sv, h1, h2⟩ := s.s.get hg
  have h3 : sv = some (.ref l) := h2
  subst h3
  exact ⟨_, h1, l, vs, rfl, .inl ⟨.inl (.inl (s.w.o _ _ (o _ _ ho))), fun p hp => q _ (upd B1 p _) _ (Ex.new (s.w.fb hp)) (s.w.newB hp) (.tup (.inl (.inl upd_same)) (dps_ex (e.trans (Ex.new (s.w.fb hp))) _ _ hv))⟩⟩
/-- an owned list is given back -/
theorem s_retO {l : Addr} {vs : List V} {O0 : Hp} (s : Sta K B O G σ H) (hg : G[i]? = some (.val (.ref l))) (ho : O = upd O0 l (.lst vs)) (hn : O0 l = none) (hv : DtAll K B vs ds) (k : ∀ B' H', Ex B B' → W B' O0 H' → Dt K B' (.ref l) (.list ds) → D.rt (.ref l) H') : tRet (tVar i) D σ H := by
  subst ho
  obtain ⟨sv, h1, h2⟩ := s.s.get hg
  have h3 : sv = some (.ref l) := h2
  subst h3
  have hb := s.w.bnone upd_same
  exact ⟨_, h1, k (upd B l (.lst vs)) H (Ex.new hb) (s.w.give hn) (.lst upd_same (dps_ex (Ex.new hb) _ _ hv))⟩
/-! loops -/
theorem s_for {wi : TI} {g : TG} {es : List PyData} (s : Sta K B O G σ H) (hI : EvI K B O G wi es) (P : Nat → Hp → Hp → List SD → Prop) (mono : ∀ i B1 B2 O1 G1, Ex B1 B2 → P i B1 O1 G1 → P i B2 O1 G1)
    (h0 : P 0 B O G)
    (hs : ∀ i e B1 O1 G1 σ1 H1 v, es[i]? = some e → Ex B B1 → P i B1 O1 G1 → Sta K B1 O1 G1 σ1 H1 → Dt K B1 v e → ∀ N : L2.St → Hp → Prop, (∀ B' O' G' σ' H', Ex B1 B' → P (i + 1) B' O' G' → Sta K B' O' G' σ' H' → N σ' H') → g v σ1 H1 fun σ2 H2 => tu { D with nx := N, ct := N, bk := D.nx } σ2 H2)
    (hd : ∀ B1 O1 G1 σ1 H1, Ex B B1 → P es.length B1 O1 G1 → Sta K B1 O1 G1 σ1 H1 → D.nx σ1 H1) : tFor wi g tu D σ H := by
  refine hI B O σ H (Ex.refl _) (Ex.refl _) s _ fun J B2 H2 e2 w2 gv => ?_
  obtain ⟨n, G0, Y, hn, wk, hG0, hY⟩ := gv
  refine for_it wk (fun i σ' H' => ∃ B' O' G', Ex B2 B' ∧ P i B' O' G' ∧ Sta K B' O' G' σ' H') ⟨B2, O, G, Ex.refl _, mono _ _ _ _ _ e2 h0, s.ex e2 w2⟩ (fun i σ' H' _ ⟨B', O', G', e', p', s'⟩ => hG0 B' O' H' e' s'.w) ?_ ?_
  · rintro i x σ' H3 H4 hi ⟨B3, O3, G3, e3, p3, s3⟩ y
    obtain ⟨e, B4, hie, e4, w4, dx⟩ := hY i H3 x H4 B3 _ e3 s3.w hi y
    refine hs i e B4 O3 G3 σ' H4 x hie ((e2.trans e3).trans e4) (mono _ _ _ _ _ e4 p3) ⟨w4, s3.s.ex e4⟩ dx _ fun B' O' G' σ2 H5 e5 p5 s5 => ⟨B', O', G', (e3.trans e4).trans e5, p5, s5⟩
  · rintro σ' H3 ⟨B3, O3, G3, e3, p3, s3⟩
    exact hd B3 O3 G3 σ' H3 (e2.trans e3) (by rw [← hn]; exact p3) s3
theorem q_for {wi : TI} {g : TG} {es : List PyData} (s : Sta K B O G σ H) (hI : EvI K B O G wi es) (P : Nat → Hp → Hp → List SD → Prop) (mono : ∀ i B1 B2 O1 G1, Ex B1 B2 → P i B1 O1 G1 → P i B2 O1 G1)
    (h0 : P 0 B O G)
    (hs : ∀ i e B1 O1 G1 σ1 H1 v, es[i]? = some e → Ex B B1 → P i B1 O1 G1 → Sta K B1 O1 G1 σ1 H1 → Dt K B1 v e → ∀ N : L2.St → Hp → Prop, (∀ B' O' G' σ' H', Ex B1 B' → P (i + 1) B' O' G' → Sta K B' O' G' σ' H' → N σ' H') → g v σ1 H1 fun σ2 H2 => tu { D with nx := N, ct := N, bk := tz D } σ2 H2)
    (hd : ∀ B1 O1 G1 σ1 H1, Ex B B1 → P es.length B1 O1 G1 → Sta K B1 O1 G1 σ1 H1 → tz D σ1 H1) : tSeq (tFor wi g tu) tz D σ H := s_for (D := { D with nx := tz D }) s hI P mono h0 hs hd
end

/-! ### defs -/
/-- the promise of a def of data: R tells the arguments and the answer -/
def SpR (K : PySem.W.Frag) (R : List PyData → PyData → Prop) : Sp := fun vs H Q _ => ∃ B O ds d, W B O H ∧ DtAll K B vs ds ∧ R ds d ∧ ∀ v B' H', Ex B B' → W B' O H' → Dt K B' v d → Q v H'
section
variable {K : PySem.W.Frag} {B O : Hp} {G : List SD} {R : List PyData → PyData → Prop} {ds : List PyData} {d : PyData} {t : TA} {E : XK}
theorem ev_call (h : EvA K B O G t ds) (hr : R ds d) : EvD K B O G (tCall (SpR K R) [] E t) d := fun B1 O1 σ H e o s Q q =>
  h B1 O1 σ H e o s _ fun vs B2 H2 e2 w2 d2 => by
    rw [List.append_nil]
    exact ⟨B2, O1, ds, d, w2, d2, hr, fun v B3 H3 e3 w3 d3 => q v B3 H3 (e2.trans e3) w3 d3⟩
end
def gOf (ds : List PyData) (n : Nat) : List SD := ds.map SD.dat ++ List.replicate n .un
theorem slots_start {K : PySem.W.Frag} {B : Hp} : ∀ {vs : List V} {ds : List PyData}, DtAll K B vs ds → ∀ n, Slots K B (vs.map some ++ List.replicate n none) (gOf ds n)
  | _, _, .nil, 0 => trivial
  | _, _, .nil, n + 1 => ⟨trivial, slots_start (ds := []) .nil n⟩
  | _, _, .cons h t, n => ⟨⟨_, rfl, h⟩, slots_start t n⟩
section
variable {P : Program} {w : World} {K : PySem.W.Frag} {mg : Str → Option Value} {base : Heap}
theorem ok_fn {x qual : Str} {st : Stmt} {f : Addr} {fd : FuncData} {N ps : List Str} {k : Nat} {R : List PyData → PyData → Prop} (F : Fun K x qual st f fd) (S : FnScope N ps (defScope st)) (hl : ∀ ds d, R ds d → ds.length = ps.length)
    (hb : ∀ (cdv : Value) (A : Around) (outer : List Env) (s : Shared) (H0 : Hp) (E : XK), Room k (A.deeper (envOfC qual (defScope st) s.heap.objs.size f cdv)) → ∀ ds d, R ds d →
      ∃ t, PSs (cxOf CX0 P w K mg base N qual (defScope st) f cdv A outer s H0 E).nox (defBody st) t ∧
        ∀ B O σ H (Q : VK), Sta K B O (gOf ds (N.length - ps.length)) σ H → (∀ v B' H', Ex B B' → W B' O H' → Dt K B' v d → Q v H') → t { nx := fun _ H' => Q .non H', rt := Q } σ H) :
    FnOk P w K mg base CX0 (k + 1) f fd ps (SpR K R) := by
  refine F.ok S (fun vs H Q E h => ?_) (fun cdv A outer s H vs Q E hr h => ?_)
  · obtain ⟨B, O, ds, d, _, h2, h3, _⟩ := h
    rw [dps_len h2]
    exact hl ds d h3
  · obtain ⟨B, O, ds, d, h1, h2, h3, k⟩ := h
    obtain ⟨t, ht, hq⟩ := hb cdv A outer s H E hr ds d h3
    refine ⟨t, ht, hq B O _ H Q ⟨h1, ?_⟩ k⟩
    have e := slots_start h2 (N.length - ps.length)
    have hl' : vs.length = ps.length := by rw [dps_len h2]; exact hl ds d h3
    unfold L2.start
    rw [hl']
    exact e
/-- a def that stands at its name, and its promise -/
structure Cal (P : Program) (w : World) (K : PySem.W.Frag) (mg : Str → Option Value) (base : Heap) (k : Nat) (x : Str) (ps : List Str) (sp : Sp) : Prop where
  ex : ∃ f fd, FnOk P w K mg base CX0 k f fd ps sp ∧ mg x = some (.ref f) ∧ PySem.W.keepIn K (.ref f) = true ∧ Binds K fd ps []
/-- where a def of the text stands -/
structure At (K : PySem.W.Frag) (mg : Str → Option Value) (x : Str) (st : Stmt) (ps : List Str) (f : Addr) (fd : FuncData) : Prop where
  fn : Fun K x x st f fd
  mg : mg x = some (.ref f)
  bi : Binds K fd ps []
theorem At.cal {x : Str} {st : Stmt} {ps : List Str} {f : Addr} {fd : FuncData} {k : Nat} {sp : Sp} (a : At K mg x st ps f fd) (h : FnOk P w K mg base CX0 k f fd ps sp) : Cal P w K mg base k x ps sp := ⟨f, fd, h, a.mg, a.fn.kp, a.bi⟩
end
theorem pe_cal {X : Cx} {x : Str} {ps : List Str} {sp : Sp} {k j : Nat} {p pos : Pos} {e : Expr} {es : List Expr} {t : TA} (C : Cal X.prog X.w X.K X.mg X.base k x ps sp) (hr : Room j X.A) (hk : k ≤ j) (hg : Gl X x) (ha : PA X (e :: es) t) (hd : (x == ("__debug__" : Str)) = false := by decide)
    (he : starEach (e :: es) X.env = (false, eval e X.env) :: starEach es X.env := by rfl) (hpl : (backTo pos (starEach es X.env)).any (·.1) = false := by rfl) :
    PE X (.Call (.Name x p) (e :: es) [] pos) (tCall sp [] E0 t) := by
  obtain ⟨f, fd, h1, h2, h3, h4⟩ := C.ex
  exact pe_call (h1.mono hk) hr hg h2 h3 h4 .nil pass0 ha hd he hpl
end DL

set_option Elab.async false
set_option linter.all false
set_option maxRecDepth 100000
set_option maxHeartbeats 2000000
/-! The rules that name the written part, with it told. -/
namespace DL
open PySem PySem.Spec PyProof.Rows L2 StX
section
variable (K : PySem.W.Frag) {X : Cx}
theorem ix_tupK (h : X.K = K := by rfl) : IxR X (rIxT K) := h ▸ ix_tup
theorem ix_listK (h : X.K = K := by rfl) : IxR X (rIxL K) := h ▸ ix_list
theorem op_inK (h : X.K = K := by rfl) : OpR X (compareOp .In) (rIn K false) := h ▸ op_in_seq
theorem op_notInK (h : X.K = K := by rfl) : OpR X (compareOp .NotIn) (rIn K true) := h ▸ op_notIn_seq
theorem op_eqDK (hu : X.A.units + 64 < cLine) (h : X.K = K := by rfl) : OpR X (compareOp .Eq) (rEqD K) := h ▸ op_eqD hu
theorem op_neDK (hu : X.A.units + 64 < cLine) (h : X.K = K := by rfl) : OpR X (compareOp .NotEq) (rNeD K) := h ▸ op_neD hu
theorem op_catAK (h : X.K = K := by rfl) : OpR X (binaryOp .Add) (rCatA K) := h ▸ op_catA
theorem sl_tupAK (h : X.K = K := by rfl) : SlR X (rSlA K) := h ▸ sl_tupA
theorem sl_listK (h : X.K = K := by rfl) : SlR X (rSlL K) := h ▸ sl_list
theorem call_lenK (h : X.K = K := by rfl) : CallR X (.builtin "len") (fun xs H Q => ∃ p ys, xs = [.ref p] ∧ (SqL K H p ys ∨ SqT K H p ys) ∧ Q (.int ys.length) H) := h ▸ call_len_seq
theorem call_listK (h : X.K = K := by rfl) : CallR X (.type "list") (fun xs H Q => ∃ p ys, xs = [.ref p] ∧ (SqL K H p ys ∨ SqT K H p ys) ∧ ∀ l, H l = none → Q (.ref l) (upd H l (.lst ys))) := h ▸ call_list_of
theorem call_tupleK (h : X.K = K := by rfl) : CallR X (.type "tuple") (fun xs H Q => ∃ p ys, xs = [.ref p] ∧ ((SqL K H p ys ∧ ∀ l, H l = none → Q (.ref l) (upd H l (.tup ys))) ∨ (SqT K H p ys ∧ Q (.ref p) H))) := h ▸ call_tuple_of
theorem cr_sumK (hc : X.calm = true) (h : X.K = K := by rfl) : CallR X (.builtin "sum") (rSum K) := h ▸ cr_sum hc
theorem cr_allK (hc : X.calm = true) (h : X.K = K := by rfl) : CallR X (.builtin "all") (rAll K) := h ▸ cr_all hc
theorem cr_anyK (hc : X.calm = true) (h : X.K = K := by rfl) : CallR X (.builtin "any") (rAny K) := h ▸ cr_any hc
theorem pi_listK {e tg : Expr} {te : TE} (he : PE X e te) (h : X.K = K := by rfl) : PI X tg e (iList K te) := h ▸ pi_list he
theorem pi_tupK {e tg : Expr} {te : TE} (he : PE X e te) (h : X.K = K := by rfl) : PI X tg e (iTup K te) := h ▸ pi_tup he
theorem pg_tupK {es : List Expr} {t : TGs} {kk n : Nat} {pos : Pos} (hc : X.calm = true) (hts : PGs X es t) (h : X.K = K := by rfl) (hn : (assignEach es X.env).length = n := by rfl) (hst : (assignEach es X.env).findIdx? (·.1) = none := by rfl) :
    PG X (.Tuple es kk pos) (gTup K n t) := h ▸ pg_tup hc hts hn hst
theorem pa_starK {e : Expr} {es : List Expr} {te : TE} {t : TA} {p : Pos} (he : PE X e te) (hr : PA X es t) (h : X.K = K := by rfl) (hs : starEach (.Starred e p :: es) X.env = (true, eval e X.env) :: starEach es X.env := by rfl) : PA X (.Starred e p :: es) (tStar K te t) := h ▸ pa_star he hr hs
theorem pi_enumK {e : Expr} {ta : TA} {p pos tpos : Pos} {elts : List Expr} {kk : Nat} (hg : Gl X "enumerate") (hm : X.mg "enumerate" = none) (ha : PA X [e] ta) (h : X.K = K := by rfl) (hs : starEach [e] X.env = [(false, eval e X.env)] := by rfl) :
    PI X (.Tuple elts kk tpos) (.Call (.Name "enumerate" p) [e] [] pos) (iEnum K ta) := h ▸ pi_enum hg hm ha hs
end
section
variable {K : PySem.W.Frag} {α : Type} {x y z : α} {xs : List α}
theorem at0 : atI (x :: xs) 0 = some x := by
  have h : (0 : Int) < (xs.length : Int) + 1 := by omega
  simp [atI, ixN, h]
theorem at1 : atI (x :: y :: xs) 1 = some y := by
  have h : (1 : Int) < (xs.length : Int) + 1 + 1 := by omega
  simp [atI, ixN, h]
theorem at2 : atI (x :: y :: z :: xs) 2 = some z := by
  have h : (2 : Int) < (xs.length : Int) + 1 + 1 + 1 := by omega
  simp [atI, ixN, h]
theorem at_last : atI (xs ++ [x]) (-1) = some x := by
  have h1 : ¬ (0 : Int) ≤ -1 := by omega
  have h2 : (-1 + ((xs.length : Int) + 1)).toNat = xs.length := by omega
  have h3 : -((xs.length : Int) + 1) ≤ -1 := by omega
  simp [atI, ixN, h2, h3]
end
end DL
namespace DL
open PySem PySem.Spec PyProof.Rows L2 StX
section
variable {K : PySem.W.Frag} {B O : Hp} {G : List SD} {wi : TI} {g : TG} {tt : TT} {te : TE} {vs : List Nat} {es : List PyData}
theorem EvL.d {te : TE} {ds : List PyData} (h : EvL K B O G te ds) : EvD K B O G te (.list ds) := fun B1 O1 σ H e1 o s Q q => h B1 O1 σ H e1 o s _ fun p ws B' H' e' hp w' da =>
  q _ (upd B' p (.lst ws)) H' (e'.trans (Ex.new (w'.bnone upd_same))) (w'.give hp) (.lst upd_same (dps_ex (Ex.new (w'.bnone upd_same)) _ _ da))
/-- a comprehension over typed things, with a test -/
theorem el_lcT {α : Type} (xs : List α) (en : α → PyData) (f : α → Bool) (v : α → PyData) (Gi : α → List SD) (hI : EvI K B O G wi (xs.map en)) (hz : xs.length ≤ 100000)
    (hg : ∀ x, x ∈ xs → EvG K (RW vs) g (wipeG G vs) (en x) (Gi x)) (ht : ∀ x, x ∈ xs → EvT K B O (Gi x) tt (f x)) (he : ∀ x, x ∈ xs → f x = true → EvD K B O (Gi x) te (v x)) :
    EvL K B O G (tLc wi g tt te vs) ((xs.filter f).map v) := fun B1 O1 σ H e1 o s Q q => by
  refine hI B1 O1 σ H e1 o s _ fun J B2 H2 e2 w2 gv D hD => ?_
  obtain ⟨n, G0, Y, hn, wk, hG0, hY⟩ := gv
  have oD : O1 D = none := w2.fo hD
  refine lc_it wk (fun i H' => ∃ B' acc, Ex B2 B' ∧ W B' (upd O1 D (.lst acc)) H' ∧ DtAll K B' acc (((xs.take i).filter f).map v))
    ⟨B2, [], Ex.refl _, w2.newO hD, by simp; exact .nil⟩ (fun i H' _ ⟨B', acc, e', w', _⟩ => hG0 B' _ H' e' w') ?_ ?_
  · rintro i x H3 H4 hi ⟨B3, acc, e3, w3, da⟩ y
    obtain ⟨e, B4, hie, e4, w4, dx⟩ := hY i H3 x H4 B3 _ e3 w3 hi y
    rw [List.getElem?_map] at hie
    obtain ⟨c, hic, hce⟩ : ∃ c, xs[i]? = some c ∧ en c = e := by
      cases hx : xs[i]? with
      | none => rw [hx] at hie; cases hie
      | some c => rw [hx] at hie; exact ⟨c, rfl, Option.some.inj hie⟩
    subst hce
    have hm : c ∈ xs := List.mem_of_getElem? hic
    have s4 : Sta K B4 (upd O1 D (.lst acc)) (wipeG G vs) (L2.wipe σ vs) H4 := ⟨w4, (s.s.ex ((e2.trans e3).trans e4)).wipe vs⟩
    have hOD : Ex O (upd O1 D (.lst acc)) := o.trans (Ex.new oD)
    refine hg c hm B4 _ _ H4 x s4 dx _ fun σ' s5 r5 => ⟨r5.trans wipe_wipe, ?_⟩
    have hlen : acc.length ≤ 100000 := by
      rw [dps_len da, List.length_map]
      have h1 := List.length_filter_le f (xs.take i)
      have h2 : (xs.take i).length ≤ xs.length := List.length_take_le' i xs
      omega
    refine ht c hm B4 _ σ' H4 (e1.trans ((e2.trans e3).trans e4)) hOD s5 _ fun B5 H5 e5 w5 => ?_
    have htk : xs.take (i + 1) = xs.take i ++ [c] := by
      rw [List.take_add_one, hic]
      rfl
    cases hf : f c with
    | true =>
      show te σ' H5 _
      refine he c hm hf B5 _ σ' H5 (e1.trans (((e2.trans e3).trans e4).trans e5)) hOD (s5.ex e5 w5) _ fun u B6 H6 e6 w6 d6 => ?_
      refine ⟨acc, w6.o D _ upd_same, Nat.lt_of_le_of_lt hlen (by decide), B6, acc ++ [u], ((e3.trans e4).trans e5).trans e6, ?_, ?_⟩
      · have := w6.mut (v := .lst (acc ++ [u])) upd_same
        rw [upd_upd] at this
        exact this
      · rw [htk, List.filter_append, List.map_append]
        refine dps_app (dps_ex ((e4.trans e5).trans e6) _ _ da) ?_
        simp [hf]
        exact dps_one d6
    | false =>
      show ∃ B' acc, _
      refine ⟨B5, acc, (e3.trans e4).trans e5, w5, ?_⟩
      rw [htk, List.filter_append, List.map_append]
      simp [hf]
      have := dps_ex (e4.trans e5) _ _ da
      simpa using this
  · rintro H3 ⟨B3, acc, e3, w3, da⟩
    rw [hn, List.length_map, List.take_length] at da
    exact q D acc B3 H3 (e2.trans e3) oD w3 da
theorem ev_lcT {α : Type} (xs : List α) (en : α → PyData) (f : α → Bool) (v : α → PyData) (Gi : α → List SD) (hI : EvI K B O G wi (xs.map en)) (hz : xs.length ≤ 100000)
    (hg : ∀ x, x ∈ xs → EvG K (RW vs) g (wipeG G vs) (en x) (Gi x)) (ht : ∀ x, x ∈ xs → EvT K B O (Gi x) tt (f x)) (he : ∀ x, x ∈ xs → f x = true → EvD K B O (Gi x) te (v x)) :
    EvD K B O G (tLc wi g tt te vs) (.list ((xs.filter f).map v)) := (el_lcT xs en f v Gi hI hz hg ht he).d
theorem el_map {α : Type} (xs : List α) (en : α → PyData) (v : α → PyData) (Gi : α → List SD) (hI : EvI K B O G wi (xs.map en)) (hz : xs.length ≤ 100000)
    (hg : ∀ x, x ∈ xs → EvG K (RW vs) g (wipeG G vs) (en x) (Gi x)) (he : ∀ x, x ∈ xs → EvD K B O (Gi x) te (v x)) :
    EvL K B O G (tLc wi g tYes te vs) (xs.map v) := by
  have h := el_lcT (K := K) (B := B) (O := O) (G := G) (wi := wi) (g := g) (tt := tYes) (te := te) (vs := vs) xs en (fun _ => true) v Gi hI hz hg (fun _ _ => et_yes) (fun x hx _ => he x hx)
  rw [List.filter_eq_self.mpr (by simp)] at h
  exact h
theorem ev_map {α : Type} (xs : List α) (en : α → PyData) (v : α → PyData) (Gi : α → List SD) (hI : EvI K B O G wi (xs.map en)) (hz : xs.length ≤ 100000)
    (hg : ∀ x, x ∈ xs → EvG K (RW vs) g (wipeG G vs) (en x) (Gi x)) (he : ∀ x, x ∈ xs → EvD K B O (Gi x) te (v x)) :
    EvD K B O G (tLc wi g tYes te vs) (.list (xs.map v)) := by
  have h := ev_lcT (K := K) (B := B) (O := O) (G := G) (wi := wi) (g := g) (tt := tYes) (te := te) (vs := vs) xs en (fun _ => true) v Gi hI hz hg (fun _ _ => et_yes) (fun x hx _ => he x hx)
  rw [List.filter_eq_self.mpr (by simp)] at h
  exact h
end
theorem SpR_false {P : Program} {w : World} {K : PySem.W.Frag} {mg : Str → Option Value} {base : Heap} {k : Nat} {f : Addr} {fd : FuncData} {ps : List Str} {R : List PyData → PyData → Prop} (h : ∀ ds d, ¬ R ds d) : FnOk P w K mg base CX0 k f fd ps (SpR K R) :=
  ⟨fun _ _ _ _ ⟨_, _, ds, d, _, _, r, _⟩ => (h ds d r).elim, fun _ _ _ _ _ _ _ _ _ _ _ _ _ ⟨_, _, ds, d, _, _, r, _⟩ => (h ds d r).elim⟩
/-- the same promise told by less -/
theorem SpR_imp {P : Program} {w : World} {K : PySem.W.Frag} {mg : Str → Option Value} {base : Heap} {k : Nat} {f : Addr} {fd : FuncData} {ps : List Str} {R R' : List PyData → PyData → Prop} (F : FnOk P w K mg base CX0 k f fd ps (SpR K R)) (h : ∀ ds d, R' ds d → R ds d) : FnOk P w K mg base CX0 k f fd ps (SpR K R') :=
  F.imp fun _ _ _ _ ⟨B, O, ds, d, a, b, c, e⟩ => ⟨B, O, ds, d, a, b, h _ _ c, e⟩
/-- the promise of a def that hands back a new list -/
def SpL (K : PySem.W.Frag) (R : List PyData → List PyData → Prop) : Sp := fun vs H Q _ => ∃ B O ds es, W B O H ∧ DtAll K B vs ds ∧ R ds es ∧ ∀ p ws B' H', Ex B B' → O p = none → W B' (upd O p (.lst ws)) H' → DtAll K B' ws es → Q (.ref p) H'
section
variable {K : PySem.W.Frag} {B O : Hp} {G : List SD} {R : List PyData → List PyData → Prop} {ds es : List PyData} {t : TA} {E : XK} {te : TE} {D : Ends} {σ : L2.St} {H : Hp}
theorem el_call (h : EvA K B O G t ds) (hr : R ds es) : EvL K B O G (tCall (SpL K R) [] E t) es := fun B1 O1 σ H e o s Q q =>
  h B1 O1 σ H e o s _ fun vs B2 H2 e2 w2 d2 => by
    rw [List.append_nil]
    exact ⟨B2, O1, ds, es, w2, d2, hr, fun p ws B3 H3 e3 hp w3 d3 => q p ws B3 H3 (e2.trans e3) hp w3 d3⟩
theorem el_listT {te : TE} (h : EvD K B O G te (.tuple ds)) : EvL K B O G (tCB (fun xs H Q => ∃ p ys, xs = [.ref p] ∧ (SqL K H p ys ∨ SqT K H p ys) ∧ ∀ l, H l = none → Q (.ref l) (upd H l (.lst ys))) (tCons te tNil)) ds := fun B1 O1 σ H e o s Q q =>
  h B1 O1 σ H e o s _ fun v B2 H2 e2 w2 d2 => by
    obtain ⟨a, xs, rfl, k1, k2⟩ := dp_tup d2
    exact ⟨a, xs, rfl, .inr (st_ex w2.b k1), fun l hl => q l xs B2 _ e2 (w2.fo hl) (w2.newO hl) k2⟩
theorem s_retL (s : Sta K B O G σ H) (h : EvL K B O G te es) (k : ∀ p ws B' H', Ex B B' → O p = none → W B' (upd O p (.lst ws)) H' → DtAll K B' ws es → D.rt (.ref p) H') : tRet te D σ H :=
  h B O σ H (Ex.refl _) (Ex.refl _) s _ fun p ws B' H' e hp w dv => k p ws B' H' e hp w dv
end
section
variable {P : Program} {w : World} {K : PySem.W.Frag} {mg : Str → Option Value} {base : Heap}
theorem ok_fnL {x qual : Str} {st : Stmt} {f : Addr} {fd : FuncData} {N ps : List Str} {k : Nat} {R : List PyData → List PyData → Prop} (F : Fun K x qual st f fd) (S : FnScope N ps (defScope st)) (hl : ∀ ds d, R ds d → ds.length = ps.length)
    (hb : ∀ (cdv : Value) (A : Around) (outer : List Env) (s : Shared) (H0 : Hp) (E : XK), Room k (A.deeper (envOfC qual (defScope st) s.heap.objs.size f cdv)) → ∀ ds es, R ds es →
      ∃ t, PSs (cxOf CX0 P w K mg base N qual (defScope st) f cdv A outer s H0 E).nox (defBody st) t ∧
        ∀ B O σ H (Q : VK), Sta K B O (gOf ds (N.length - ps.length)) σ H → (∀ p ws B' H', Ex B B' → O p = none → W B' (upd O p (.lst ws)) H' → DtAll K B' ws es → Q (.ref p) H') → t { nx := fun _ H' => Q .non H', rt := Q } σ H) :
    FnOk P w K mg base CX0 (k + 1) f fd ps (SpL K R) := by
  refine F.ok S (fun vs H Q E h => ?_) (fun cdv A outer s H vs Q E hr h => ?_)
  · obtain ⟨B, O, ds, d, _, h2, h3, _⟩ := h
    rw [dps_len h2]
    exact hl ds d h3
  · obtain ⟨B, O, ds, d, h1, h2, h3, k⟩ := h
    obtain ⟨t, ht, hq⟩ := hb cdv A outer s H E hr ds d h3
    refine ⟨t, ht, hq B O _ H Q ⟨h1, ?_⟩ k⟩
    have e := slots_start h2 (N.length - ps.length)
    have hl' : vs.length = ps.length := by rw [dps_len h2]; exact hl ds d h3
    unfold L2.start
    rw [hl']
    exact e
end
theorem SpL_false {P : Program} {w : World} {K : PySem.W.Frag} {mg : Str → Option Value} {base : Heap} {k : Nat} {f : Addr} {fd : FuncData} {ps : List Str} {R : List PyData → List PyData → Prop} (h : ∀ ds d, ¬ R ds d) : FnOk P w K mg base CX0 k f fd ps (SpL K R) :=
  ⟨fun _ _ _ _ ⟨_, _, ds, d, _, _, r, _⟩ => (h ds d r).elim, fun _ _ _ _ _ _ _ _ _ _ _ _ _ ⟨_, _, ds, d, _, _, r, _⟩ => (h ds d r).elim⟩
theorem at_nn {α : Type} {xs : List α} {i : Int} {x : α} (hi : 0 ≤ i) (h : xs[i.toNat]? = some x) : atI xs i = some x := by
  have hl : i.toNat < xs.length := (List.getElem?_eq_some_iff.mp h).1
  have h2 : i < xs.length := by omega
  unfold atI ixN
  rw [if_pos hi, if_pos h2]
  exact h
theorem ix_nn {n : Nat} {i : Int} (hi : 0 ≤ i) (h : i.toNat < n) : ixN n i = some i.toNat := by
  have h2 : i < n := by omega
  unfold ixN
  rw [if_pos hi, if_pos h2]
theorem enum_inv {es : List PyData} {i : Nat} {e : PyData} (h : (enumD es)[i]? = some e) : ∃ x, es[i]? = some x ∧ e = .tuple [.int i, x] := by
  have hi : i < es.length := by
    have := (List.getElem?_eq_some_iff.mp h).1
    rwa [enumD_len] at this
  have h2 : es[i]? = some es[i] := List.getElem?_eq_getElem hi
  rw [enumD_get h2] at h
  exact ⟨es[i], h2, (Option.some.inj h).symm⟩
theorem range_inv {lo : Int} {n i : Nat} {e : PyData} (h : (rangeD lo n)[i]? = some e) : i < n ∧ e = .int (lo + i) := by
  have hi : i < n := by
    have := (List.getElem?_eq_some_iff.mp h).1
    rwa [rangeD_len] at this
  rw [rangeD_get hi] at h
  exact ⟨hi, (Option.some.inj h).symm⟩
theorem map_inv {α β : Type} {xs : List α} {f : α → β} {i : Nat} {y : β} (h : (xs.map f)[i]? = some y) : ∃ x, xs[i]? = some x ∧ y = f x := by
  rw [List.getElem?_map] at h
  cases hx : xs[i]? with
  | none => rw [hx] at h; cases h
  | some x => rw [hx] at h; exact ⟨x, rfl, (Option.some.inj h).symm⟩
section
variable {K : PySem.W.Frag} {B O : Hp} {G : List SD} {σ : L2.St} {H : Hp} {D : Ends} {i : Nat}
theorem s_retOL {l : Addr} {vs : List V} {O0 : Hp} (s : Sta K B O G σ H) (hg : G[i]? = some (.val (.ref l))) (ho : O = upd O0 l (.lst vs)) (k : W B (upd O0 l (.lst vs)) H → D.rt (.ref l) H) : tRet (tVar i) D σ H := by
  subst ho
  obtain ⟨sv, h1, h2⟩ := s.s.get hg
  have h3 : sv = some (.ref l) := h2
  subst h3
  exact ⟨_, h1, k s.w⟩
end
theorem cut_init {xs : List PyData} {x : PyData} : cutX (xs ++ [x]) none (some (-1)) = xs := by
  have h : HT.sIx (xs ++ [x]).length (xs ++ [x]).length (some (-1)) = xs.length := by
    show (if (-1 : Int) < 0 then ((-1 : Int) + ((xs ++ [x]).length : Int)).toNat else min (-1 : Int).toNat (xs ++ [x]).length) = _
    rw [if_pos (by decide), List.length_append]
    simp
    omega
  unfold cutX
  rw [h, HT.sIx_none]
  simp
theorem cut_tail {xs : List PyData} {x : PyData} : cutX (x :: xs) (some 1) none = xs := by
  have h : HT.sIx (x :: xs).length 0 (some 1) = 1 := by
    have h2 := HT.sIx_nat (x :: xs).length 0 1
    have h3 : min 1 (x :: xs).length = 1 := by simp
    rw [h3] at h2
    exact h2
  unfold cutX
  rw [h, HT.sIx_none]
  simp
end DL

set_option Elab.async false
set_option linter.all false
set_option maxRecDepth 100000
set_option maxHeartbeats 2000000
/-! zip of a tuple and a list. -/
namespace DL
open PySem PySem.Spec PyProof.Rows L2 StX
def ItM (K : PySem.W.Frag) (a b : Addr) : It where
  go := fun i H => ∃ (xs ys : List V) (x y : V), (SqT K H a xs ∧ SqL K H b ys) ∧ xs[i]? = some x ∧ ys[i]? = some y
  yld := fun i H v H' => ∃ T x y, (v = .ref T ∧ H T = none ∧ H' = upd H T (.tup [x, y])) ∧ (∀ xs, SqT K H a xs → xs[i]? = some x) ∧ (∀ ys, SqL K H b ys → ys[i]? = some y)
  stop := fun i H => ∃ xs ys : List V, (SqT K H a xs ∧ SqL K H b ys) ∧ i ≤ xs.length ∧ i ≤ ys.length ∧ (i = xs.length ∨ i = ys.length)
structure StM (a b z TI TO i1 i2 : Addr) (i : Nat) (h : Heap) : Prop where
  z : IsZip h z TI TO .none
  ti : IsTupOf2 h TI (.ref i1) (.ref i2)
  to : ∃ x y, IsTupOf2 h TO x y
  t1 : h.IsTupleIter i1 a i
  t2 : h.IsListIter i2 b i
theorem StM.lt {a b z TI TO i1 i2 : Addr} {i : Nat} {h : Heap} (s : StM a b z TI TO i1 i2 i h) : ∀ c, c ∈ [z, TI, TO, i1, i2] → ∃ o, h.get? c = some o ∧ ∀ v, o.data ≠ .cell v := fun c hc => by
  obtain ⟨hz, hti, ⟨x, y, hto⟩, ⟨o1, e1, _, d1⟩, ⟨o2, e2, _, d2⟩⟩ := s
  simp only [List.mem_cons, List.not_mem_nil, or_false] at hc
  rcases hc with e | e | e | e | e <;> subst e
  · exact ⟨_, hz, fun v => nofun⟩
  · exact ⟨_, hti, fun v => nofun⟩
  · exact ⟨_, hto, fun v => nofun⟩
  · exact ⟨o1, e1, fun v q => by rw [d1] at q; cases q⟩
  · exact ⟨o2, e2, fun v q => by rw [d2] at q; cases q⟩
theorem turnM {P : Program} {w : World} {K : PySem.W.Frag} {elts : List Expr} {kk : Nat} {tpos : Pos} {a b z TI TO i1 i2 : Addr} (S : ZipSep2 z TI TO i1 i2 [i1, a] [i2, b]) (n1 : a ≠ i1) (n2 : b ≠ i2) :
    Turn P w K (.Tuple elts kk tpos) (ItM K a b) [z, TI, TO, i1, i2] z (fun i h => StM a b z TI TO i1 i2 i h) := by
  refine ⟨by simp, fun i h st c hc => ?_, fun i h h' st k => ?_, ?_, ?_, fun A i s Q E st h => wpAny_pyIter_zip st.z h⟩
  · obtain ⟨o, ho, hd⟩ := st.lt c hc
    exact ⟨o, ho, hd⟩
  · obtain ⟨hz, hti, ⟨x, y, hto⟩, h1, h2⟩ := st
    exact ⟨k z (by simp) _ hz, k TI (by simp) _ hti, ⟨x, y, k TO (by simp) _ hto⟩, h1.at fun o e => k i1 (by simp) o e, h2.at fun o e => k i2 (by simp) o e⟩
  · intro X hP hw hK hc i pins s σ H E I hf st hg
    subst hP hw hK
    have lts := st.lt
    obtain ⟨hz, hti, ⟨x0, y0, hto⟩, h1, h2⟩ := st
    obtain ⟨xs, ys, x, y, ⟨hqx, hqy⟩, hx, hy⟩ := hg
    obtain ⟨its, rv, p1, _⟩ := I.tuple hqx
    obtain ⟨its2, rv2, p2, _⟩ := I.list hqy
    have hl1 := rv.length
    have hl2 := rv2.length
    have hi1 : i < its.toArray.size := by
      have := (List.getElem?_eq_some_iff.mp hx).1
      simp
      omega
    have hi2 : i < its2.toArray.size := by
      have := (List.getElem?_eq_some_iff.mp hy).1
      simp
      omega
    have hzl : z < s.heap.objs.size := Heap.lt_size hz
    have hh := I.ok.hd hc
    refine wpAny_pyNext_zipD2_item S (Draws.tuple (A := X.A.in1) hh i1 a n1 its.toArray) (Draws.list (A := X.A.in1) hh i2 b n2 its2.toArray) hz hti hto ⟨h1, p1⟩ ⟨h2, p2.isList⟩ hi1 hi2 fun u u2 h' tk hu hu2 z' to' st1 st2 hT hsz hk => ?_
    have ru : RelV x u := by
      obtain ⟨q, hq, r⟩ := rv.get hx
      have e : its.toArray[i]? = some u := hu
      simp only [List.getElem?_toArray] at e
      rw [hq] at e
      cases e
      exact r
    have ru2 : RelV y u2 := by
      obtain ⟨q, hq, r⟩ := rv2.get hy
      have e : its2.toArray[i]? = some u2 := hu2
      simp only [List.getElem?_toArray] at e
      rw [hq] at e
      cases e
      exact r
    refine ⟨_, rfl, wpAny_letOwnedTupleGo_zip (s := { s with heap := h', toks := tk }) z' fun g' zz sb => ?_⟩
    have hT2 : g'.get? s.heap.objs.size = some { cls := .type "tuple", data := .seq #[u, u2] } := (sb.2 _ (Nat.ne_of_gt hzl)).trans hT
    have new : ObjOk X.prog X.w (upd H s.heap.objs.size (.tup [x, y])) g' s.heap.objs.size (.tup [x, y]) := ⟨(by decide : 2 ≤ sizeLine), [u, u2], Paired.cons ru (Paired.cons ru2 Paired.nil), _, hT2, rfl, _, rfl⟩
    have J := I.turnedNew (h' := g') (t' := tk) (ch := [z, TI, TO, i1, i2]) (fun c o hb q => (sb.2 c (fun q' => hb (by simp [q']))).trans (hk c o (fun q' => hb (by simp [q'])) (fun q' => hb (by simp [q'])) (fun q' => hb (by simp [q'])) (fun q' => hb (by simp [q'])) q)) hf (Nat.le_refl _) new
    refine ⟨.ref s.heap.objs.size, _, J, rfl, ⟨_, x, y, ⟨rfl, I.hok.fresh (Nat.le_refl _), rfl⟩, fun l hl => ?_, fun l hl => ?_⟩, ⟨zz, ?_, ⟨u, u2, ?_⟩, ?_, ?_⟩, fun c hcm => ?_⟩
    · rw [I.tuple_inj hl hqx]
      exact hx
    · rw [I.list_inj hl hqy]
      exact hy
    · exact (sb.2 _ S.TIz).trans (hk _ _ S.TIz S.TITO S.TIi1 S.TIi2 hti)
    · exact (sb.2 _ S.TOz).trans to'
    · exact st1.1.at fun o q => (sb.2 _ S.zi1.symm).trans q
    · exact st2.1.at fun o q => (sb.2 _ S.zi2.symm).trans q
    · obtain ⟨o, ho, _⟩ := lts c hcm
      rw [upd_ne (Nat.ne_of_lt (Heap.lt_size ho))]
      exact (hf c hcm).1
  · intro X hP hw hK hc i pins s σ H E I hf st hg
    subst hP hw hK
    obtain ⟨hz, hti, ⟨x0, y0, hto⟩, h1, h2⟩ := st
    obtain ⟨xs, ys, ⟨hqx, hqy⟩, le1, le2, hend⟩ := hg
    obtain ⟨its, rv, p1, _⟩ := I.tuple hqx
    obtain ⟨its2, rv2, p2, _⟩ := I.list hqy
    have hl1 := rv.length
    have hl2 := rv2.length
    have hh := I.ok.hd hc
    have z1 : its.toArray.size = xs.length := by
      simp
      omega
    have z2 : its2.toArray.size = ys.length := by
      simp
      omega
    refine wpAny_pyNext_zipD2_end S (Draws.tuple (A := X.A.in1) hh i1 a n1 its.toArray) (Draws.list (A := X.A.in1) hh i2 b n2 its2.toArray) hz hti hto ⟨h1, p1⟩ ⟨h2, p2.isList⟩ (by omega) (by omega) (by omega) fun h' tk hk => ?_
    exact ⟨rfl, I.turnedL (t' := tk) (ch := [z, TI, TO, i1, i2]) (fun c o hb q => hk c o (fun q' => hb (by simp [q'])) (fun q' => hb (by simp [q'])) (fun q' => hb (by simp [q'])) (fun q' => hb (by simp [q'])) q) hf⟩
def iZipM (K : PySem.W.Frag) (ta : TA) : TI := fun σ H R => ta σ H fun vs H1 => ∃ a b xs ys, vs = [V.ref a, V.ref b] ∧ SqT K H1 a xs ∧ SqL K H1 b ys ∧ R (ItM K a b) H1
theorem pi_zipM (K : PySem.W.Frag) {X : Cx} {e e2 : Expr} {ta : TA} {p pos tpos : Pos} {elts : List Expr} {kk : Nat} (hg : Gl X "zip") (hm : X.mg "zip" = none) (ha : PA X [e, e2] ta) (hK : X.K = K := by rfl)
    (hs : starEach [e, e2] X.env = (false, eval e X.env) :: starEach [e2] X.env := by rfl) (hpl : (backTo pos (starEach [e2] X.env)).any (·.1) = false := by rfl) :
    PI X (.Tuple elts kk tpos) (.Call (.Name "zip" p) [e, e2] [] pos) (iZipM K ta) := by
  subst hK
  refine ⟨fun pins s σ H R I h => Call_ (ld_blt I hg hm PyProof.Rows.boot_zip (PyProof.Rows.callWith_type1 (thn (ha.run pos pins s σ H _ I h) fun us s1 ⟨vs, H1, I1, r1, q1⟩ => ?_) hs hpl))⟩
  obtain ⟨a, b, xs, ys, rfl, hqx, hqy, q⟩ := q1
  obtain ⟨u1, u2, rfl, r1, r2⟩ := vals2 r1
  cases r1
  cases r2
  obtain ⟨its, rv, p1, _⟩ := I1.tuple hqx
  obtain ⟨its2, rv2, p2, _⟩ := I1.list hqy
  have la : a < s1.heap.objs.size := by
    obtain ⟨o, ho, _⟩ := id p1
    exact Heap.lt_size ho
  have lb : b < s1.heap.objs.size := p2.lt
  refine zip_begins2 (begins_tuple a its.toArray) (begins_list b its2.toArray) p1 p2.isList fun h' hz hti hto g1 g2 hsz hk => wpAny_pyIter_zip hz ?_
  have J : Inv X pins σ H1 { s1 with heap := h' } := I1.kept (t' := s1.toks) hk
  have S : ZipSep2 (s1.heap.objs.size + 4) (s1.heap.objs.size + 2) (s1.heap.objs.size + 3) s1.heap.objs.size (s1.heap.objs.size + 1) [s1.heap.objs.size, a] [s1.heap.objs.size + 1, b] :=
    zip_sep2 (fp1 := [a]) (fp2 := [b]) (by simpa using la) (by simpa using lb)
  refine ⟨s1.heap.objs.size + 4, [s1.heap.objs.size + 4, s1.heap.objs.size + 2, s1.heap.objs.size + 3, s1.heap.objs.size, s1.heap.objs.size + 1], _, _, H1, rfl, J, turnM S (Nat.ne_of_lt la) (Nat.ne_of_lt (Nat.lt_succ_of_lt lb)),
    ⟨hz, hti, ⟨_, _, hto⟩, ⟨_, g1, rfl, rfl⟩, ⟨_, g2, rfl, rfl⟩⟩, fun c hcm => ?_, q⟩
  have hle : s1.heap.objs.size ≤ c := by
    simp only [List.mem_cons, List.not_mem_nil, or_false] at hcm
    rcases hcm with e' | e' | e' | e' | e' <;> (rw [e']; first | exact Nat.le_refl _ | exact Nat.le_add_right _ _)
  exact I1.fpOk hle (I1.hok.fresh hle)
section
variable {K : PySem.W.Frag} {B O : Hp} {G : List SD} {ta : TA} {es ds : List PyData}
def zipD (es ds : List PyData) : List PyData := (es.zip ds).map fun z => .tuple [z.1, z.2]
theorem ei_zipM (h : EvA K B O G ta [.tuple es, .list ds]) (hl : es.length = ds.length) : EvI K B O G (iZipM K ta) ((es.zip ds).map fun z => .tuple [z.1, z.2]) := fun B1 O1 σ H e1 o s R r => h B1 O1 σ H e1 o s _ fun vs B2 H2 e2 w2 d2 => by
  cases d2 with
  | cons d3 d4 =>
    cases d4 with
    | cons d5 d6 =>
      cases d6
      obtain ⟨a, xs, rfl, k1, k2⟩ := dp_tup d3
      obtain ⟨b, ys, rfl, k3, k4⟩ := dp_lst d5
      have l1 := dps_len k2
      have l2 := dps_len k4
      have hz : ((es.zip ds).map fun z => PyData.tuple [z.1, z.2]).length = xs.length := by
        rw [List.length_map, List.length_zip]
        omega
      refine ⟨a, b, xs, ys, rfl, st_ex w2.b k1, .inl (.inl (w2.b _ _ k3)), r _ B2 H2 e2 w2 ⟨xs.length, (fun H => SqT K H a xs ∧ SqL K H b ys), YPair (fun i => xs[i]?) (fun i => ys[i]?), hz.symm, ?_, fun B3 O3 H3 e3 w3 => ⟨st_ex (e3.trans w3.b) k1, .inl (.inl (w3.b _ _ (e3 _ _ k3)))⟩, fun i H3 x H4 B3 O3 e3 w3 hi y => ?_⟩⟩
      · refine ⟨fun i H3 hi q => ⟨xs, ys, xs[i], ys[i]'(by omega), q, by simp [hi], by simp [show i < ys.length by omega]⟩, fun H3 q => ⟨xs, ys, q, Nat.le_refl _, by omega, .inl rfl⟩, fun i H3 v H4 hi q y => ?_⟩
        obtain ⟨T, x, y, ⟨e1, e2, e3⟩, h1, h2⟩ := y
        exact ⟨T, x, y, e1, e2, e3, h1 xs q.1, h2 ys q.2⟩
      · obtain ⟨T, x', y', rfl, hT, rfl, hx, hy⟩ := y
        obtain ⟨d, hd, dd⟩ := dps_getV k2 hx
        obtain ⟨e, he, de⟩ := dps_getV k4 hy
        obtain ⟨q1, q2, q3⟩ := pair_new w3 hT (dp_ex e3 _ _ dd) (dp_ex e3 _ _ de)
        refine ⟨_, _, ?_, q1, q2, q3⟩
        rw [List.getElem?_map, (List.getElem?_zip_eq_some (z := (d, e))).mpr ⟨hd, he⟩]
        rfl
end
end DL

set_option Elab.async false
set_option linter.all false
set_option maxRecDepth 100000
set_option maxHeartbeats 2000000
/-! Expressions and defs that change what is owned. -/
namespace DL
open PySem PySem.Spec PyProof.Rows L2 StX
/-- an expression that may change what is owned: R tells the data and what is owned behind it -/
def EvX (K : PySem.W.Frag) (B O : Hp) (G : List SD) (te : TE) (R : PyData → Hp → Prop) : Prop := ∀ B1 σ H, Ex B B1 → Sta K B1 O G σ H → ∀ Q : VK, (∀ v d B' O' H', Ex B1 B' → R d O' → W B' O' H' → Dt K B' v d → Q v H') → te σ H Q
def EvXs (K : PySem.W.Frag) (B O : Hp) (G : List SD) (ta : TA) (R : List PyData → Hp → Prop) : Prop := ∀ B1 σ H, Ex B B1 → Sta K B1 O G σ H → ∀ Q : List V → Hp → Prop, (∀ vs ds B' O' H', Ex B1 B' → R ds O' → W B' O' H' → DtAll K B' vs ds → Q vs H') → ta σ H Q
section
variable {K : PySem.W.Frag} {B B' O : Hp} {G : List SD} {te ta tb : TE} {t : TA} {r : R2} {d : PyData} {R R1 R3 : PyData → Hp → Prop} {R2' : PyData → Hp → PyData → Hp → Prop}
theorem EvX.ex (h : EvX K B O G te R) (e : Ex B B') : EvX K B' O G te R := fun B1 σ H e1 s Q q => h B1 σ H (e.trans e1) s Q q
theorem ex_pure (h : EvD K B O G te d) : EvX K B O G te (fun d' O' => d' = d ∧ O' = O) := fun B1 σ H e s Q q => h B1 O σ H e (Ex.refl _) s Q fun v B' H' e' w' dv => q v d B' O H' e' ⟨rfl, rfl⟩ w' dv
theorem ex_imp (h : EvX K B O G te R) (k : ∀ d O', R d O' → R1 d O') : EvX K B O G te R1 := fun B1 σ H e s Q q => h B1 σ H e s Q fun v d B' O' H' e' r' w' dv => q v d B' O' H' e' (k d O' r') w' dv
theorem ex_op (h1 : EvX K B O G ta R1) (h2 : ∀ d1 B' O', Ex B B' → R1 d1 O' → EvX K B' O' G tb (R2' d1 O')) (h3 : ∀ d1 O' d2 O'', R1 d1 O' → R2' d1 O' d2 O'' → ∃ z, RD K r d1 d2 z ∧ R3 z O'') : EvX K B O G (tOp r ta tb) R3 := fun B1 σ H e s Q q =>
  h1 B1 σ H e s _ fun v d1 B2 O2 H2 e2 r1 w2 dv => h2 d1 B2 O2 (e.trans e2) r1 B2 σ H2 (Ex.refl _) ⟨w2, s.s.ex e2⟩ _ fun u d2 B3 O3 H3 e3 r2 w3 du => by
    obtain ⟨z, hz, hr⟩ := h3 d1 O2 d2 O3 r1 r2
    exact hz B3 O3 H3 v u w3 (dp_ex e3 _ _ dv) du Q fun x B4 H4 e4 w4 dx => q x z B4 O3 H4 ((e2.trans e3).trans e4) hr w4 dx
theorem exs_nil : EvXs K B O G tNil (fun ds O' => ds = [] ∧ O' = O) := fun B1 σ H e s Q q => q [] [] B1 O H (Ex.refl _) ⟨rfl, rfl⟩ s.w .nil
theorem exs_cons {S : PyData → Hp → List PyData → Hp → Prop} {T : List PyData → Hp → Prop} (h1 : EvX K B O G te R) (h2 : ∀ d B' O', Ex B B' → R d O' → EvXs K B' O' G t (S d O')) (h3 : ∀ d O' ds O'', R d O' → S d O' ds O'' → T (d :: ds) O'') : EvXs K B O G (tCons te t) T := fun B1 σ H e s Q q =>
  h1 B1 σ H e s _ fun v d B2 O2 H2 e2 r1 w2 dv => h2 d B2 O2 (e.trans e2) r1 B2 σ H2 (Ex.refl _) ⟨w2, s.s.ex e2⟩ _ fun vs ds B3 O3 H3 e3 r2 w3 dvs => q (v :: vs) (d :: ds) B3 O3 H3 (e2.trans e3) (h3 d O2 ds O3 r1 r2) w3 (.cons (dp_ex e3 _ _ dv) dvs)
theorem ex_tup {T : List PyData → Hp → Prop} (h : EvXs K B O G t T) (hl : ∀ ds O', T ds O' → ds.length ≤ 100000) : EvX K B O G (tTup t) (fun d O' => ∃ ds, d = .tuple ds ∧ T ds O') := fun B1 σ H e s Q q =>
  h B1 σ H e s _ fun vs ds B2 O2 H2 e2 r2 w2 d2 => ⟨by rw [dps_len d2]; exact sz_of (hl ds O2 r2), fun p hp => q _ (.tuple ds) (upd B2 p (.tup vs)) O2 _ (e2.trans (Ex.new (w2.fb hp))) ⟨ds, rfl, r2⟩ (w2.newB hp) (.tup (.inl (.inl upd_same)) (dps_ex (Ex.new (w2.fb hp)) _ _ d2))⟩
theorem ex_lst {T : List PyData → Hp → Prop} (h : EvXs K B O G t T) (hl : ∀ ds O', T ds O' → ds.length ≤ 100000) : EvX K B O G (tLst t) (fun d O' => ∃ ds, d = .list ds ∧ T ds O') := fun B1 σ H e s Q q =>
  h B1 σ H e s _ fun vs ds B2 O2 H2 e2 r2 w2 d2 => ⟨by rw [dps_len d2]; exact sz_of (hl ds O2 r2), fun p hp => q _ (.list ds) (upd B2 p (.lst vs)) O2 _ (e2.trans (Ex.new (w2.fb hp))) ⟨ds, rfl, r2⟩ (w2.newB hp) (.lst upd_same (dps_ex (Ex.new (w2.fb hp)) _ _ d2))⟩
variable {σ : L2.St} {H : Hp} {D : Ends} {tz : TS} {i : Nat}
theorem qx_asg (s : Sta K B O G σ H) (h : EvX K B O G te R) (k : ∀ v d B' O' H', Ex B B' → R d O' → Dt K B' v d → Sta K B' O' (G.set i (.dat d)) (σ.set i (some v)) H' → tz D (σ.set i (some v)) H') : tSeq (tAsg te (gName i)) tz D σ H :=
  h B σ H (Ex.refl _) s _ fun v d B' O' H' e r' w' dv => k v d B' O' H' e r' dv ⟨w', (s.s.ex e).set i ⟨v, rfl, dv⟩⟩
theorem sx_ret (s : Sta K B O G σ H) (h : EvX K B O G te R) (k : ∀ v d B' O' H', Ex B B' → R d O' → W B' O' H' → Dt K B' v d → D.rt v H') : tRet te D σ H :=
  h B σ H (Ex.refl _) s _ fun v d B' O' H' e r' w' dv => k v d B' O' H' e r' w' dv
/-- append what is reckoned with changes to an owned list that these leave -/
theorem sx_app {l : Addr} {vs : List V} (s : Sta K B O G σ H) (hg : G[i]? = some (.val (.ref l))) (ho : O l = some (.lst vs)) (hz : vs.length < 100000) (h : EvX K B O G te R) (hr : ∀ d O', R d O' → O' l = some (.lst vs))
    (k : ∀ v d B' O' H', Ex B B' → R d O' → Dt K B' v d → Sta K B' (upd O' l (.lst (vs ++ [v]))) G σ H' → D.nx σ H') : tDrop (tBM K "list" rAppend (tVar i) (tCons te tNil)) D σ H := by
  obtain ⟨sv, h1, h2⟩ := s.s.get hg
  have h3 : sv = some (.ref l) := h2
  subst h3
  refine ⟨_, h1, .inl ⟨rfl, _, SqL.of (s.w.o _ _ ho)⟩, ?_⟩
  refine h B σ H (Ex.refl _) s _ fun v d B' O' H' e r' w' dv => ?_
  exact ⟨l, vs, v, rfl, rfl, w'.o _ _ (hr d O' r'), Nat.lt_of_lt_of_le hz (by decide), k v d B' O' _ e r' dv ⟨w'.mut (hr d O' r'), s.s.ex e⟩⟩
/-- the arguments of such a def: data, or just these values -/
def EvAS (K : PySem.W.Frag) (B O : Hp) (G : List SD) (ta : TA) (gs : List SD) : Prop := ∀ B1 σ H, Ex B B1 → Sta K B1 O G σ H → ∀ Q : List V → Hp → Prop, (∀ vs B' H', Ex B1 B' → W B' O H' → Slots K B' (vs.map some) gs → Q vs H') → ta σ H Q
theorem as_nil : EvAS K B O G tNil [] := fun B1 σ H e s Q q => q [] B1 H (Ex.refl _) s.w trivial
theorem as_dat {gs : List SD} (h : EvD K B O G te d) (hr : EvAS K B O G t gs) : EvAS K B O G (tCons te t) (.dat d :: gs) := fun B1 σ H e s Q q =>
  h B1 O σ H e (Ex.refl _) s _ fun v B2 H2 e2 w2 d2 => hr B2 σ H2 (e.trans e2) (s.ex e2 w2) _ fun vs B3 H3 e3 w3 d3 => q (v :: vs) B3 H3 (e2.trans e3) w3 ⟨⟨v, rfl, dp_ex e3 _ _ d2⟩, d3⟩
theorem as_val {gs : List SD} {v : V} (h : EvV K B O G te v) (hr : EvAS K B O G t gs) : EvAS K B O G (tCons te t) (.val v :: gs) := fun B1 σ H e s Q q =>
  h B1 O σ H e (Ex.refl _) s _ fun B2 H2 e2 w2 => hr B2 σ H2 (e.trans e2) (s.ex e2 w2) _ fun vs B3 H3 e3 w3 d3 => q (v :: vs) B3 H3 (e2.trans e3) w3 ⟨rfl, d3⟩
def SpX (K : PySem.W.Frag) (Pre : List SD → Hp → Hp → (PyData → Hp → Prop) → Prop) : Sp := fun vs H Q _ => ∃ B O gs R, W B O H ∧ Slots K B (vs.map some) gs ∧ Pre gs B O R ∧ ∀ v d B' O' H', Ex B B' → R d O' → W B' O' H' → Dt K B' v d → Q v H'
variable {Pre : List SD → Hp → Hp → (PyData → Hp → Prop) → Prop} {gs : List SD} {E : XK}
theorem ex_call (h : EvAS K B O G t gs) (hr : ∀ B', Ex B B' → Pre gs B' O R) : EvX K B O G (tCall (SpX K Pre) [] E t) R := fun B1 σ H e s Q q =>
  h B1 σ H e s _ fun vs B2 H2 e2 w2 d2 => by
    rw [List.append_nil]
    exact ⟨B2, O, gs, R, w2, d2, hr B2 (e.trans e2), fun v d B3 O3 H3 e3 r3 w3 d3 => q v d B3 O3 H3 (e2.trans e3) r3 w3 d3⟩
end
theorem slots_len {K : PySem.W.Frag} {B : Hp} : ∀ {σ : L2.St} {G : List SD}, Slots K B σ G → σ.length = G.length
  | [], [], _ => rfl
  | _ :: _, _ :: _, h => congrArg Nat.succ (slots_len h.2)
  | [], _ :: _, h => h.elim
  | _ :: _, [], h => h.elim
theorem slots_fill {K : PySem.W.Frag} {B : Hp} : ∀ {σ : L2.St} {G : List SD}, Slots K B σ G → ∀ n, Slots K B (σ ++ List.replicate n none) (G ++ List.replicate n .un)
  | [], [], _, 0 => trivial
  | [], [], _, n + 1 => ⟨trivial, slots_fill (σ := []) (G := []) trivial n⟩
  | _ :: _, _ :: _, h, n => ⟨h.1, slots_fill h.2 n⟩
  | [], _ :: _, h, _ => h.elim
  | _ :: _, [], h, _ => h.elim
section
variable {P : Program} {w : World} {K : PySem.W.Frag} {mg : Str → Option Value} {base : Heap}
theorem ok_fnX {x qual : Str} {st : Stmt} {f : Addr} {fd : FuncData} {N ps : List Str} {k : Nat} {Pre : List SD → Hp → Hp → (PyData → Hp → Prop) → Prop} (F : Fun K x qual st f fd) (S : FnScope N ps (defScope st)) (hl : ∀ gs B O R, Pre gs B O R → gs.length = ps.length)
    (hb : ∀ (cdv : Value) (A : Around) (outer : List Env) (s : Shared) (H0 : Hp) (E : XK), Room k (A.deeper (envOfC qual (defScope st) s.heap.objs.size f cdv)) →
      ∃ t, PSs (cxOf CX0 P w K mg base N qual (defScope st) f cdv A outer s H0 E).nox (defBody st) t ∧
        ∀ gs B O R σ H (Q : VK), Pre gs B O R → Sta K B O (gs ++ List.replicate (N.length - ps.length) .un) σ H → (∀ v d B' O' H', Ex B B' → R d O' → W B' O' H' → Dt K B' v d → Q v H') → t { nx := fun _ H' => Q .non H', rt := Q } σ H) :
    FnOk P w K mg base CX0 (k + 1) f fd ps (SpX K Pre) := by
  refine F.ok S (fun vs H Q E h => ?_) (fun cdv A outer s H vs Q E hr h => ?_)
  · obtain ⟨B, O, gs, R, _, h2, h3, _⟩ := h
    have := slots_len h2
    rw [List.length_map] at this
    rw [this]
    exact hl gs B O R h3
  · obtain ⟨B, O, gs, R, h1, h2, h3, k⟩ := h
    obtain ⟨t, ht, hq⟩ := hb cdv A outer s H E hr
    refine ⟨t, ht, hq gs B O R _ H Q h3 ⟨h1, ?_⟩ k⟩
    have e := slots_fill h2 (N.length - ps.length)
    have hl' : vs.length = ps.length := by
      have := slots_len h2
      rw [List.length_map] at this
      rw [this]
      exact hl gs B O R h3
    unfold L2.start
    rw [hl']
    exact e
theorem SpX_false {k : Nat} {f : Addr} {fd : FuncData} {ps : List Str} {Pre : List SD → Hp → Hp → (PyData → Hp → Prop) → Prop} (h : ∀ gs B O R, ¬ Pre gs B O R) : FnOk P w K mg base CX0 k f fd ps (SpX K Pre) :=
  ⟨fun _ _ _ _ ⟨B, O, gs, R, _, _, r, _⟩ => (h gs B O R r).elim, fun _ _ _ _ _ _ _ _ _ _ _ _ _ ⟨B, O, gs, R, _, _, r, _⟩ => (h gs B O R r).elim⟩
end
/-! ### pools and rooms -/
def PoolAt (O : Hp) (p : Addr) : Prop := ∃ a b : Int, O p = some (.lst [.int a, .int b]) ∧ 0 ≤ b ∧ b < 2147483647
def RoomAt (O : Hp) (r : Addr) : Prop := ∃ z : Int, O r = some (.lst [.int z])
structure Mv (p : Addr) (O O' : Hp) : Prop where
  pool : PoolAt O' p
  fr : ∀ a, a ≠ p → O' a = O a
theorem Mv.refl {p : Addr} {O : Hp} (h : PoolAt O p) : Mv p O O := ⟨h, fun _ _ => rfl⟩
theorem Mv.trans {p : Addr} {O O1 O2 : Hp} (a : Mv p O O1) (b : Mv p O1 O2) : Mv p O O2 := ⟨b.pool, fun x h => (b.fr x h).trans (a.fr x h)⟩
structure Mv2 (p r : Addr) (O O' : Hp) : Prop where
  pool : PoolAt O' p
  room : RoomAt O' r
  fr : ∀ a, a ≠ p → a ≠ r → O' a = O a
theorem Mv2.refl {p r : Addr} {O : Hp} (h : PoolAt O p) (h2 : RoomAt O r) : Mv2 p r O O := ⟨h, h2, fun _ _ _ => rfl⟩
theorem Mv2.trans {p r : Addr} {O O1 O2 : Hp} (a : Mv2 p r O O1) (b : Mv2 p r O1 O2) : Mv2 p r O O2 := ⟨b.pool, b.room, fun x h h' => (b.fr x h h').trans (a.fr x h h')⟩
theorem PoolAt.ne {O : Hp} {p r : Addr} (h : PoolAt O p) (h2 : RoomAt O r) : r ≠ p := by
  obtain ⟨a, b, e, _⟩ := h
  obtain ⟨z, e2⟩ := h2
  intro q
  subst q
  rw [e] at e2
  cases e2
theorem Mv.two {p r : Addr} {O O' : Hp} (a : Mv p O O') (h : PoolAt O p) (h2 : RoomAt O r) : Mv2 p r O O' := by
  refine ⟨a.pool, ?_, fun x h1 _ => a.fr x h1⟩
  obtain ⟨z, e⟩ := id h2
  exact ⟨z, by rw [a.fr r (h.ne h2)]; exact e⟩
end DL

set_option Elab.async false
set_option linter.all false
set_option maxRecDepth 100000
set_option maxHeartbeats 2000000
/-! Parts of readers as plain data. -/
namespace PT
open PySem DL
inductive Part where
  | leaf (w : Str) (fs : List PyData)
  | row (ps : List Part)
  | choice (m : PyData) (os : List (Int × Part))
  | one (w : Str) (fs : List PyData) (p : Part)
mutual
def enc : Part → PyData
  | .leaf w fs => .tuple (.str w :: fs)
  | .row ps => .tuple [.str "row", .tuple (encs ps)]
  | .choice m os => .tuple [.str "choice", m, .tuple (enco os)]
  | .one w fs p => .tuple (.str w :: (fs ++ [enc p]))
def encs : List Part → List PyData
  | [] => []
  | p :: ps => enc p :: encs ps
def enco : List (Int × Part) → List PyData
  | [] => []
  | (n, p) :: os => .tuple [.int n, enc p] :: enco os
end
theorem encs_eq : ∀ ps, encs ps = ps.map enc
  | [] => rfl
  | p :: ps => by
    show enc p :: encs ps = enc p :: ps.map enc
    rw [encs_eq ps]
theorem enco_eq : ∀ os, enco os = os.map fun o => .tuple [.int o.1, enc o.2]
  | [] => rfl
  | (n, p) :: os => by
    show _ :: enco os = _
    rw [enco_eq os]
    rfl
def isLeafW (w : Str) : Bool := w == "cell" || w == "need" || w == "pad"
def isOneW (w : Str) : Bool := w == "times" || w == "counted" || w == "within" || w == "fill" || w == "if left"
def word : Part → Str
  | .leaf w _ => w
  | .row _ => "row"
  | .choice _ _ => "choice"
  | .one w _ _ => w
def good (d : PyData) : Bool := flatD d && SeqAt.shaped d
/-- the top of a part is as it should be -/
def ok0 : Part → Prop
  | .leaf w fs => isLeafW w = true ∧ fs.length ≤ 3 ∧ fs.all good = true
  | .row ps => ps.length ≤ 6
  | .choice m os => good m = true ∧ 0 < os.length ∧ os.length ≤ 6
  | .one w fs _ => isOneW w = true ∧ fs.length ≤ 4 ∧ fs.all good = true ∧ (w = "times" → ∃ n, fs = [.int n] ∧ 0 ≤ n ∧ n ≤ 6)
def kids : Part → List Part
  | .leaf _ _ => []
  | .row ps => ps
  | .choice _ os => os.map (·.2)
  | .one _ _ p => [p]
def ok : Nat → Part → Prop
  | 0, _ => False
  | h + 1, t => ok0 t ∧ ∀ p, p ∈ kids t → ok h p
def fields : Part → List PyData
  | .leaf _ fs => fs
  | .row ps => [.tuple (ps.map enc)]
  | .choice m os => [m, .tuple (os.map fun o => .tuple [.int o.1, enc o.2])]
  | .one _ fs p => fs ++ [enc p]
theorem enc_eq (t : Part) : enc t = .tuple (.str (word t) :: fields t) := by
  cases t with
  | leaf w fs => rfl
  | row ps =>
    show PyData.tuple [.str "row", .tuple (encs ps)] = _
    rw [encs_eq]
    rfl
  | choice m os =>
    show PyData.tuple [.str "choice", m, .tuple (enco os)] = _
    rw [enco_eq]
    rfl
  | one w fs p => rfl
theorem kids_len {t : Part} (h : ok0 t) : (kids t).length ≤ 6 := by
  cases t with
  | leaf => simp [kids]
  | row ps => exact h
  | choice m os =>
    obtain ⟨_, _, h3⟩ := h
    simp [kids]
    omega
  | one => simp [kids]
theorem ok_mono : ∀ {h j : Nat} {t : Part}, h ≤ j → ok h t → ok j t
  | 0, _, _, _, o => o.elim
  | h + 1, 0, _, l, _ => absurd l (by omega)
  | h + 1, j + 1, t, l, o => ⟨o.1, fun p hp => ok_mono (by omega) (o.2 p hp)⟩
/-! sizes -/
def osum : List (Option Int) → Option Int
  | [] => some 0
  | none :: _ => none
  | some n :: r => (osum r).map (n + ·)
def encN : Option Int → PyData
  | none => .none
  | some n => .int n
def numOf : List PyData → Option Int
  | .int n :: _ => some n
  | _ => none
def sizeK (w : Str) (fs : List PyData) (ss : List (Option Int)) : Option Int :=
  if w = "cell" then some 1
  else if w = "need" then some 0
  else if w = "row" ∨ w = "choice" ∨ w = "times" then
    (if none ∈ ss then none
    else if w = "row" then some ((ss.map fun s => s.getD 0).sum)
    else if w = "times" then ((numOf fs).map fun n => n * (ss.headD (some 0)).getD 0)
    else if ∀ s ∈ ss, s = ss.headD (some 0) then some (1 + (ss.headD (some 0)).getD 0) else none)
  else none
def size : Nat → Part → Option Int
  | 0, _ => none
  | h + 1, t => sizeK (word t) (fields t) ((kids t).map (size h))
/-! parts in parts -/
def subsAt (S : Part → List (List Int × Part)) (ks : List Part) (i : Nat) : List (List Int × Part) := match ks[i]? with
  | some c => (S c).map fun q => ((i : Int) :: q.1, q.2)
  | none => []
def subsTo (S : Part → List (List Int × Part)) (t : Part) (n : Nat) : List (List Int × Part) := ([], t) :: (List.range n).flatMap (subsAt S (kids t))
def subs : Nat → Part → List (List Int × Part)
  | 0, t => [([], t)]
  | h + 1, t => subsTo (subs h) t (kids t).length
theorem subsTo_succ {S : Part → List (List Int × Part)} {t : Part} {n : Nat} {c : Part} (h : (kids t)[n]? = some c) : subsTo S t (n + 1) = subsTo S t n ++ (S c).map fun q => ((n : Int) :: q.1, q.2) := by
  unfold subsTo
  rw [List.range_succ, List.flatMap_append, ← List.cons_append]
  simp [subsAt, h]
def cntP : Nat → Nat
  | 0 => 0
  | h + 1 => 1 + 6 * cntP h
theorem subsTo_len {S : Part → List (List Int × Part)} {t : Part} {m : Nat} (hS : ∀ c, c ∈ kids t → (S c).length ≤ m) : ∀ n, (subsTo S t n).length ≤ 1 + n * m
  | 0 => by simp [subsTo]
  | n + 1 => by
    have ih := subsTo_len hS n
    cases hc : (kids t)[n]? with
    | none =>
      have : subsTo S t (n + 1) = subsTo S t n := by
        unfold subsTo
        rw [List.range_succ, List.flatMap_append]
        simp [subsAt, hc]
      rw [this, Nat.succ_mul]
      omega
    | some c =>
      rw [subsTo_succ hc, List.length_append, List.length_map, Nat.succ_mul]
      have := hS c (List.mem_of_getElem? hc)
      omega
theorem subs_len : ∀ {h : Nat} {t : Part}, ok h t → (subs h t).length ≤ cntP h
  | 0, _, o => o.elim
  | h + 1, t, o => by
    have h1 := subsTo_len (S := subs h) (t := t) (m := cntP h) (fun c hc => subs_len (o.2 c hc)) (kids t).length
    have h2 := kids_len o.1
    have h3 : (kids t).length * cntP h ≤ 6 * cntP h := Nat.mul_le_mul_right _ h2
    show (subsTo (subs h) t (kids t).length).length ≤ 1 + 6 * cntP h
    omega
theorem cnt_le : ∀ {h : Nat}, h ≤ 7 → cntP h ≤ 55987
  | 0, _ => by decide
  | 1, _ => by decide
  | 2, _ => by decide
  | 3, _ => by decide
  | 4, _ => by decide
  | 5, _ => by decide
  | 6, _ => by decide
  | 7, _ => by decide
  | h + 8, l => absurd l (by omega)
theorem cnt_mono {h : Nat} (l : h + 1 ≤ 7) {n : Nat} (hn : n ≤ 6) : 1 + n * cntP h ≤ 55987 := by
  have h1 := cnt_le l
  have h2 : n * cntP h ≤ 6 * cntP h := Nat.mul_le_mul_right _ hn
  have h3 : cntP (h + 1) = 1 + 6 * cntP h := rfl
  omega
def getP : Part → List Int → Option Part
  | t, [] => some t
  | t, i :: p => if 0 ≤ i then (kids t)[i.toNat]?.bind (getP · p) else none
theorem subs_get : ∀ {h : Nat} {t : Part} {p : List Int} {c : Part}, (p, c) ∈ subs h t → getP t p = some c
  | 0, t, p, c, m => by
    simp [subs] at m
    obtain ⟨rfl, rfl⟩ := m
    rfl
  | h + 1, t, p, c, m => by
    have m' : (p, c) ∈ subsTo (subs h) t (kids t).length := m
    unfold subsTo at m'
    rw [List.mem_cons, List.mem_flatMap] at m'
    rcases m' with m' | ⟨i, _, m'⟩
    · cases m'
      rfl
    · unfold subsAt at m'
      cases hk : (kids t)[i]? with
      | none => rw [hk] at m'; cases m'
      | some k =>
        rw [hk] at m'
        obtain ⟨q, hq, e⟩ := List.mem_map.mp m'
        cases e
        have := subs_get hq
        show (if 0 ≤ (i : Int) then _ else _) = _
        rw [if_pos (by omega), Int.toNat_natCast, hk]
        exact this
theorem ok_get : ∀ {p : List Int} {h : Nat} {t c : Part}, ok h t → getP t p = some c → ok h c
  | [], h, t, c, o, e => by cases e; exact o
  | i :: p, 0, t, c, o, e => o.elim
  | i :: p, h + 1, t, c, o, e => by
    have e' : (if 0 ≤ i then (kids t)[i.toNat]?.bind (getP · p) else none) = some c := e
    split at e'
    · cases hk : (kids t)[i.toNat]? with
      | none => rw [hk] at e'; cases e'
      | some k =>
        rw [hk] at e'
        exact ok_mono (Nat.le_succ h) (ok_get (o.2 k (List.mem_of_getElem? hk)) e')
    · cases e'
theorem subs_path : ∀ {h : Nat} {t : Part} {p : List Int} {c : Part}, (p, c) ∈ subs h t → p.length ≤ h
  | 0, t, p, c, m => by
    simp [subs] at m
    simp [m.1]
  | h + 1, t, p, c, m => by
    have m' : (p, c) ∈ subsTo (subs h) t (kids t).length := m
    unfold subsTo at m'
    rw [List.mem_cons, List.mem_flatMap] at m'
    rcases m' with m' | ⟨i, _, m'⟩
    · cases m'
      simp
    · unfold subsAt at m'
      cases hk : (kids t)[i]? with
      | none => rw [hk] at m'; cases m'
      | some k =>
        rw [hk] at m'
        obtain ⟨q, hq, e⟩ := List.mem_map.mp m'
        cases e
        have := subs_path hq
        simp
        omega
/-- the parts in their places -/
def withK : Part → List Part → Part
  | .leaf w fs, _ => .leaf w fs
  | .row _, ks => .row ks
  | .choice m os, ks => .choice m ((os.zip ks).map fun z => (z.1.1, z.2))
  | .one w fs p, ks => .one w fs (ks.headD p)
def repP : Part → List Int → Part → Option Part
  | _, [], o => some o
  | t, i :: p, o => if 0 ≤ i then (kids t)[i.toNat]?.bind fun c => (repP c p o).map fun c' => withK t ((kids t).set i.toNat c') else none
theorem rep_get : ∀ {p : List Int} {t c : Part} (o : Part), getP t p = some c → ∃ d, repP t p o = some d
  | [], t, c, o, e => ⟨o, rfl⟩
  | i :: p, t, c, o, e => by
    have e' : (if 0 ≤ i then (kids t)[i.toNat]?.bind (getP · p) else none) = some c := e
    split at e'
    · rename_i hi
      cases hk : (kids t)[i.toNat]? with
      | none => rw [hk] at e'; cases e'
      | some k =>
        rw [hk] at e'
        obtain ⟨d, hd⟩ := rep_get (t := k) o e'
        refine ⟨withK t ((kids t).set i.toNat d), ?_⟩
        show (if 0 ≤ i then _ else _) = _
        rw [if_pos hi, hk]
        show (repP k p o).map _ = _
        rw [hd]
        rfl
    · cases e'
theorem withK_same (t : Part) : withK t (kids t) = t := by
  cases t with
  | leaf => rfl
  | row => rfl
  | choice m os =>
    have h : ∀ xs : List (Int × Part), ((xs.zip (xs.map (·.2))).map fun z => (z.1.1, z.2)) = xs := fun xs => by
      induction xs with
      | nil => rfl
      | cons o r ih =>
        show (o.1, o.2) :: ((r.zip (r.map (·.2))).map fun z => (z.1.1, z.2)) = _
        rw [ih]
    show Part.choice m _ = _
    exact congrArg _ (h os)
  | one => rfl
theorem set_same {α : Type} : ∀ {xs : List α} {i : Nat} {x : α}, xs[i]? = some x → xs.set i x = xs
  | [], _, _, _ => rfl
  | y :: ys, 0, x, h => by simp at h; subst h; rfl
  | y :: ys, i + 1, x, h => by simp at h; simp [set_same h]
theorem rep_same : ∀ {p : List Int} {t c : Part}, getP t p = some c → repP t p c = some t
  | [], t, c, e => by cases e; rfl
  | i :: p, t, c, e => by
    have e' : (if 0 ≤ i then (kids t)[i.toNat]?.bind (getP · p) else none) = some c := e
    split at e'
    · rename_i hi
      cases hk : (kids t)[i.toNat]? with
      | none => rw [hk] at e'; cases e'
      | some k =>
        rw [hk] at e'
        have := rep_same (t := k) e'
        show (if 0 ≤ i then _ else _) = _
        rw [if_pos hi, hk]
        show (repP k p c).map _ = _
        rw [this]
        show some (withK t _) = _
        rw [set_same hk, withK_same]
    · cases e'
def encP (p : List Int) : PyData := .tuple (p.map .int)
def encQ (q : List Int × Part) : PyData := .tuple [encP q.1, enc q.2]
theorem row_of {t : Part} (ho : ok0 t) (h : (word t == "row") = true) : ∃ ps, t = .row ps := by
  cases t with
  | row ps => exact ⟨ps, rfl⟩
  | leaf x fs =>
    have e : x = "row" := eq_of_beq h
    subst e
    exact absurd ho.1 (by decide)
  | choice m os => exact absurd (show (("choice" : Str) == "row") = true from h) (by decide)
  | one x fs p =>
    have e : x = "row" := eq_of_beq h
    subst e
    exact absurd ho.1 (by decide)
theorem choice_of {t : Part} (ho : ok0 t) (h : (word t == "choice") = true) : ∃ m os, t = .choice m os := by
  cases t with
  | choice m os => exact ⟨m, os, rfl⟩
  | leaf x fs =>
    have e : x = "choice" := eq_of_beq h
    subst e
    exact absurd ho.1 (by decide)
  | row ps => exact absurd (show (("row" : Str) == "choice") = true from h) (by decide)
  | one x fs p =>
    have e : x = "choice" := eq_of_beq h
    subst e
    exact absurd ho.1 (by decide)
theorem one_of {t : Part} (ho : ok0 t) (h1 : (word t == "row") = false) (h2 : (word t == "choice") = false) (h : isLeafW (word t) = false) : ∃ w fs p, t = .one w fs p := by
  cases t with
  | choice m os => exact absurd h2 (by show ¬ (("choice" : Str) == "choice") = false; decide)
  | leaf x fs =>
    have h' : isLeafW x = false := h
    rw [ho.1] at h'
    cases h'
  | row ps => exact absurd h1 (by show ¬ (("row" : Str) == "row") = false; decide)
  | one x fs p => exact ⟨x, fs, p, rfl⟩
theorem leaf_of {t : Part} (ho : ok0 t) (h1 : (word t == "row") = false) (h2 : (word t == "choice") = false) (h : isOneW (word t) = false) : ∃ w fs, t = .leaf w fs := by
  cases t with
  | choice m os => exact absurd h2 (by show ¬ (("choice" : Str) == "choice") = false; decide)
  | one x fs p =>
    have h' : isOneW x = false := h
    rw [ho.1] at h'
    cases h'
  | row ps => exact absurd h1 (by show ¬ (("row" : Str) == "row") = false; decide)
  | leaf x fs => exact ⟨x, fs, rfl⟩
theorem leafW_one {w : Str} (h : isLeafW w = true) : isOneW w = false := by
  unfold isLeafW at h
  simp only [Bool.or_eq_true] at h
  rcases h with (h | h) | h <;> (have e := eq_of_beq h; subst e; decide)
theorem oneW_leaf {w : Str} (h : isOneW w = true) : isLeafW w = false := by
  cases e : isLeafW w with
  | false => rfl
  | true => rw [leafW_one e] at h; cases h
end PT

set_option Elab.async false
set_option linter.all false
set_option maxRecDepth 100000
set_option maxHeartbeats 2000000
/-! More of the same: walks that are reckoned with changes, owned lists compared. -/
namespace DL
open PySem PySem.Spec PyProof.Rows L2 StX
def EvIX (K : PySem.W.Frag) (B O : Hp) (G : List SD) (wi : TI) (T : List PyData → Hp → Prop) : Prop := ∀ B1 σ H, Ex B B1 → Sta K B1 O G σ H → ∀ R : It → Hp → Prop, (∀ J es B' O' H', Ex B1 B' → T es O' → W B' O' H' → Gives K J es B' → R J H') → wi σ H R
section
variable {K : PySem.W.Frag} {B O : Hp} {G : List SD} {te ta tb th : TE} {t : TA} {d : PyData} {ds : List PyData} {σ : L2.St} {H : Hp} {D : Ends} {tz tu : TS} {i : Nat}
theorem eix_list {T : List PyData → Hp → Prop} (h : EvX K B O G te (fun d O' => ∃ es, d = .list es ∧ T es O')) : EvIX K B O G (iList K te) T := fun B1 σ H e1 s R r => h B1 σ H e1 s _ fun v d B2 O2 H2 e2 ⟨es, ed, hT⟩ w2 d2 => by
  subst ed
  obtain ⟨a, xs, rfl, k1, k2⟩ := dp_lst d2
  refine ⟨a, rfl, ⟨xs, .inl (.inl (w2.b _ _ k1))⟩, r _ es B2 O2 H2 e2 hT w2 ⟨xs.length, _, _, dps_len k2, walk_list (xs := xs), fun B3 O3 H3 e3 w3 => .inl (.inl (w3.b _ _ (e3 _ _ k1))), fun i H3 x H4 B3 O3 e3 w3 hi y => ?_⟩⟩
  obtain ⟨rfl, hx⟩ := y
  obtain ⟨e, he, hd⟩ := dps_getV k2 hx
  exact ⟨e, B3, he, Ex.refl _, w3, dp_ex e3 _ _ hd⟩
theorem eix_range {T : List PyData → Hp → Prop} (h : EvXs K B O G t (fun ds O' => ∃ j : Int, ds = [.int j] ∧ (-1000000 ≤ j ∧ j ≤ 1000000) ∧ T (rangeD 0 j.toNat) O')) : EvIX K B O G (iRng1 t) T := fun B1 σ H e1 s R r => h B1 σ H e1 s _ fun vs ds B2 O2 H2 e2 ⟨j, ed, hj, hT⟩ w2 d2 => by
  subst ed
  have e := dps_ints (ns := [j]) d2
  refine ⟨j, e, by omega, by omega, r _ _ B2 O2 H2 e2 hT w2 ⟨j.toNat, _, _, rangeD_len.symm, walk_range, fun _ _ _ _ _ => trivial, fun i H3 x H4 B3 O3 e3 w3 hi y => ?_⟩⟩
  obtain ⟨rfl, rfl⟩ := y
  exact ⟨_, B3, rangeD_get hi, Ex.refl _, w3, .int _⟩
theorem sx_for {wi : TI} {g : TG} {T : List PyData → Hp → Prop} (s : Sta K B O G σ H) (hI : EvIX K B O G wi T) (P : List PyData → Nat → Hp → Hp → List SD → Prop) (mono : ∀ es i B1 B2 O1 G1, Ex B1 B2 → P es i B1 O1 G1 → P es i B2 O1 G1)
    (h0 : ∀ es O' B', Ex B B' → T es O' → P es 0 B' O' G)
    (hs : ∀ es i e B1 O1 G1 σ1 H1 v, es[i]? = some e → Ex B B1 → P es i B1 O1 G1 → Sta K B1 O1 G1 σ1 H1 → Dt K B1 v e → ∀ N : L2.St → Hp → Prop, (∀ B' O' G' σ' H', Ex B1 B' → P es (i + 1) B' O' G' → Sta K B' O' G' σ' H' → N σ' H') → g v σ1 H1 fun σ2 H2 => tu { D with nx := N, ct := N, bk := D.nx } σ2 H2)
    (hd : ∀ es B1 O1 G1 σ1 H1, Ex B B1 → P es es.length B1 O1 G1 → Sta K B1 O1 G1 σ1 H1 → D.nx σ1 H1) : tFor wi g tu D σ H := by
  refine hI B σ H (Ex.refl _) s _ fun J es B2 O2 H2 e2 hT w2 gv => ?_
  obtain ⟨n, G0, Y, hn, wk, hG0, hY⟩ := gv
  refine for_it wk (fun i σ' H' => ∃ B' O' G', Ex B2 B' ∧ P es i B' O' G' ∧ Sta K B' O' G' σ' H') ⟨B2, O2, G, Ex.refl _, h0 es O2 B2 e2 hT, ⟨w2, s.s.ex e2⟩⟩ (fun i σ' H' _ ⟨B', O', G', e', p', s'⟩ => hG0 B' O' H' e' s'.w) ?_ ?_
  · rintro i x σ' H3 H4 hi ⟨B3, O3, G3, e3, p3, s3⟩ y
    obtain ⟨e, B4, hie, e4, w4, dx⟩ := hY i H3 x H4 B3 _ e3 s3.w hi y
    refine hs es i e B4 O3 G3 σ' H4 x hie ((e2.trans e3).trans e4) (mono _ _ _ _ _ _ e4 p3) ⟨w4, s3.s.ex e4⟩ dx _ fun B' O' G' σ2 H5 e5 p5 s5 => ⟨B', O', G', (e3.trans e4).trans e5, p5, s5⟩
  · rintro σ' H3 ⟨B3, O3, G3, e3, p3, s3⟩
    exact hd es B3 O3 G3 σ' H3 (e2.trans e3) (by rw [← hn]; exact p3) s3
theorem qx_for {wi : TI} {g : TG} {T : List PyData → Hp → Prop} (s : Sta K B O G σ H) (hI : EvIX K B O G wi T) (P : List PyData → Nat → Hp → Hp → List SD → Prop) (mono : ∀ es i B1 B2 O1 G1, Ex B1 B2 → P es i B1 O1 G1 → P es i B2 O1 G1)
    (h0 : ∀ es O' B', Ex B B' → T es O' → P es 0 B' O' G)
    (hs : ∀ es i e B1 O1 G1 σ1 H1 v, es[i]? = some e → Ex B B1 → P es i B1 O1 G1 → Sta K B1 O1 G1 σ1 H1 → Dt K B1 v e → ∀ N : L2.St → Hp → Prop, (∀ B' O' G' σ' H', Ex B1 B' → P es (i + 1) B' O' G' → Sta K B' O' G' σ' H' → N σ' H') → g v σ1 H1 fun σ2 H2 => tu { D with nx := N, ct := N, bk := tz D } σ2 H2)
    (hd : ∀ es B1 O1 G1 σ1 H1, Ex B B1 → P es es.length B1 O1 G1 → Sta K B1 O1 G1 σ1 H1 → tz D σ1 H1) : tSeq (tFor wi g tu) tz D σ H := sx_for (D := { D with nx := tz D }) s hI P mono h0 hs hd
theorem ex_slL {P : Int → Hp → Prop} (h : EvD K B O G te (.list ds)) (h2 : EvX K B O G th (fun d O' => ∃ r : Int, d = .int r ∧ P r O')) : EvX K B O G (tSl (rSlL K) te tNoPart (tPart th)) (fun d O' => ∃ r : Int, d = .list (cutX ds none (some r)) ∧ P r O') := fun B1 σ H e1 s Q q =>
  h B1 O σ H e1 (Ex.refl _) s _ fun v B2 H2 e2 w2 d2 => h2 B2 σ H2 (e1.trans e2) (s.ex e2 w2) _ fun u d B4 O4 H4 e4 ⟨r, ed, hr⟩ w4 du => by
    subst ed
    obtain ⟨a, xs, rfl, k1, k2⟩ := dp_lst d2
    have k1' := e4 _ _ k1
    have k2' := dps_ex e4 _ _ k2
    exact ⟨r, dp_int du, a, xs, rfl, .inl (.inl (w4.b _ _ k1')), fun p hp => q _ _ (upd B4 p _) O4 _ ((e2.trans e4).trans (Ex.new (w4.fb hp))) ⟨r, rfl, hr⟩ (w4.newB hp) (.lst upd_same (dps_ex (Ex.new (w4.fb hp)) _ _ (cut_dps k2')))⟩
/-- an owned list compared -/
theorem ev_eqO {l : Addr} {vs : List V} {e : PyData} {b : Bool} (hg : G[i]? = some (.val (.ref l))) (ho : O l = some (.lst vs)) (hv : DtAll K B vs ds) (hb : EvD K B O G tb e) (s1 : SeqAt.shaped (.list ds) = true) (s2 : SeqAt.shaped e = true) (h : PyData.eqv (.list ds) e = b) : EvD K B O G (tOp (rEqD K) (tVar i) tb) (.bool b) := fun B1 O1 σ H e1 o s Q q => by
  obtain ⟨sv, h1, h2⟩ := s.s.get hg
  have h3 : sv = some (.ref l) := h2
  subst h3
  refine ⟨_, h1, ?_⟩
  refine hb B1 O1 σ H e1 o s _ fun v B2 H2 e2 w2 d2 => ?_
  have hl : H2 l = some (.lst vs) := w2.o _ _ (o _ _ ho)
  refine ⟨.list ds, e, .lst (.inl (.inl hl)) (dt_dps _ _ (SeqAt.canLay_of_shaped s1) (dps_ex ((e1.trans e2).trans w2.b) _ _ hv)), dt_dp _ _ (SeqAt.canLay_of_shaped s2) (dp_ex w2.b _ _ d2), s1, s2, ?_⟩
  rw [h]
  exact q _ B2 H2 e2 w2 (.bl _)
theorem ev_neO {l : Addr} {vs : List V} {e : PyData} {b : Bool} (hg : G[i]? = some (.val (.ref l))) (ho : O l = some (.lst vs)) (hv : DtAll K B vs ds) (hb : EvD K B O G tb e) (s1 : SeqAt.shaped (.list ds) = true) (s2 : SeqAt.shaped e = true) (h : (!PyData.eqv (.list ds) e) = b) : EvD K B O G (tOp (rNeD K) (tVar i) tb) (.bool b) := fun B1 O1 σ H e1 o s Q q => by
  obtain ⟨sv, h1, h2⟩ := s.s.get hg
  have h3 : sv = some (.ref l) := h2
  subst h3
  refine ⟨_, h1, ?_⟩
  refine hb B1 O1 σ H e1 o s _ fun v B2 H2 e2 w2 d2 => ?_
  have hl : H2 l = some (.lst vs) := w2.o _ _ (o _ _ ho)
  refine ⟨.list ds, e, .lst (.inl (.inl hl)) (dt_dps _ _ (SeqAt.canLay_of_shaped s1) (dps_ex ((e1.trans e2).trans w2.b) _ _ hv)), dt_dp _ _ (SeqAt.canLay_of_shaped s2) (dp_ex w2.b _ _ d2), s1, s2, ?_⟩
  rw [h]
  exact q _ B2 H2 e2 w2 (.bl _)
end
end DL
namespace PT
open PySem DL
theorem good_int {i : Int} : good (.int i) = true := by simp [good, flatD, SeqAt.shaped, PyData.canLay0, PyData.depth]
theorem good_none : good .none = true := by simp [good, flatD, SeqAt.shaped, PyData.canLay0, PyData.depth]
theorem good_str {x : Str} (h : PyData.strOk x = true) : good (.str x) = true := by simp [good, flatD, SeqAt.shaped, PyData.canLay0, PyData.depth, h]
theorem good_parts {d : PyData} (h : good d = true) : flatD d = true ∧ d.canLay0 = true ∧ d.depth = 0 := by
  unfold good at h
  rw [Bool.and_eq_true] at h
  refine ⟨h.1, PySem.SeqAt.canLay_of_shaped h.2, ?_⟩
  cases d with
  | none => simp [PyData.depth]
  | bool => simp [PyData.depth]
  | int => simp [PyData.depth]
  | str => simp [PyData.depth]
  | list => simp [flatD] at h
  | tuple => simp [flatD] at h
  | dict => simp [flatD] at h
/-- data that can be compared, at most n deep -/
def Lay (n : Nat) (d : PyData) : Prop := d.canLay0 = true ∧ d.depth ≤ n
theorem Lay.sh {n : Nat} {d : PyData} (h : Lay n d) (hn : n ≤ 64) : SeqAt.shaped d = true := by
  unfold SeqAt.shaped
  rw [h.1, decide_eq_true (Nat.le_trans h.2 hn)]
  rfl
theorem Lay.mono {n m : Nat} {d : PyData} (h : Lay n d) (l : n ≤ m) : Lay m d := ⟨h.1, Nat.le_trans h.2 l⟩
theorem lay_all {n : Nat} : ∀ {ds : List PyData}, (∀ d, d ∈ ds → Lay n d) → PyData.canLayAll0 ds = true ∧ PyData.depthAll ds ≤ n
  | [], _ => by simp [PyData.canLayAll0, PyData.depthAll]
  | d :: ds, h => by
    obtain ⟨h1, h2⟩ := lay_all (ds := ds) fun x hx => h x (List.mem_cons_of_mem _ hx)
    obtain ⟨h3, h4⟩ := h d List.mem_cons_self
    rw [PyData.canLayAll0, h1, h3, PyData.depthAll]
    exact ⟨rfl, by omega⟩
theorem lay_tup {n : Nat} {ds : List PyData} (h : ∀ d, d ∈ ds → Lay n d) : Lay (n + 1) (.tuple ds) := by
  obtain ⟨h1, h2⟩ := lay_all h
  exact ⟨by rw [PyData.canLay0]; exact h1, by rw [PyData.depth]; omega⟩
theorem lay_lst {n : Nat} {ds : List PyData} (h : ∀ d, d ∈ ds → Lay n d) : Lay (n + 1) (.list ds) := by
  obtain ⟨h1, h2⟩ := lay_all h
  exact ⟨by rw [PyData.canLay0]; exact h1, by rw [PyData.depth]; omega⟩
theorem lay_good {n : Nat} {d : PyData} (h : good d = true) : Lay n d := by
  obtain ⟨_, h2, h3⟩ := good_parts h
  exact ⟨h2, by omega⟩
theorem lay_good' {n : Nat} {ds : List PyData} (h : ds.all good = true) {d : PyData} (hd : d ∈ ds) : Lay n d := lay_good (List.all_eq_true.mp h d hd)
theorem lay_int {n : Nat} {i : Int} : Lay n (.int i) := lay_good good_int
theorem word_ok {t : Part} (h : ok0 t) : PyData.strOk (word t) = true := by
  cases t with
  | row => exact (by decide +kernel : PyData.strOk ("row" : Str) = true)
  | choice => exact (by decide +kernel : PyData.strOk ("choice" : Str) = true)
  | leaf x fs =>
    have hx := h.1
    simp only [isLeafW, Bool.or_eq_true] at hx
    show PyData.strOk x = true
    rcases hx with (e | e) | e <;> (have e' := eq_of_beq e; subst e'; decide +kernel)
  | one x fs p =>
    have hx := h.1
    simp only [isOneW, Bool.or_eq_true] at hx
    show PyData.strOk x = true
    rcases hx with (((e | e) | e) | e) | e <;> (have e' := eq_of_beq e; subst e'; decide +kernel)
theorem lay_enc : ∀ {h : Nat} {t : Part}, ok h t → Lay (3 * h) (enc t)
  | 0, _, o => o.elim
  | h + 1, t, o => by
    have ih : ∀ p, p ∈ kids t → Lay (3 * h) (enc p) := fun p hp => lay_enc (o.2 p hp)
    have hw : ∀ n, Lay n (.str (word t)) := fun n => lay_good (good_str (word_ok o.1))
    rw [enc_eq]
    have h0 : Lay (3 * h + 2 + 1) (.tuple (.str (word t) :: fields t)) := by
      refine lay_tup fun d hd => ?_
      rw [List.mem_cons] at hd
      rcases hd with e | hd
      · subst e
        exact hw _
      · cases t with
        | leaf x fs => exact lay_good' o.1.2.2 hd
        | row ps =>
          have e : d = .tuple (ps.map enc) := by simpa [fields] using hd
          subst e
          refine (lay_tup (n := 3 * h) fun d hd => ?_).mono (by omega)
          obtain ⟨p, hp, rfl⟩ := List.mem_map.mp hd
          exact ih p hp
        | choice m os =>
          have e : d = m ∨ d = .tuple (os.map fun o => .tuple [.int o.1, enc o.2]) := by simpa [fields] using hd
          rcases e with e | e
          · subst e
            exact lay_good o.1.1
          · subst e
            refine lay_tup (n := 3 * h + 1) fun d hd => ?_
            obtain ⟨p, hp, rfl⟩ := List.mem_map.mp hd
            refine lay_tup (n := 3 * h) fun d hd => ?_
            have e : d = .int p.1 ∨ d = enc p.2 := by simpa using hd
            rcases e with e | e
            · subst e
              exact lay_int
            · subst e
              exact ih p.2 (List.mem_map.mpr ⟨p, hp, rfl⟩)
        | one x fs p =>
          have e : d ∈ fs ∨ d = enc p := by simpa [fields] using hd
          rcases e with e | e
          · exact lay_good' o.1.2.2.1 e
          · subst e
            exact (ih p (by simp [kids])).mono (by omega)
    exact h0.mono (by omega)
theorem lay_opts {h : Nat} {os : List (Int × Part)} (ho : ∀ o, o ∈ os → ok h o.2) : Lay (3 * h + 2) (.list (os.map fun o => .tuple [.int o.1, enc o.2])) := by
  refine lay_lst (n := 3 * h + 1) fun d hd => ?_
  obtain ⟨p, hp, rfl⟩ := List.mem_map.mp hd
  refine lay_tup (n := 3 * h) fun d hd => ?_
  have e : d = .int p.1 ∨ d = enc p.2 := by simpa using hd
  rcases e with e | e
  · subst e
    exact lay_int
  · subst e
    exact lay_enc (ho p hp)
theorem lay_path {p : List Int} : Lay 1 (encP p) := by
  refine lay_tup (n := 0) fun d hd => ?_
  obtain ⟨i, _, rfl⟩ := List.mem_map.mp hd
  exact lay_int
theorem lay_places {h : Nat} {t : Part} (ho : ok h t) (hh : h ≤ 7) : Lay 24 (.list ((subs h t).map encQ)) := by
  refine lay_lst (n := 23) fun d hd => ?_
  obtain ⟨q, hq, rfl⟩ := List.mem_map.mp hd
  refine lay_tup (n := 22) fun d hd => ?_
  have e : d = encP q.1 ∨ d = enc q.2 := by simpa using hd
  rcases e with e | e
  · subst e
    exact lay_path.mono (by omega)
  · subst e
    exact (lay_enc (ok_get ho (subs_get (p := q.1) (c := q.2) hq))).mono (by omega)
end PT

set_option Elab.async false
set_option linter.all false
set_option maxRecDepth 100000
set_option maxHeartbeats 2000000
/-! Operators that a class of the text defines itself: in, ==, !=, |, &, -, +, <=. -/
namespace OWN
open PySem PySem.Spec PyProof.Rows
section
variable {M : Model} {prog : Program} {w : World} {A : Around} {E : Value → Shared → Prop} {s : Shared} {K : PySem.W.Frag} {x C f L : Addr} {ox : Obj} {od : Option Obj} {h₀ : Heap} {m : Str → Option Value} {b tb : Value}
theorem ifBound_objNe {args : List Value} {Q : Option Value → Shared → Prop} (X : K.In s.heap) (I : PySem.W.InstAt s.heap x ox C od) (hs : PySem.W.findIn K (.ref C) "__ne__" = some (some (.builtin "object.__ne__")))
    (h : wpAny M A (call (.builtin "object.__ne__") (.ref x :: args)) (fun v => Q (some v)) E s) : wpAny M A (callSpecialIfBound? (.ref x) "__ne__" args) Q E s := by
  simp only [callSpecialIfBound?, bindSpecialIfBound?]
  have found := PySem.W.looks_findIn (M := M) X hs
  refine wpAny_holding (wpAny_bind (wpAny_bind (wpAny_bind (I.type.here (found.here ?_)))))
  refine wpAny_bind (wpAny_askSetting (wpAny_ite ?_))
  have fin : wpAny M A (call (.builtin "object.__ne__") ([.ref x] ++ args) >>= fun v => pure (some v)) Q E s := wpAny_bind (wpAny_mono h (fun v s' h' => wpAny_pure h') fun _ _ h' => h')
  split
  · exact wpAny_bind (wpAny_of_eq (F.cmp_object.ne.bind _) (wpAny_pure (by exact fin)))
  · exact wpAny_tryCatch (wpAny_bind (wpAny_of_eq (F.cmp_object.ne.bind _) (wpAny_pure (by exact fin))))
/-- how object.__ne__ answers by an own == that answers a bool -/
theorem entry_ne {Q : Fin → Shared → Prop} (hu : A.units < cLine) (X : K.In s.heap) (I : PySem.W.InstAt s.heap x ox C od) (hs : PySem.W.findIn K (.ref C) "__eq__" = some (some (.ref f))) (hf : PySem.W.isFn K (.ref f) = true)
    (hcall : wpAny M A (call (.ref f) [.ref x, b]) (fun v s' => ∃ k, v = .bool k ∧ Q (.done (.ret (.bool (!k)))) s') E s) : wpAny M A (Builtin.«object.__ne__» ⟨[.ref x, b], []⟩) Q E s := by
  unfold Builtin.«object.__ne__»
  repeat (first
    | with_reducible refine wpAny_cRoomFor hu ?_
    | (refine wpAny_bind (m := callSpecialIfBound? (.ref x) (Str.ofString "__eq__") [b])
        (PySem.W.ifBound_K X I hs hf (wpAny_mono hcall (fun r s' hr => by
          obtain ⟨k, rfl, hq⟩ := hr
          repeat (first | exact wpAny_truthy_bool hq | exact wpAny_pure hq | exact hq | (refine wpAny_bind (m := truthy (.bool _)) (wpAny_truthy_bool ?_)) | wp_step)) fun _ _ err => err)))
    | wp_step)
theorem call_ne {Q : Value → Shared → Prop} (hu : A.units + 1 < cLine) (X : K.In s.heap) (I : PySem.W.InstAt s.heap x ox C od) (hm : PySem.W.mroIn K C (.type "object") = some true) (hs : PySem.W.findIn K (.ref C) "__eq__" = some (some (.ref f))) (hf : PySem.W.isFn K (.ref f) = true)
    (hcall : wpAny (model prog w) A.in1 (call (.ref f) [.ref x, b]) (fun v s' => ∃ k, v = .bool k ∧ Q (.bool (!k)) s') E s) :
    wpAny (model prog w) A (call (.builtin "object.__ne__") [.ref x, b]) Q E s :=
  wpAny_call (codeAny_call_builtin F.cmp_object.ne.plain F.cmpEntry_ne (PySem.W.check_slot F.cmpKind_ne F.cmpSplit_ne (I.type.andThen (PySem.W.looks_mroIn X hm)) (F.cmpArgs_ne _ _) (entry_ne (A := A.in1) hu X I hs hf hcall)))
theorem cmp_ne {Q : Value → Shared → Prop} (hu : A.units + 1 < cLine) (X : K.In s.heap) (I : PySem.W.InstAt s.heap x ox C od) (hb : PySem.W.Looks (model prog w) s.heap (typeOf b) tb) (hn : PySem.W.notFirst K C tb = true) (hm : PySem.W.mroIn K C (.type "object") = some true)
    (hne : PySem.W.findIn K (.ref C) "__ne__" = some (some (.builtin "object.__ne__"))) (hs : PySem.W.findIn K (.ref C) "__eq__" = some (some (.ref f))) (hf : PySem.W.isFn K (.ref f) = true)
    (hcall : wpAny (model prog w) A.in1 (call (.ref f) [.ref x, b]) (fun v s' => ∃ k, v = .bool k ∧ Q (.bool (!k)) s') E s) : wpAny (model prog w) A (richCompare .NotEq (.ref x) b) Q E s := by
  have one : wpAny (model prog w) A (tryCompare (.ref x) "__ne__" b) (fun r s' => ∃ v, r = some v ∧ Q v s') E s := by
    unfold tryCompare
    refine wpAny_bind (ifBound_objNe X I hne (call_ne hu X I hm hs hf (wpAny_mono hcall (fun v s' hv => ?_) fun _ _ e => e)))
    obtain ⟨k, rfl, hq⟩ := hv
    exact ⟨k, rfl, wpAny_pure ⟨_, rfl, hq⟩⟩
  unfold richCompare
  simp only [oneThing_ref]
  refine wpAny_holding (wpAny_bind (wpAny_cRoomFor (Nat.lt_of_succ_lt hu) ?_))
  refine wpAny_bind (I.type.here (wpAny_bind (hb.here ?_)))
  split
  · rename_i q
    have e : PySem.W.subIn K tb (.ref C) = some false := by
      rcases Bool.or_eq_true_iff.mp hn with e | e
      · rw [beq_iff_eq.mp e] at q; simp at q
      · exact beq_iff_eq.mp e
    refine wpAny_bind ((PySem.W.looks_subIn X e).here ?_)
    simp only [Bool.false_eq_true, if_false]
    refine wpAny_bind (wpAny_mono one (fun r s2 got => ?_) fun _ _ err => err)
    obtain ⟨v, rfl, hq⟩ := got
    exact wpAny_pure hq
  · refine wpAny_bind (wpAny_pure ?_)
    simp only [Bool.false_eq_true, if_false]
    refine wpAny_bind (wpAny_mono one (fun r s2 got => ?_) fun _ _ err => err)
    obtain ⟨v, rfl, hq⟩ := got
    exact wpAny_pure hq
end
end OWN
namespace L2
open PySem PySem.Spec PyProof.Rows
section
variable {X : Cx} {CX : CXT} {n : Nat} {C f : Addr} {fd : FuncData} {ps : List Str} {sp : Sp} {E : XK} {H : Hp} {s : Shared} {σ : St} {pins : List (Addr × Obj)}
/-- a def runs inside an operator -/
theorem run_own {A : Around} {Q : VK} {us : List Value} {vs : List V} (F : FnOk X.prog X.w X.K X.mg X.base CX n f fd ps sp) (hb : Binds X.K fd ps []) (hx : Passes CX X E) (hr : Room n A) (hf : A.frames = X.A.frames) (I : Inv X pins σ H s) (r : Vals vs us) (h : sp vs H Q E) :
    wpAny (model X.prog X.w) A (call (.ref f) us) (EP X pins σ Q) X.xe s := by
  have here : Env0 X.prog X.w X.K X.mg X.base A X.stack s H := { I.env0 with frames := by rw [hf]; exact I.env0.frames }
  have hl := F.len _ _ _ _ h
  refine wpAny_call (codeAny_mono (F.run A X.stack s H ⟨us, []⟩ us vs _ E hr here (by
    have := hb s us I.kIn (by rw [List.length_append, ← r.length]; simpa using hl)
    simpa using this) r h) fun r s' hq => ?_)
  cases r with
  | error e => exact hx pins σ H s e s' I hq
  | ok fl =>
    cases fl with
    | ret w => exact I.after hq
    | next => exact False.elim hq
    | brk => exact False.elim hq
    | cont => exact False.elim hq
/-- an instance of the heap, as the rules of operators want it -/
theorem at_ins {P : Program} {w : World} {h : Heap} {H : Hp} {a dx C : Addr} {fs : List (Str × V)} (hok : HOk P w H h) (e : H a = some (.ins C dx fs)) : ∃ ox od, PySem.W.InstAt h a ox C od :=
  (ins_get hok e).elim fun _ m => m.1.look.elim fun od j => ⟨_, od, j.1⟩
/-- x in y, y an instance of the class at C -/
def rInOwn (C : Addr) (sp : Sp) (E : XK) : R2 := fun x y H Q => ∃ a dx fs, y = .ref a ∧ H a = some (.ins C dx fs) ∧ sp [y, x] H (fun z H' => ∃ k, z = .bl k ∧ Q (.bl k) H') E
theorem op_inOwn (F : FnOk X.prog X.w X.K X.mg X.base CX n f fd ps sp) (hb : Binds X.K fd ps []) (hx : Passes CX X E) (hr : Room n X.A) (hs : PySem.W.findIn X.K (.ref C) "__contains__" = some (some (.ref f))) (hf : PySem.W.isFn X.K (.ref f) = true) :
    OpR X (compareOp .In) (rInOwn C sp E) := by
  intro pins s σ H x y v u Q I rx ry h
  obtain ⟨a, dx, fs, rfl, ha, q⟩ := h
  cases (show u = Value.ref a from ry)
  have ⟨_, _, J⟩ := at_ins I.hok ha
  obtain ⟨m, hF⟩ := I.fr
  refine PySem.W.in_K hF I.ok.mod.kin J hs hf (wpAny_mono (run_own F hb hx hr rfl I (us := [.ref a, v]) (vs := [.ref a, x]) (.cons rfl (.cons rx .nil)) q) (fun w s' z => ?_) fun _ _ x => x)
  obtain ⟨z', H', I', rz, k, ek, qk⟩ := z
  subst ek
  cases (show w = Value.bool k from rz)
  exact wpAny_truthy_bool ⟨.bl k, H', I', rfl, qk⟩
/-- x == y (x <= y, ..), x an instance of the class at C, y of that class too or of none of the text's -/
def rCmpOwn (K : PySem.W.Frag) (C : Addr) (sp : Sp) (E : XK) : R2 := fun x y H Q => ∃ a dx fs b dy gs, x = .ref a ∧ y = .ref b ∧ H a = some (.ins C dx fs) ∧ H b = some (.ins C dy gs) ∧ sp [x, y] H Q E
theorem op_cmpOwn {op : CmpOp} (hop : ∀ a b, compareOp op a b = richCompare op a b) (hs : PySem.W.findIn X.K (.ref C) (cmpInfo op).2.1 = some (some (.ref f))) (hf : PySem.W.isFn X.K (.ref f) = true)
    (F : FnOk X.prog X.w X.K X.mg X.base CX n f fd ps sp) (hb : Binds X.K fd ps []) (hr : Room n X.A) (hx : Passes CX X E) : OpR X (compareOp op) (rCmpOwn X.K C sp E) := by
  intro pins s σ H x y v u Q I rx ry h
  obtain ⟨a, dx, fs, b, dy, gs, rfl, rfl, ha, hb', q⟩ := h
  cases (show v = Value.ref a from rx)
  cases (show u = Value.ref b from ry)
  have ⟨_, _, J⟩ := at_ins I.hok ha
  have ⟨_, _, J'⟩ := at_ins I.hok hb'
  obtain ⟨m, hF⟩ := I.fr
  rw [hop]
  refine PySem.W.cmp_K (op := op) (tb := .ref C) hr.units0 hF I.ok.mod.kin J J'.type (by simp [PySem.W.notFirst]) hs hf ?_
  refine wpAny_mono (run_own F hb hx hr rfl I (us := [.ref a, .ref b]) (vs := [.ref a, .ref b]) (.cons rfl (.cons rfl .nil)) q) (fun w s' z => ?_) fun _ _ x => x
  obtain ⟨z', H', I', rz, qz⟩ := z
  exact SlX.cmpback rz ⟨z', H', I', rz, qz⟩
/-- x != y by the own == -/
def rNeOwn (C : Addr) (sp : Sp) (E : XK) : R2 := fun x y H Q => ∃ a dx fs b dy gs, x = .ref a ∧ y = .ref b ∧ H a = some (.ins C dx fs) ∧ H b = some (.ins C dy gs) ∧ sp [x, y] H (fun z H' => ∃ k, z = .bl k ∧ Q (.bl (!k)) H') E
theorem op_neOwn (hm : PySem.W.mroIn X.K C (.type "object") = some true) (hne : PySem.W.findIn X.K (.ref C) "__ne__" = some (some (.builtin "object.__ne__"))) (hs : PySem.W.findIn X.K (.ref C) "__eq__" = some (some (.ref f))) (hf : PySem.W.isFn X.K (.ref f) = true)
    (F : FnOk X.prog X.w X.K X.mg X.base CX n f fd ps sp) (hb : Binds X.K fd ps []) (hr : Room (n + 1) X.A) (hx : Passes CX X E) : OpR X (compareOp .NotEq) (rNeOwn C sp E) := by
  intro pins s σ H x y v u Q I rx ry h
  obtain ⟨a, dx, fs, b, dy, gs, rfl, rfl, ha, hb', q⟩ := h
  cases (show v = Value.ref a from rx)
  cases (show u = Value.ref b from ry)
  have ⟨_, _, J⟩ := at_ins I.hok ha
  have ⟨_, _, J'⟩ := at_ins I.hok hb'
  show wpAny (model X.prog X.w) X.A (richCompare .NotEq (.ref a) (.ref b)) _ _ _
  refine OWN.cmp_ne (tb := .ref C) (hr.in1.units0) I.kIn J J'.type (by simp [PySem.W.notFirst]) hm hne hs hf ?_
  refine wpAny_mono (run_own (A := X.A.in1) F hb hx hr.in1 rfl I (us := [.ref a, .ref b]) (vs := [.ref a, .ref b]) (.cons rfl (.cons rfl .nil)) q) (fun w s' z => ?_) fun _ _ x => x
  obtain ⟨z', H', I', rz, k, ek, qk⟩ := z
  subst ek
  cases (show w = Value.bool k from rz)
  exact ⟨k, rfl, .bl (!k), H', I', rfl, qk⟩
/-- x | y, x & y, .., x an instance of the class at C -/
def rBinOwn (C : Addr) (sp : Sp) (E : XK) : R2 := fun x y H Q => ∃ a dx fs b dy gs, x = .ref a ∧ y = .ref b ∧ H a = some (.ins C dx fs) ∧ H b = some (.ins C dy gs) ∧ sp [x, y] H Q E
theorem op_binOwn {op : Operator} (hc : PySem.W.selfFirst X.K C = true) (hs : PySem.W.findIn X.K (.ref C) (PySem.dunder op.info.2) = some (some (.ref f))) (hf : PySem.W.isFn X.K (.ref f) = true)
    (F : FnOk X.prog X.w X.K X.mg X.base CX n f fd ps sp) (hb : Binds X.K fd ps []) (hr : Room n X.A) (hx : Passes CX X E) : OpR X (binaryOp op) (rBinOwn C sp E) := by
  intro pins s σ H x y v u Q I rx ry h
  obtain ⟨a, dx, fs, b, dy, gs, rfl, rfl, ha, hb', q⟩ := h
  cases (show v = Value.ref a from rx)
  cases (show u = Value.ref b from ry)
  have ⟨_, _, J⟩ := at_ins I.hok ha
  have ⟨_, _, J'⟩ := at_ins I.hok hb'
  obtain ⟨m, hF⟩ := I.fr
  refine PySem.W.binop_K hF I.ok.mod.kin J J'.type hc hs hf ?_
  refine wpAny_mono (run_own F hb hx hr rfl I (us := [.ref a, .ref b]) (vs := [.ref a, .ref b]) (.cons rfl (.cons rfl .nil)) q) (fun w s' z => ?_) fun _ _ x => x
  obtain ⟨z', H', I', rz, qz⟩ := z
  exact SlX.cmpback rz ⟨z', H', I', rz, qz⟩
end
end L2

set_option Elab.async false
set_option linter.all false
set_option maxRecDepth 100000
set_option maxHeartbeats 2000000
/-! isinstance on data. -/
namespace DL
open PySem PySem.Spec PyProof.Rows L2 StX
def tyN : PyData → String
  | .none => "NoneType"
  | .bool _ => "bool"
  | .int _ => "int"
  | .str _ => "str"
  | .list _ => "list"
  | .tuple _ => "tuple"
  | .dict _ => "dict"
theorem ty_of {K : PySem.W.Frag} {B H : Hp} {v : V} {d : PyData} (e : Ex B H) (h : Dt K B v d) : TyX K H v (.type (tyN d)) := by
  cases h with
  | non => exact .base .non
  | bl b => exact .base (.bl b)
  | int i => exact .base (.int i)
  | str x => exact .base (.str x)
  | lst h1 h2 => exact .base (.lst (e _ _ h1))
  | tup h1 h2 =>
    rcases h1 with (h1 | ⟨o, h1⟩) | ⟨o, its, n, h1, h3, _⟩
    · exact .base (.tup (e _ _ h1))
    · exact .fTuple (e _ _ h1)
    · exact .kTuple h1 h3
  | dct h => exact .base (.dK (e _ _ h))
def isIntD : PyData → Bool
  | .int _ => true
  | .bool _ => true
  | _ => false
def isBoolD : PyData → Bool
  | .bool _ => true
  | _ => false
def isListD : PyData → Bool
  | .list _ => true
  | _ => false
def isTupD : PyData → Bool
  | .tuple _ => true
  | _ => false
theorem kit_int : ∀ (d : PyData), kitB (tyN d) "int" = some (isIntD d)
  | .none => (by decide +kernel : kitB "NoneType" "int" = some false)
  | .bool _ => (by decide +kernel : kitB "bool" "int" = some true)
  | .int _ => (by decide +kernel : kitB "int" "int" = some true)
  | .str _ => (by decide +kernel : kitB "str" "int" = some false)
  | .list _ => (by decide +kernel : kitB "list" "int" = some false)
  | .tuple _ => (by decide +kernel : kitB "tuple" "int" = some false)
  | .dict _ => (by decide +kernel : kitB "dict" "int" = some false)
theorem kit_bool : ∀ (d : PyData), kitB (tyN d) "bool" = some (isBoolD d)
  | .none => (by decide +kernel : kitB "NoneType" "bool" = some false)
  | .bool _ => (by decide +kernel : kitB "bool" "bool" = some true)
  | .int _ => (by decide +kernel : kitB "int" "bool" = some false)
  | .str _ => (by decide +kernel : kitB "str" "bool" = some false)
  | .list _ => (by decide +kernel : kitB "list" "bool" = some false)
  | .tuple _ => (by decide +kernel : kitB "tuple" "bool" = some false)
  | .dict _ => (by decide +kernel : kitB "dict" "bool" = some false)
theorem kit_list : ∀ (d : PyData), kitB (tyN d) "list" = some (isListD d)
  | .none => (by decide +kernel : kitB "NoneType" "list" = some false)
  | .bool _ => (by decide +kernel : kitB "bool" "list" = some false)
  | .int _ => (by decide +kernel : kitB "int" "list" = some false)
  | .str _ => (by decide +kernel : kitB "str" "list" = some false)
  | .list _ => (by decide +kernel : kitB "list" "list" = some true)
  | .tuple _ => (by decide +kernel : kitB "tuple" "list" = some false)
  | .dict _ => (by decide +kernel : kitB "dict" "list" = some false)
theorem kit_tup : ∀ (d : PyData), kitB (tyN d) "tuple" = some (isTupD d)
  | .none => (by decide +kernel : kitB "NoneType" "tuple" = some false)
  | .bool _ => (by decide +kernel : kitB "bool" "tuple" = some false)
  | .int _ => (by decide +kernel : kitB "int" "tuple" = some false)
  | .str _ => (by decide +kernel : kitB "str" "tuple" = some false)
  | .list _ => (by decide +kernel : kitB "list" "tuple" = some false)
  | .tuple _ => (by decide +kernel : kitB "tuple" "tuple" = some true)
  | .dict _ => (by decide +kernel : kitB "dict" "tuple" = some false)
section
variable {K : PySem.W.Frag} {B O : Hp} {G : List SD} {te : TE} {d : PyData}
/-- isinstance(x, T), T a built-in class -/
theorem ev_isi {n : String} {b : Bool} (h : EvD K B O G te d) (k : kitB (tyN d) n = some b) : EvD K B O G (tCB (rIsi K) (tCons te (tCons (tC (.ty n)) tNil))) (.bool b) := fun B1 O1 σ H e1 o s Q q =>
  h B1 O1 σ H e1 o s _ fun v B2 H2 e2 w2 d2 => ⟨v, .ty n, _, _, b, rfl, .ty n, ty_of w2.b d2, kit_ty k, q _ B2 H2 e2 w2 (.bl b)⟩
/-- isinstance(x, (list, tuple)) -/
theorem ev_isiT {b : Bool} (h : EvD K B O G te d) (e : (isListD d || isTupD d) = b) : EvD K B O G (tCB (rIsiT K) (tCons te (tCons (tTup (tCons (tC (.ty "list")) (tCons (tC (.ty "tuple")) tNil))) tNil))) (.bool b) := fun B1 O1 σ H e1 o s Q q =>
  h B1 O1 σ H e1 o s _ fun v B2 H2 e2 w2 d2 => ⟨by decide, fun p hp => by
    refine ⟨v, p, [.ty "list", .ty "tuple"], _, [.type "list", .type "tuple"], b, rfl, upd_same, .cons (.ty _) (.cons (.ty _) .nil), ty_of (B := upd B2 p (.tup [.ty "list", .ty "tuple"])) (w2.newB hp).b (dp_ex (Ex.new (w2.fb hp)) _ _ d2), ?_, q _ (upd B2 p (.tup [.ty "list", .ty "tuple"])) _ (e2.trans (Ex.new (w2.fb hp))) (w2.newB hp) (.bl b)⟩
    refine kitAny_cons (kit_ty (kit_list d)) (fun h1 => ?_) (fun h1 => by rw [← e, h1]; rfl)
    refine kitAny_cons (kit_ty (kit_tup d)) (fun h2 => ?_) (fun h2 => by rw [← e, h1, h2]; rfl)
    rw [← e, h1, h2]
    exact kitAny_nil⟩
end
section
variable (K : PySem.W.Frag) {X : Cx}
theorem call_isiK' (h : X.K = K := by rfl) : CallR X (.builtin "isinstance") (rIsi K) := h ▸ call_isi
theorem call_isiTK (h : X.K = K := by rfl) : CallR X (.builtin "isinstance") (rIsiT K) := h ▸ call_isiT
end
/-- whole numbers that are no bool, at least lo -/
def whole : PyData → Option Int
  | .int i => some i
  | _ => none
theorem whole_int {d : PyData} : (isIntD d && !isBoolD d) = (whole d).isSome := by cases d <;> rfl
end DL

set_option Elab.async false
set_option linter.all false
set_option maxRecDepth 100000
set_option maxHeartbeats 4000000
namespace Toy
open PySem PySem.Spec PyProof.Rows L2 StX DL

def topS (i : Nat) : Stmt := PySem.Challenge.pw_withinlimits_k51_operators_of_sets.main.body.getD i (.Pass ⟨0, 0, 0, 0⟩)
abbrev s_is_integer : Stmt := topS 6
abbrev N_sc_is_integer : List Str := ["value"]
theorem sc_is_integer : FnScope N_sc_is_integer ["value"] (defScope s_is_integer) := ⟨rfl, rfl, rfl, by decide +kernel, rfl, by decide +kernel, by decide +kernel⟩
abbrev s_is_from : Stmt := topS 7
abbrev N_sc_is_from : List Str := ["value", "low", "high"]
theorem sc_is_from : FnScope N_sc_is_from ["value", "low", "high"] (defScope s_is_from) := ⟨rfl, rfl, rfl, by decide +kernel, rfl, by decide +kernel, by decide +kernel⟩
abbrev s_common_divisor : Stmt := topS 8
abbrev N_sc_common_divisor : List Str := ["one", "two", "greatest", "rest"]
theorem sc_common_divisor : FnScope N_sc_common_divisor ["one", "two"] (defScope s_common_divisor) := ⟨rfl, rfl, rfl, by decide +kernel, rfl, by decide +kernel, by decide +kernel⟩
abbrev s_common_multiple : Stmt := topS 9
abbrev N_sc_common_multiple : List Str := ["one", "two"]
theorem sc_common_multiple : FnScope N_sc_common_multiple ["one", "two"] (defScope s_common_multiple) := ⟨rfl, rfl, rfl, by decide +kernel, rfl, by decide +kernel, by decide +kernel⟩
abbrev s_check_size : Stmt := topS 13
abbrev N_sc_check_size : List Str := ["number", "low", "place"]
theorem sc_check_size : FnScope N_sc_check_size ["number", "low", "place"] (defScope s_check_size) := ⟨rfl, rfl, rfl, by decide +kernel, rfl, by decide +kernel, by decide +kernel⟩
abbrev s_check_numbers : Stmt := topS 14
abbrev N_sc_check_numbers : List Str := ["numbers", "bound", "place", "low", "number"]
theorem sc_check_numbers : FnScope N_sc_check_numbers ["numbers", "bound", "place"] (defScope s_check_numbers) := ⟨rfl, rfl, rfl, by decide +kernel, rfl, by decide +kernel, by decide +kernel⟩
abbrev s_marks_for : Stmt := topS 15
abbrev N_sc_marks_for : List Str := ["numbers", "many", "known", "number"]
theorem sc_marks_for : FnScope N_sc_marks_for ["numbers", "many"] (defScope s_marks_for) := ⟨rfl, rfl, rfl, by decide +kernel, rfl, by decide +kernel, by decide +kernel⟩
abbrev s_least_period : Stmt := topS 16
abbrev N_sc_least_period : List Str := ["marks", "period"]
theorem sc_least_period : FnScope N_sc_least_period ["marks"] (defScope s_least_period) := ⟨rfl, rfl, rfl, by decide +kernel, rfl, by decide +kernel, by decide +kernel⟩
abbrev s_least_start : Stmt := topS 17
abbrev N_sc_least_start : List Str := ["marks", "cycle", "start"]
theorem sc_least_start : FnScope N_sc_least_start ["marks", "cycle"] (defScope s_least_start) := ⟨rfl, rfl, rfl, by decide +kernel, rfl, by decide +kernel, by decide +kernel⟩
abbrev s_marks_of : Stmt := topS 18
abbrev N_sc_marks_of : List Str := ["lengths", "start", "period", "cycle", "between", "number"]
theorem sc_marks_of : FnScope N_sc_marks_of ["lengths", "start", "period"] (defScope s_marks_of) := ⟨rfl, rfl, rfl, by decide +kernel, rfl, by decide +kernel, by decide +kernel⟩
abbrev s_set_of : Stmt := topS 19
abbrev N_sc_set_of : List Str := ["marks", "start", "period", "early", "number", "rest"]
theorem sc_set_of : FnScope N_sc_set_of ["marks", "start"] (defScope s_set_of) := ⟨rfl, rfl, rfl, by decide +kernel, rfl, by decide +kernel, by decide +kernel⟩
abbrev s_paired : Stmt := topS 20
abbrev N_sc_paired : List Str := ["one", "two", "period", "start"]
theorem sc_paired : FnScope N_sc_paired ["one", "two"] (defScope s_paired) := ⟨rfl, rfl, rfl, by decide +kernel, rfl, by decide +kernel, by decide +kernel⟩
abbrev s_raised : Stmt := topS 21
abbrev N_sc_raised : List Str := ["lengths", "many", "early", "rests", "number", "rest"]
theorem sc_raised : FnScope N_sc_raised ["lengths", "many"] (defScope s_raised) := ⟨rfl, rfl, rfl, by decide +kernel, rfl, by decide +kernel, by decide +kernel⟩
abbrev s_lowered : Stmt := topS 22
abbrev N_sc_lowered : List Str := ["lengths", "many", "start", "early", "rests", "number", "rest"]
theorem sc_lowered : FnScope N_sc_lowered ["lengths", "many"] (defScope s_lowered) := ⟨rfl, rfl, rfl, by decide +kernel, rfl, by decide +kernel, by decide +kernel⟩
abbrev s_law_pool : Stmt := topS 25
abbrev N_sc_law_pool : List Str := ["script", "k", "cell", "size", "seed"]
theorem sc_law_pool : FnScope N_sc_law_pool ["script", "k"] (defScope s_law_pool) := ⟨rfl, rfl, rfl, by decide +kernel, rfl, by decide +kernel, by decide +kernel⟩
abbrev s_law_draw : Stmt := topS 26
abbrev N_sc_law_draw : List Str := ["pool", "count", "found"]
theorem sc_law_draw : FnScope N_sc_law_draw ["pool", "count"] (defScope s_law_draw) := ⟨rfl, rfl, rfl, by decide +kernel, rfl, by decide +kernel, by decide +kernel⟩
abbrev s_law_some : Stmt := topS 27
abbrev N_sc_law_some : List Str := ["pool", "size", "found", "number"]
theorem sc_law_some : FnScope N_sc_law_some ["pool", "size"] (defScope s_law_some) := ⟨rfl, rfl, rfl, by decide +kernel, rfl, by decide +kernel, by decide +kernel⟩
abbrev s_law_fields : Stmt := topS 28
abbrev N_sc_law_fields : List Str := ["pool", "first", "early", "rhythm"]
theorem sc_law_fields : FnScope N_sc_law_fields ["pool"] (defScope s_law_fields) := ⟨rfl, rfl, rfl, by decide +kernel, rfl, by decide +kernel, by decide +kernel⟩
abbrev s_law_has : Stmt := topS 29
abbrev N_sc_law_has : List Str := ["fields", "number"]
theorem sc_law_has : FnScope N_sc_law_has ["fields", "number"] (defScope s_law_has) := ⟨rfl, rfl, rfl, by decide +kernel, rfl, by decide +kernel, by decide +kernel⟩
abbrev s_law_members : Stmt := topS 30
abbrev N_sc_law_members : List Str := ["lengths", "number"]
theorem sc_law_members : FnScope N_sc_law_members ["lengths"] (defScope s_law_members) := ⟨rfl, rfl, rfl, by decide +kernel, rfl, by decide +kernel, by decide +kernel⟩
abbrev s_law_made : Stmt := topS 31
abbrev N_sc_law_made : List Str := ["fields"]
theorem sc_law_made : FnScope N_sc_law_made ["fields"] (defScope s_law_made) := ⟨rfl, rfl, rfl, by decide +kernel, rfl, by decide +kernel, by decide +kernel⟩
abbrev s_law_signs : Stmt := topS 32
abbrev N_sc_law_signs : List Str := ["one", "two", "a", "b", "ones", "twos", "others", "either", "is_in", "number"]
theorem sc_law_signs : FnScope N_sc_law_signs ["one", "two"] (defScope s_law_signs) := ⟨rfl, rfl, rfl, by decide +kernel, rfl, by decide +kernel, by decide +kernel⟩
abbrev s_law_shifts : Stmt := topS 33
abbrev N_sc_law_shifts : List Str := ["fields", "many", "a", "ones", "up", "held", "number"]
theorem sc_law_shifts : FnScope N_sc_law_shifts ["fields", "many"] (defScope s_law_shifts) := ⟨rfl, rfl, rfl, by decide +kernel, rfl, by decide +kernel, by decide +kernel⟩
abbrev s_law_answer : Stmt := topS 34
abbrev N_sc_law_answer : List Str := ["a", "many", "kind", "e"]
theorem sc_law_answer : FnScope N_sc_law_answer ["a", "many", "kind"] (defScope s_law_answer) := ⟨rfl, rfl, rfl, by decide +kernel, rfl, by decide +kernel, by decide +kernel⟩
abbrev s_law_refused : Stmt := topS 35
abbrev N_sc_law_refused : List Str := ["a", "pool", "below", "edge", "large", "kind"]
theorem sc_law_refused : FnScope N_sc_law_refused ["a", "pool"] (defScope s_law_refused) := ⟨rfl, rfl, rfl, by decide +kernel, rfl, by decide +kernel, by decide +kernel⟩
abbrev s_law_joined : Stmt := topS 36
abbrev N_sc_law_joined : List Str := ["one", "other", "kind", "e"]
theorem sc_law_joined : FnScope N_sc_law_joined ["one", "other", "kind"] (defScope s_law_joined) := ⟨rfl, rfl, rfl, by decide +kernel, rfl, by decide +kernel, by decide +kernel⟩
abbrev s_law_periods_right : Stmt := topS 37
abbrev N_sc_law_periods_right : List Str := ["rest", "one", "other", "kind"]
theorem sc_law_periods_right : FnScope N_sc_law_periods_right ["rest"] (defScope s_law_periods_right) := ⟨rfl, rfl, rfl, by decide +kernel, rfl, by decide +kernel, by decide +kernel⟩
abbrev s_law : Stmt := topS 38
abbrev N_sc_law : List Str := ["script", "pool", "one", "two"]
theorem sc_law : FnScope N_sc_law ["script"] (defScope s_law) := ⟨rfl, rfl, rfl, by decide +kernel, rfl, by decide +kernel, by decide +kernel⟩

/-- the built-ins that the text calls, and its constants -/
structure Txt (K : PySem.W.Frag) (mg : Str → Option Value) : Prop where
  b_len : mg "len" = none
  b_list : mg "list" = none
  b_tuple : mg "tuple" = none
  b_int : mg "int" = none
  b_abs : mg "abs" = none
  b_bool : mg "bool" = none
  b_range : mg "range" = none
  b_isinstance : mg "isinstance" = none
  b_ValueError : mg "ValueError" = none
  g_MOST : ∃ t, mg "MOST" = some (.int 5000 t)
/-- a def with defaults that stands at its name -/
structure AtD (K : PySem.W.Frag) (mg : Str → Option Value) (x : Str) (st : Stmt) (ps : List Str) (dvs : List V) (f : Addr) (fd : FuncData) : Prop where
  fn : FunD K x x (defArgs st) (defBody st) (defScope st) dvs [] f fd
  mg : mg x = some (.ref f)
  b0 : Binds K fd ps []
  b1 : ∃ ds, Vals dvs ds ∧ Binds K fd ps ds
section
variable {P : Program} {w : World} {K : PySem.W.Frag} {mg : Str → Option Value} {base : Heap}
/-- a def that stands at its name, its last parameters with defaults, and its promise -/
structure CalD (P : Program) (w : World) (K : PySem.W.Frag) (mg : Str → Option Value) (base : Heap) (k : Nat) (x : Str) (ps : List Str) (dvs : List V) (sp : Sp) : Prop where
  ex : ∃ f fd ds, FnOk P w K mg base CX0 k f fd ps sp ∧ mg x = some (.ref f) ∧ PySem.W.keepIn K (.ref f) = true ∧ Binds K fd ps [] ∧ Vals dvs ds ∧ Binds K fd ps ds
theorem AtD.cal {x : Str} {st : Stmt} {ps : List Str} {dvs : List V} {f : Addr} {fd : FuncData} {k : Nat} {sp : Sp} (a : AtD K mg x st ps dvs f fd) (h : FnOk P w K mg base CX0 k f fd ps sp) : CalD P w K mg base k x ps dvs sp := by
  obtain ⟨ds, h1, h2⟩ := a.b1
  exact ⟨f, fd, ds, h, a.mg, a.fn.kp, a.b0, h1, h2⟩
theorem CalD.cal {x : Str} {ps : List Str} {dvs : List V} {k : Nat} {sp : Sp} (c : CalD P w K mg base k x ps dvs sp) : Cal P w K mg base k x ps sp := by
  obtain ⟨f, fd, ds, h, m, kp, b0, _, _⟩ := c.ex
  exact ⟨f, fd, h, m, kp, b0⟩
theorem ok_fnD {x : Str} {st : Stmt} {f : Addr} {fd : FuncData} {N ps : List Str} {dvs : List V} {k : Nat} {R : List PyData → PyData → Prop} (F : FunD K x x (defArgs st) (defBody st) (defScope st) dvs [] f fd) (S : FnScope N ps (defScope st)) (hl : ∀ ds d, R ds d → ds.length = ps.length)
    (hb : ∀ (cdv : Value) (A : Around) (outer : List Env) (s : Shared) (H0 : Hp) (E : XK), Room k (A.deeper (envOfC x (defScope st) s.heap.objs.size f cdv)) → ∀ ds d, R ds d →
      ∃ t, PSs (cxOf CX0 P w K mg base N x (defScope st) f cdv A outer s H0 E).nox (defBody st) t ∧
        ∀ B O σ H (Q : VK), Sta K B O (gOf ds (N.length - ps.length)) σ H → (∀ v B' H', Ex B B' → W B' O H' → Dt K B' v d → Q v H') → t { nx := fun _ H' => Q .non H', rt := Q } σ H) :
    FnOk P w K mg base CX0 (k + 1) f fd ps (SpR K R) := by
  refine F.ok S (fun vs H Q E h => ?_) (fun cdv A outer s H vs Q E hr h => ?_)
  · obtain ⟨B, O, ds, d, _, h2, h3, _⟩ := h
    rw [dps_len h2]
    exact hl ds d h3
  · obtain ⟨B, O, ds, d, h1, h2, h3, k⟩ := h
    obtain ⟨t, ht, hq⟩ := hb cdv A outer s H E hr ds d h3
    refine ⟨t, ht.nox, hq B O _ H Q ⟨h1, ?_⟩ k⟩
    have e := slots_start h2 (N.length - ps.length)
    have hl' : vs.length = ps.length := by rw [dps_len h2]; exact hl ds d h3
    unfold L2.start
    rw [hl']
    exact e
end
theorem pe_calD {X : Cx} {x : Str} {ps : List Str} {dvs : List V} {sp : Sp} {k j : Nat} {p pos : Pos} {e : Expr} {es : List Expr} {t : TA} (C : CalD X.prog X.w X.K X.mg X.base k x ps dvs sp) (hr : Room j X.A) (hk : k ≤ j) (hg : Gl X x) (ha : PA X (e :: es) t) (hd : (x == ("__debug__" : Str)) = false := by decide)
    (he : starEach (e :: es) X.env = (false, eval e X.env) :: starEach es X.env := by rfl) (hpl : (backTo pos (starEach es X.env)).any (·.1) = false := by rfl) :
    PE X (.Call (.Name x p) (e :: es) [] pos) (tCall sp dvs E0 t) := by
  obtain ⟨f, fd, ds, h1, h2, h3, _, h4, h5⟩ := C.ex
  exact pe_call (h1.mono hk) hr hg h2 h3 h5 h4 pass0 ha hd he hpl
theorem ev_callD {K : PySem.W.Frag} {B O : Hp} {G : List SD} {R : List PyData → PyData → Prop} {ds es : List PyData} {dvs : List V} {d : PyData} {t : TA} {E : XK} (h : EvA K B O G t ds) (hv : ∀ B', DtAll K B' dvs es) (hr : R (ds ++ es) d) : EvD K B O G (tCall (SpR K R) dvs E t) d := fun B1 O1 σ H e o s Q q =>
  h B1 O1 σ H e o s _ fun vs B2 H2 e2 w2 d2 => ⟨B2, O1, ds ++ es, d, w2, dps_app d2 (hv B2), hr, fun v B3 H3 e3 w3 d3 => q v B3 H3 (e2.trans e3) w3 d3⟩
end Toy

set_option Elab.async false
set_option linter.all false
set_option maxRecDepth 100000
set_option maxHeartbeats 4000000
namespace Toy
open PySem PySem.Spec PyProof.Rows L2 StX DL
section
variable {P : Program} {w : World} {K : PySem.W.Frag} {mg : Str → Option Value} {base : Heap}


/-- an integer that is no bool -/
def isWhole (d : PyData) : Bool := isIntD d && !isBoolD d
theorem whole_cases {d : PyData} (h : isWhole d = true) : ∃ i, d = .int i := by
  cases d with
  | int i => exact ⟨i, rfl⟩
  | none => cases h
  | bool => cases h
  | str => cases h
  | list => cases h
  | tuple => cases h
  | dict => cases h
def R_isint (ds : List PyData) (d : PyData) : Prop := ∃ x, ds = [x] ∧ d = .bool (isWhole x)
theorem ok_is_integer {f : Addr} {fd : FuncData} (T : Txt K mg) (a : At K mg "is_integer" s_is_integer ["value"] f fd) : FnOk P w K mg base CX0 2 f fd ["value"] (SpR K R_isint) := by
  refine ok_fn a.fn sc_is_integer (by rintro ds d ⟨x, rfl, _⟩; rfl) fun cdv A outer s H0 E hr ds d ⟨x, e1, e2⟩ => ?_
  subst e1 e2
  refine ⟨_, (pss_one (ps_ret (pe_and (pe_callB (call_isiK' K) (by rfl) T.b_isinstance (by decide +kernel) (pa_cons (pv 0) (pa_cons (pe_bltn (v := .ty "int") (by rfl) T.b_int (by decide +kernel) rfl) pa_nil))) (pe_one (pe_not (pe_callB (call_isiK' K) (by rfl) T.b_isinstance (by decide +kernel) (pa_cons (pv 0) (pa_cons (pe_bltn (v := .ty "bool") (by rfl) T.b_bool (by decide +kernel) rfl) pa_nil)))))))), fun B O σ H Q st q => ?_⟩
  refine s_ret st (ev_andV (ev_isi (ev_var rfl) (kit_int x)) fun _ => ev_notV (ev_isi (ev_var rfl) (kit_bool x))) fun v B' H' e w d => ?_
  exact q v B' H' e w d
def encO : Option Int → PyData
  | none => .none
  | some i => .int i
def under (hi : Option Int) (i : Int) : Bool := match hi with
  | none => true
  | some h => decide (i ≤ h)
/-- from lo on, at most hi -/
def inFrom (d : PyData) (lo : Int) (hi : Option Int) : Bool := match d with
  | .int i => decide (lo ≤ i) && under hi i
  | _ => false
theorem inFrom_not {d : PyData} {lo : Int} {hi : Option Int} (h : isWhole d = false) : inFrom d lo hi = false := by
  cases d with
  | int i => cases h
  | none => rfl
  | bool => rfl
  | str => rfl
  | list => rfl
  | tuple => rfl
  | dict => rfl
def R_from (ds : List PyData) (d : PyData) : Prop := ∃ x lo hi, ds = [x, .int lo, encO hi] ∧ d = .bool (inFrom x lo hi)
theorem ok_is_from {f : Addr} {fd : FuncData} (T : Txt K mg) (C_is_integer : Cal P w K mg base 2 "is_integer" ["value"] (SpR K R_isint)) (a : AtD K mg "is_from" s_is_from ["value", "low", "high"] [.non] f fd) : FnOk P w K mg base CX0 4 f fd ["value", "low", "high"] (SpR K R_from) := by
  refine ok_fnD a.fn sc_is_from (by rintro ds d ⟨x, lo, hi, rfl, _⟩; rfl) fun cdv A outer s H0 E hr ds d ⟨x, lo, hi, e1, e2⟩ => ?_
  subst e1 e2
  refine ⟨_, (pss_one (ps_ret (pe_and (pe_cal C_is_integer hr (by omega) (by rfl) (pa_cons (pv 0) pa_nil)) (pe_and (pe_cmpR op_ge (pv 0) (pv 1) (nomark _)) (pe_one (pe_or (pe_cmpR op_isN (pv 2) pe_non (nomark _)) (pe_one (pe_cmpR op_le (pv 0) (pv 2) (nomark _))))))))), fun B O σ H Q st q => ?_⟩
  cases hw : isWhole x with
  | false =>
    rw [inFrom_not hw] at q
    refine s_ret st (ev_andV (b := true) (ev_is (ev_call (ea_cons (ev_var rfl) ea_nil) ⟨x, rfl, rfl⟩) (congrArg PyData.bool hw)) (fun z => Bool.noConfusion z)) fun v B' H' e w d => ?_
    exact q v B' H' e w d
  | true =>
    obtain ⟨i, rfl⟩ := whole_cases hw
    refine s_ret st (ev_andV (ev_is (ev_call (ea_cons (ev_var rfl) ea_nil) ⟨_, rfl, rfl⟩) (congrArg PyData.bool hw)) fun _ => ev_andV (ev_op (ev_var rfl) (ev_var rfl) rd_B0) fun h2 => ev_orV (a := hi.isNone) (ev_isNone (ev_var rfl) ev_non (by cases hi <;> rfl)) (b := under hi i) fun h3 => ?_) fun v B' H' e w d => ?_
    · cases hi with
      | none => cases h3
      | some h => exact ev_op (ev_var rfl) (ev_var rfl) rd_B0
    · refine q v B' H' e w ?_
      have e3 : inFrom (.int i) lo hi = (true && (decide (lo ≤ i) && (hi.isNone || under hi i))) := by
        cases hi <;> simp [inFrom, under]
      rw [e3]
      exact d

end
end Toy
set_option Elab.async false
set_option linter.all false
set_option maxRecDepth 100000
set_option maxHeartbeats 2000000
/-! Defs of data that may raise an own error with one field. -/
namespace DL
open PySem PySem.Spec PyProof.Rows L2 StX
/-- what __init__ of such an error does: self.f = y -/
def spInitE (C : Addr) (f : Str) : Sp := fun vs H Q _ => ∃ a y, vs = [.ref a, y] ∧ H a = some (exo a C none) ∧ ∀ dx, H dx = none → dx ≠ a → Q .non (upd (upd H dx (exd dx [(f, y)])) a (exo a C (some dx)))
theorem init_end {H1 : Hp} {a dx C : Addr} {f : Str} {y : V} (ha : H1 a = none) (hd : dx ≠ a) : upd (L2.del (upd (upd (upd H1 a (exo a C none)) dx (exd dx [(f, y)])) a (exo a C (some dx))) a) dx (.xd [(f, y)]) = upd H1 dx (.xd [(f, y)]) := by
  funext b
  by_cases h1 : b = dx
  · subst h1
    rw [upd_same, upd_same]
  · rw [upd_ne h1, upd_ne h1]
    by_cases h2 : b = a
    · subst h2
      rw [L2.del_same, ha]
    · rw [L2.del_ne h2, upd_ne h2, upd_ne h1, upd_ne h2]
section
variable {P : Program} {w : World} {K : PySem.W.Frag} {mg : Str → Option Value} {base : Heap}
theorem ok_initE {qual a f : Str} {st : Stmt} {fI C : Addr} {fd : FuncData} {p1 p2 p3 p4 : Pos} (F : Fun K "__init__" qual st fI fd) (S : FnScope ["self", a] ["self", a] (defScope st)) (hb : defBody st = [.Assign [.Attribute (.Name "self" p1) f p2] (.Name a p3) p4]) (T : OexC K C) (hno : PySem.W.findIn K (.ref C) f = some none)
    (v0 : Vis (defScope st) "self") (v1 : Vis (defScope st) a) (hsw : ∀ env, swapsWith (.Name a p3) (some (.Attribute (.Name "self" p1) f p2)) p4.line env = pure false) (ha1 : (a == ("__debug__" : Str)) = false) (ha2 : (a == ("__classdict__" : Str)) = false) :
    FnOk P w K mg base CX0 1 fI fd ["self", a] (spInitE C f) := by
  refine F.ok S (fun vs H Q E h => ?_) (fun cdv A outer s H vs Q E hr h => ?_)
  · obtain ⟨x, y, rfl, _⟩ := h
    rfl
  · obtain ⟨x, y, rfl, hx, q⟩ := h
    refine ⟨_, by rw [hb]; exact pss_one (ps_ost (pe_var (i := 0) rfl v0) (pe_var (i := 1) rfl v1 (hd := ha1) (hcd := ha2)) (hsw _)), ?_⟩
    exact ⟨y, rfl, .ref x, rfl, x, C, rfl, T, hno, .inl ⟨hx, fun dx h1 h2 => q dx h1 h2⟩⟩
end
/-- what the text says of an own error class -/
structure ErrC (P : Program) (w : World) (K : PySem.W.Frag) (mg : Str → Option Value) (base : Heap) (x : Str) (C : Addr) (f : Str) : Prop where
  g : mg x = some (.ref C)
  T : OexC K C
  no : PySem.W.findIn K (.ref C) f = some none
  X : XfC K C
  ini : ∃ fI fd ps, PySem.W.findIn K (.ref C) "__init__" = some (some (.ref fI)) ∧ PySem.W.typeIn K (.ref fI) = some (.type "function") ∧ FnOk P w K mg base CX0 1 fI fd ps (spInitE C f) ∧ Binds K fd ps []
/-- raise C(e) -/
abbrev tRaise (C : Addr) (f : Str) (W : WX) (te : TE) : TS := fun _ σ H => tMkO C (spInitE C f) [] (tCons te tNil) σ H fun cls d H' => W cls d σ H'
theorem ps_raiseE {X : Cx} {W : WX} {x f : Str} {C : Addr} {e : Expr} {te : TE} {p pos pos2 : Pos} {k : Nat} (hc : X.calm = true) (T : ErrC X.prog X.w X.K X.mg X.base x C f) (hr : Room k X.A) (hk : 2 ≤ k) (tk : Takes X W) (ha : PE X e te) (hg : Gl X x) (hd : (x == ("__debug__" : Str)) = false := by decide)
    (he : starEach [e] X.env = (false, eval e X.env) :: starEach [] X.env := by rfl) (hpl : (backTo pos (starEach [] X.env)).any (·.1) = false := by rfl) :
    PS X (.Raise (some (.Call (.Name x p) [e] [] pos)) none pos2) (tRaise C f W te) := by
  obtain ⟨fI, fd, ps, h1, h2, h3, h4⟩ := T.ini
  exact ps_raise hc tk (pmk_oex T.T h1 h2 h3 (hr.mono hk) h4 .nil pass0 hg T.g (pa_cons ha pa_nil he) hd he hpl)
section
variable {K : PySem.W.Frag} {B O : Hp} {G : List SD} {σ : L2.St} {H : Hp} {te : TE} {D : Ends}
theorem s_raise {C : Addr} {f : Str} {x : Str} {Wx : WX} (s : Sta K B O G σ H) (h : EvD K B O G te (.str x)) (k : ∀ p B' H', Ex B B' → W B' O H' → B' p = some (.xd [(f, .str x)]) → Wx (.ref C) (some p) σ H') : tRaise C f Wx te D σ H :=
  h B O σ H (Ex.refl _) (Ex.refl _) s _ fun v B' H' e w dv => ⟨by simp, fun a ha => ⟨a, v, rfl, upd_same, fun dx hdx hne => by
    have hdx' : H' dx = none := by rw [upd_ne hne] at hdx; exact hdx
    refine ⟨rfl, dx, [(f, v)], upd_same, by rw [upd_ne hne, upd_same], hdx', ?_⟩
    rw [init_end ha hne]
    have ev := dp_str dv
    subst ev
    exact k dx (upd B' dx (.xd [(f, .str x)])) _ (e.trans (Ex.new (w.fb hdx'))) (w.newB hdx') upd_same⟩⟩
end
/-- how a def may end: data, or an error of the class at C with its field -/
inductive Out where
  | ret (d : PyData)
  | exc (C : Addr) (f : Str) (x : Str)
def OutOk (K : PySem.W.Frag) (B O : Hp) (Q : VK) (E : XK) : Out → Prop
  | .ret d => ∀ v B' H', Ex B B' → W B' O H' → Dt K B' v d → Q v H'
  | .exc C f x => ∀ p B' H', Ex B B' → W B' O H' → B' p = some (.xd [(f, .str x)]) → E (.ref C) (some p) H'
theorem OutOk.imp {K : PySem.W.Frag} {B B1 O : Hp} {Q : VK} {E : XK} {o : Out} (h : OutOk K B O Q E o) (e : Ex B B1) : OutOk K B1 O Q E o := by
  cases o with
  | ret d => exact fun v B' H' e' => h v B' H' (e.trans e')
  | exc C f x => exact fun p B' H' e' => h p B' H' (e.trans e')
/-- the promise of a def of data that may raise -/
def SpE (K : PySem.W.Frag) (R : List PyData → Out → Prop) : Sp := fun vs H Q E => ∃ B O ds o, W B O H ∧ DtAll K B vs ds ∧ R ds o ∧ OutOk K B O Q E o
section
variable {K : PySem.W.Frag} {B O : Hp} {G : List SD} {σ : L2.St} {H : Hp} {D : Ends} {R : List PyData → Out → Prop} {ds : List PyData} {t : TA} {E : XK} {tz : TS}
/-- a call as a statement, of what may raise -/
theorem q_callE {o : Out} (s : Sta K B O G σ H) (h : EvA K B O G t ds) (hr : R ds o) (k1 : ∀ d, o = .ret d → ∀ B' H', Ex B B' → Sta K B' O G σ H' → tz D σ H') (k2 : ∀ C f x, o = .exc C f x → ∀ p B' H', Ex B B' → W B' O H' → B' p = some (.xd [(f, .str x)]) → E (.ref C) (some p) H') :
    tSeq (tDrop (tCall (SpE K R) [] E t)) tz D σ H :=
  h B O σ H (Ex.refl _) (Ex.refl _) s _ fun vs B' H' e w dvs => by
    refine ⟨B', O, ds, o, w, by rw [List.append_nil]; exact dvs, hr, ?_⟩
    cases o with
    | ret d => exact fun v B2 H2 e2 w2 d2 => k1 d rfl B2 H2 (e.trans e2) ⟨w2, s.s.ex (e.trans e2)⟩
    | exc C f x => exact fun p B2 H2 e2 w2 d2 => k2 C f x rfl p B2 H2 (e.trans e2) w2 d2
end
section
variable {P : Program} {w : World} {K : PySem.W.Frag} {mg : Str → Option Value} {base : Heap}
theorem ok_fnE {x qual : Str} {st : Stmt} {f : Addr} {fd : FuncData} {N ps : List Str} {k : Nat} {R : List PyData → Out → Prop} (F : Fun K x qual st f fd) (S : FnScope N ps (defScope st)) (hl : ∀ ds d, R ds d → ds.length = ps.length)
    (hb : ∀ (cdv : Value) (A : Around) (outer : List Env) (s : Shared) (H0 : Hp) (E : XK), Room k (A.deeper (envOfC qual (defScope st) s.heap.objs.size f cdv)) → ∀ ds o, R ds o →
      ∃ t, PSs (cxOf (L2.CX P w) P w K mg base N qual (defScope st) f cdv A outer s H0 E) (defBody st) t ∧
        ∀ B O σ H (Q : VK), Sta K B O (gOf ds (N.length - ps.length)) σ H → OutOk K B O Q E o → t { nx := fun _ H' => Q .non H', rt := Q } σ H) :
    FnOk P w K mg base (L2.CX P w) (k + 1) f fd ps (SpE K R) := by
  refine F.okX S (fun vs H Q E h => ?_) (fun cdv A outer s H vs Q E hr h => ?_)
  · obtain ⟨B, O, ds, d, _, h2, h3, _⟩ := h
    rw [dps_len h2]
    exact hl ds d h3
  · obtain ⟨B, O, ds, d, h1, h2, h3, k⟩ := h
    obtain ⟨t, ht, hq⟩ := hb cdv A outer s H E hr ds d h3
    refine ⟨t, ht, hq B O _ H Q ⟨h1, ?_⟩ k⟩
    have e := slots_start h2 (N.length - ps.length)
    have hl' : vs.length = ps.length := by rw [dps_len h2]; exact hl ds d h3
    unfold L2.start
    rw [hl']
    exact e
/-- a def that stands at its name, its promise, raising -/
structure CalE (P : Program) (w : World) (K : PySem.W.Frag) (mg : Str → Option Value) (base : Heap) (k : Nat) (x : Str) (ps : List Str) (sp : Sp) : Prop where
  ex : ∃ f fd, FnOk P w K mg base (L2.CX P w) k f fd ps sp ∧ mg x = some (.ref f) ∧ PySem.W.keepIn K (.ref f) = true ∧ Binds K fd ps []
theorem At.calE {x : Str} {st : Stmt} {ps : List Str} {f : Addr} {fd : FuncData} {k : Nat} {sp : Sp} (a : At K mg x st ps f fd) (h : FnOk P w K mg base (L2.CX P w) k f fd ps sp) : CalE P w K mg base k x ps sp := ⟨f, fd, h, a.mg, a.fn.kp, a.bi⟩
end
/-- a call of what may raise, where what it raises goes on -/
theorem pe_calE {X : Cx} {x : Str} {ps : List Str} {sp : Sp} {k j : Nat} {p pos : Pos} {e : Expr} {es : List Expr} {t : TA} {E : XK} (C : CalE X.prog X.w X.K X.mg X.base k x ps sp) (hr : Room j X.A) (hk : k ≤ j) (hg : Gl X x) (tk : Takes X (fun cls d _ H => E cls d H)) (ha : PA X (e :: es) t) (hd : (x == ("__debug__" : Str)) = false := by decide)
    (he : starEach (e :: es) X.env = (false, eval e X.env) :: starEach es X.env := by rfl) (hpl : (backTo pos (starEach es X.env)).any (·.1) = false := by rfl) :
    PE X (.Call (.Name x p) (e :: es) [] pos) (tCall sp [] E t) := by
  obtain ⟨f, fd, h1, h2, h3, h4⟩ := C.ex
  exact pe_call (h1.mono hk) hr hg h2 h3 h4 .nil (passes_call tk fun _ _ _ _ h => h) ha hd he hpl
/-- a walk over what is one or the other -/
theorem pi_or {X : Cx} {tg e : Expr} {w1 w2 : TI} (h1 : PI X tg e w1) (h2 : PI X tg e w2) : PI X tg e (fun σ H R => w1 σ H R ∨ w2 σ H R) := ⟨fun pins s σ H R I h => h.elim (h1.run pins s σ H R I) (h2.run pins s σ H R I)⟩
theorem ei_orL {K : PySem.W.Frag} {B O : Hp} {G : List SD} {w1 w2 : TI} {es : List PyData} (h : EvI K B O G w1 es) : EvI K B O G (fun σ H R => w1 σ H R ∨ w2 σ H R) es := fun B1 O1 σ H e o s R r => .inl (h B1 O1 σ H e o s R r)
theorem ei_orR {K : PySem.W.Frag} {B O : Hp} {G : List SD} {w1 w2 : TI} {es : List PyData} (h : EvI K B O G w2 es) : EvI K B O G (fun σ H R => w1 σ H R ∨ w2 σ H R) es := fun B1 O1 σ H e o s R r => .inr (h B1 O1 σ H e o s R r)
end DL

set_option Elab.async false
set_option linter.all false
set_option maxRecDepth 100000
set_option maxHeartbeats 4000000
namespace Toy
open PySem PySem.Spec PyProof.Rows L2 StX DL
section
variable {P : Program} {w : World} {K : PySem.W.Frag} {mg : Str → Option Value} {base : Heap}


/-- what check_size says -/
def sizeOut (CN CT : Addr) (x : PyData) (lo : Int) (pl : Str) : Out := if inFrom x lo none then (if inFrom x lo (some 5000) then .ret .none else .exc CT "limit" pl) else .exc CN "place" pl
def R_size (CN CT : Addr) (ds : List PyData) (o : Out) : Prop := ∃ x lo pl, ds = [x, .int lo, .str pl] ∧ o = sizeOut CN CT x lo pl
abbrev CalFrom (P : Program) (w : World) (K : PySem.W.Frag) (mg : Str → Option Value) (base : Heap) : Prop := CalD P w K mg base 4 "is_from" ["value", "low", "high"] [.non] (SpR K R_from)
theorem ok_check_size {f CN CT : Addr} {fd : FuncData} (T : Txt K mg) (Er_NoSet : ErrC P w K mg base "NoSet" CN "place") (Er_TooLarge : ErrC P w K mg base "TooLarge" CT "limit") (C_is_from : CalFrom P w K mg base) (a : At K mg "check_size" s_check_size ["number", "low", "place"] f fd) :
    FnOk P w K mg base (L2.CX P w) 6 f fd ["number", "low", "place"] (SpE K (R_size CN CT)) := by
  obtain ⟨tM, gM⟩ := T.g_MOST
  refine ok_fnE a.fn sc_check_size (by rintro ds d ⟨x, lo, pl, rfl, _⟩; rfl) fun cdv A outer s H0 E hr ds d ⟨x, lo, pl, e1, e2⟩ => ?_
  subst e1 e2
  refine ⟨_, (pss_cons (ps_if (pt_not (pt_val (pe_calD C_is_from hr (by omega) (by rfl) (pa_cons (pv 0) (pa_cons (pv 1) pa_nil))))) (pss_one (ps_raiseE rfl Er_NoSet hr (by omega) (takes_of rfl rfl rfl rfl) (pv 2) (by rfl))) pss_nil)
    (pss_one (ps_if (pt_cmpR op_gt (pv 0) (pe_glob (v := .int 5000) (by rfl) gM ⟨_, rfl⟩) (nomark _)) (pss_one (ps_raiseE rfl Er_TooLarge hr (by omega) (takes_of rfl rfl rfl rfl) (pv 2) (by rfl))) pss_nil))), fun B O σ H Q st q => ?_⟩
  refine q_when st (b := !inFrom x lo none) (et_not (et_test (ev_callD (es := [.none]) (ea_cons (ev_var rfl) (ea_cons (ev_var rfl) ea_nil)) (fun _ => dps_one .non) ⟨x, lo, none, rfl, rfl⟩))) (fun h1 B1 H1 x1 st => ?_) (fun h1 B1 H1 x1 st => ?_)
  · have e : sizeOut CN CT x lo pl = .exc CN "place" pl := by
      unfold sizeOut
      rw [if_neg (by simpa using h1)]
    rw [e] at q
    exact s_raise st (ev_var rfl) fun p B2 H2 x2 w2 hp => q p B2 H2 (x1.trans x2) w2 hp
  · have h1' : inFrom x lo none = true := by simpa using h1
    obtain ⟨i, rfl, hi⟩ : ∃ i, x = .int i ∧ lo ≤ i := by
      cases x with
      | int i => exact ⟨i, rfl, by simpa [inFrom, under] using h1'⟩
      | none => cases h1'
      | bool => cases h1'
      | str => cases h1'
      | list => cases h1'
      | tuple => cases h1'
      | dict => cases h1'
    refine s_if st (et_test (ev_op (ev_var rfl) (ev_c (v := .int 5000) fun _ => .int 5000) rd_B0)) (fun h2 B2 H2 x2 st => ?_) (fun h2 B2 H2 x2 st => ?_)
    · have h2' : 5000 < i := by simpa using h2
      have e : sizeOut CN CT (.int i) lo pl = .exc CT "limit" pl := by
        unfold sizeOut
        rw [if_pos h1', if_neg]
        simp [inFrom, under]
        intro _
        omega
      rw [e] at q
      exact s_raise st (ev_var rfl) fun p B3 H3 x3 w3 hp => q p B3 H3 ((x1.trans x2).trans x3) w3 hp
    · have h2' : i ≤ 5000 := by simpa using h2
      have e : sizeOut CN CT (.int i) lo pl = .ret .none := by
        unfold sizeOut
        rw [if_pos h1', if_pos]
        simp [inFrom, under, hi, h2']
      rw [e] at q
      exact q .non B2 H2 (x1.trans x2) st.w .non


def nextD : PyData → Int
  | .int i => i + 1
  | _ => 0
/-- the items rise from lo on, all at most hi -/
def risesD : Int → Int → List PyData → Bool
  | _, _, [] => true
  | lo, hi, d :: ds => inFrom d lo (some hi) && risesD (nextD d) hi ds
theorem from_int {d : PyData} {lo : Int} {hi : Option Int} (h : inFrom d lo hi = true) : ∃ z, d = .int z ∧ lo ≤ z ∧ under hi z = true := by
  cases d with
  | int z =>
    unfold inFrom at h
    rw [Bool.and_eq_true, decide_eq_true_eq] at h
    exact ⟨z, rfl, h.1, h.2⟩
  | none => cases h
  | bool => cases h
  | str => cases h
  | list => cases h
  | tuple => cases h
  | dict => cases h
/-- a list or tuple of such items -/
def rowD (hi : Int) (d : PyData) : Bool := match d with
  | .list ds => risesD 0 hi ds
  | .tuple ds => risesD 0 hi ds
  | _ => false
def numsOut (CN : Addr) (x : PyData) (n : Int) (pl : Str) : Out := if rowD (n - 1) x then .ret .none else .exc CN "place" pl
def R_nums (CN : Addr) (ds : List PyData) (o : Out) : Prop := ∃ x n pl, ds = [x, .int n, .str pl] ∧ o = numsOut CN x n pl
theorem rises_at {hi : Int} : ∀ {ds : List PyData} {lo : Int} {i : Nat} {d : PyData}, risesD lo hi ds = true → ds[i]? = some d → ∃ z, d = .int z ∧ lo ≤ z ∧ z ≤ hi := by
  intro ds
  induction ds with
  | nil => intro lo i d _ e; simp at e
  | cons x ds ih =>
    intro lo i d h e
    rw [risesD, Bool.and_eq_true] at h
    obtain ⟨h1, h2⟩ := h
    obtain ⟨z, rfl, hz1, hz2⟩ := from_int h1
    have hz2' : z ≤ hi := by simpa [under] using hz2
    cases i with
    | zero =>
      simp at e
      exact ⟨z, e.symm, hz1, hz2'⟩
    | succ i =>
      obtain ⟨y, e1, e2, e3⟩ := ih h2 (by simpa using e)
      have e2' : z + 1 ≤ y := e2
      exact ⟨y, e1, by omega, e3⟩
theorem ok_check_numbers {f CN : Addr} {fd : FuncData} (T : Txt K mg) (Er_NoSet : ErrC P w K mg base "NoSet" CN "place") (C_is_from : CalFrom P w K mg base) (a : At K mg "check_numbers" s_check_numbers ["numbers", "bound", "place"] f fd) :
    FnOk P w K mg base (L2.CX P w) 6 f fd ["numbers", "bound", "place"] (SpE K (R_nums CN)) := by
  refine ok_fnE a.fn sc_check_numbers (by rintro ds d ⟨x, n, pl, rfl, _⟩; rfl) fun cdv A outer s H0 E hr ds d ⟨x, n, pl, e1, e2⟩ => ?_
  subst e1 e2
  refine ⟨_, (pss_cons (ps_if (pt_not (pt_val (pe_callB (call_isiTK K) (by rfl) T.b_isinstance (by decide +kernel) (pa_cons (pv 0) (pa_cons (pe_tup (pa_cons (pe_bltn (v := .ty "list") (by rfl) T.b_list (by decide +kernel) rfl) (pa_cons (pe_bltn (v := .ty "tuple") (by rfl) T.b_tuple (by decide +kernel) rfl) pa_nil))) pa_nil))))) (pss_one (ps_raiseE rfl Er_NoSet hr (by omega) (takes_of rfl rfl rfl rfl) (pv 2) (by rfl))) pss_nil)
    (pss_cons (ps_set (i := 3) sc_check_numbers.nd rfl (Or.inl rfl) pe_int)
    (pss_one (ps_for (passes_of rfl) rfl ((fun h => pi_or (pi_listK K h) (pi_tupK K h)) (pv 0)) (pg_name (i := 4) sc_check_numbers.nd rfl (Or.inl rfl)) (pss_cons (ps_if (pt_not (pt_val (pe_cal C_is_from.cal hr (by omega) (by rfl) (pa_cons (pv 4) (pa_cons (pv 3) (pa_cons (pe_op op_sub (pv 1) pe_int) pa_nil)))))) (pss_one (ps_raiseE rfl Er_NoSet hr (by omega) (takes_of rfl rfl rfl rfl) (pv 2) (by rfl))) pss_nil)
    (pss_one (ps_set (i := 3) sc_check_numbers.nd rfl (Or.inl rfl) (pe_op op_add (pv 4) pe_int)))))))), fun B O σ H Q st q => ?_⟩
  refine q_when st (b := !(isListD x || isTupD x)) (et_not (et_test (ev_isiT (ev_var rfl) rfl))) (fun h1 B1 H1 x1 st => ?_) (fun h1 B1 H1 x1 st => ?_)
  · have e : numsOut CN x n pl = .exc CN "place" pl := by
      cases x <;> simp [isListD, isTupD] at h1 <;> rfl
    rw [e] at q
    exact s_raise st (ev_var rfl) fun p B2 H2 x2 w2 hp => q p B2 H2 (x1.trans x2) w2 hp
  · obtain ⟨es, hx, he⟩ : ∃ es, (x = .list es ∨ x = .tuple es) ∧ rowD (n - 1) x = risesD 0 (n - 1) es := by
      cases x with
      | list es => exact ⟨es, .inl rfl, rfl⟩
      | tuple es => exact ⟨es, .inr rfl, rfl⟩
      | none => simp [isListD, isTupD] at h1
      | int => simp [isListD, isTupD] at h1
      | bool => simp [isListD, isTupD] at h1
      | str => simp [isListD, isTupD] at h1
      | dict => simp [isListD, isTupD] at h1
    have eo : numsOut CN x n pl = if risesD 0 (n - 1) es then .ret .none else .exc CN "place" pl := by
      unfold numsOut
      rw [he]
    rw [eo] at q
    refine q_asg st ev_int fun v2 B2 H2 x2 d2 st => ?_
    refine s_for st (es := es) ?_ (fun i B' O' G' => O' = O ∧ ∃ lo : Int, risesD 0 (n - 1) es = risesD lo (n - 1) (es.drop i) ∧ ∃ g4 : SD, G' = [.dat x, .dat (.int n), .dat (.str pl), .dat (.int lo), g4]) ?_ ?_ ?_ ?_
    · rcases hx with rfl | rfl
      · exact ei_orL (ei_list (ev_var rfl))
      · exact ei_orR (ei_tup (ev_var rfl))
    · exact fun i B3 B4 O3 G3 _ h => h
    · exact ⟨rfl, 0, rfl, _, rfl⟩
    · rintro i e B3 O3 G3 σ3 H3 v hie x3 ⟨rfl, lo, hlo, g4, rfl⟩ st dv N hN
      have hdr : es.drop i = e :: es.drop (i + 1) := by
        have hi := (List.getElem?_eq_some_iff.mp hie).1
        rw [List.drop_eq_getElem_cons hi]
        congr 1
        exact (List.getElem?_eq_some_iff.mp hie).2
      refine eg_name B3 _ σ3 H3 v st dv _ fun σ4 st _ => ?_
      refine q_when st (b := !inFrom e lo (some (n - 1))) (et_not (et_test (ev_call (ea_cons (ev_var rfl) (ea_cons (ev_var rfl) (ea_cons (ev_op (ev_var rfl) ev_int rd_I0) ea_nil))) ⟨e, lo, some (n - 1), rfl, rfl⟩))) (fun h3 B4 H4 x4 st => ?_) (fun h3 B4 H4 x4 st => ?_)
      · have ef : risesD 0 (n - 1) es = false := by
          rw [hlo, hdr, risesD, show inFrom e lo (some (n - 1)) = false by simpa using h3]
          rfl
        rw [ef] at q
        exact s_raise st (ev_var rfl) fun p B5 H5 x5 w5 hp => q p B5 H5 ((((x1.trans x2).trans x3).trans x4).trans x5) w5 hp
      · have h3' : inFrom e lo (some (n - 1)) = true := by simpa using h3
        obtain ⟨z, rfl, _, _⟩ := from_int h3'
        refine s_asg st (ev_op (ev_var rfl) ev_int rd_I0) fun v5 B5 H5 x5 d5 st => ?_
        refine hN B5 _ _ _ _ (x4.trans x5) ⟨rfl, z + 1, ?_, _, rfl⟩ st
        rw [hlo, hdr, risesD, h3']
        rfl
    · rintro B3 O3 G3 σ3 H3 x3 ⟨rfl, lo, hlo, g4, rfl⟩ st
      have et : risesD 0 (n - 1) es = true := by
        rw [hlo, List.drop_length]
        rfl
      rw [et] at q
      exact q .non B3 H3 ((x1.trans x2).trans x3) st.w .non

end
end Toy
set_option Elab.async false
set_option linter.all false
set_option maxRecDepth 100000
set_option maxHeartbeats 4000000
namespace Toy
open PySem PySem.Spec PyProof.Rows L2 StX DL
section
variable {P : Program} {w : World} {K : PySem.W.Frag} {mg : Str → Option Value} {base : Heap}


/-- a draw: any number below the count, the pool goes on -/
def PreDraw (gs : List SD) (_ O : Hp) (R : PyData → Hp → Prop) : Prop := ∃ p n, gs = [.val (.ref p), .dat (.int n)] ∧ PoolAt O p ∧ 0 < n ∧ n < 1000000 ∧ R = fun d O' => ∃ r, d = .int r ∧ 0 ≤ r ∧ r < n ∧ Mv p O O'
theorem ok_law_draw {f : Addr} {fd : FuncData} (T : Txt K mg) (a : At K mg "_law_draw" s_law_draw ["pool", "count"] f fd) : FnOk P w K mg base CX0 2 f fd ["pool", "count"] (SpX K PreDraw) := by
  refine ok_fnX a.fn sc_law_draw (by rintro gs B O R ⟨p, n, rfl, _⟩; rfl) fun cdv A outer s H0 E hr => ?_
  refine ⟨_, (pss_cons (ps_if (pt_cmpR op_gt (pe_ix (ix_listK K) (pv 0) pe_int (fun _ _ => rfl)) pe_int (nomark _)) (pss_cons (ps_set (i := 2) sc_law_draw.nd rfl (Or.inl rfl) (pe_op op_mod (pe_callTy call_int1 (by rfl) T.b_int (by decide +kernel) (pa_cons (pe_ix (ix_listK K) (pv 0) pe_int (fun _ _ => rfl)) pa_nil)) (pv 1)))
    (pss_cons (ps_asg (pe_op op_fdiv (pe_callTy call_int1 (by rfl) T.b_int (by decide +kernel) (pa_cons (pe_ix (ix_listK K) (pv 0) pe_int (fun _ _ => rfl)) pa_nil)) (pv 1)) (pg_sub (pv 0) pe_int set_list))
    (pss_one (ps_ret (pv 2))))) pss_nil)
    (pss_cons (ps_asg (pe_op op_mod (pe_callTy call_int1 (by rfl) T.b_int (by decide +kernel) (pa_cons (pe_op op_add (pe_op op_mul (pe_ix (ix_listK K) (pv 0) pe_int (fun _ _ => rfl)) pe_int) pe_int) pa_nil)) pe_int) (pg_sub (pv 0) pe_int set_list))
    (pss_one (ps_ret (pe_op op_mod (pe_callTy call_int1 (by rfl) T.b_int (by decide +kernel) (pa_cons (pe_op op_fdiv (pe_op op_mod (pe_callTy call_int1 (by rfl) T.b_int (by decide +kernel) (pa_cons (pe_op op_mul (pe_ix (ix_listK K) (pv 0) pe_int (fun _ _ => rfl)) (pe_ix (ix_listK K) (pv 0) pe_int (fun _ _ => rfl))) pa_nil)) pe_int) pe_int) pa_nil)) (pv 1)))))), ?_⟩
  rintro gs B O R σ H Q ⟨p, n, rfl, ⟨x, y, ep, hy0, hy1⟩, hn0, hn1, rfl⟩ st q
  have dv : ∀ {B' : Hp}, DtAll K B' [V.int x, V.int y] [.int x, .int y] := fun {B'} => ints_dps [x, y]
  refine q_when st (et_test (ev_op (ev_ixO rfl ep dv ev_int at0) ev_int rd_B0)) (fun h1 B1 H1 x1 st => ?_) (fun h1 B1 H1 x1 st => ?_)
  · have hx : 0 < x := by simpa using h1
    refine q_asg st (ev_op (ev_cb (ea_cons (ev_ixO rfl ep dv ev_int at0) ea_nil) rc_intI) (ev_var rfl) (rd_I hn0)) fun v2 B2 H2 x2 d2 st => ?_
    refine q_setO st rfl ep (ev_op (ev_cb (ea_cons (ev_ixO rfl ep dv ev_int at0) ea_nil) rc_intI) (ev_var rfl) (rd_I ⟨hn0, by omega⟩)) ev_int (j := 0) (by rfl) fun v3 B3 H3 x3 d3 st => ?_
    rw [dp_int d3] at st
    refine s_ret st (ev_var rfl) fun v4 B4 H4 x4 w4 d4 => ?_
    refine q v4 _ B4 _ H4 (((x1.trans x2).trans x3).trans x4) ⟨x % n, rfl, Int.emod_nonneg _ (by omega), Int.emod_lt_of_pos _ hn0, ⟨x / n, y, upd_same, hy0, hy1⟩, fun a ha => upd_ne ha⟩ w4 d4
  · refine q_setO st rfl ep (ev_op (ev_cb (ea_cons (ev_op (ev_op (ev_ixO rfl ep dv ev_int at1) ev_int (rd_I (.inr ⟨by decide, by decide⟩))) ev_int rd_I0) ea_nil) rc_intI) ev_int (rd_I (by decide))) ev_int (j := 1) (by rfl) fun v3 B3 H3 x3 d3 st => ?_
    rw [dp_int d3] at st
    have hz0 : 0 ≤ (y * 48271 + 11) % 2147483647 := Int.emod_nonneg _ (by decide)
    have hz1 : (y * 48271 + 11) % 2147483647 < 2147483647 := Int.emod_lt_of_pos _ (by decide)
    generalize (y * 48271 + 11) % 2147483647 = z at st hz0 hz1
    have st' : Sta K B3 (upd O p (.lst [.int x, .int z])) _ _ _ := st
    have dz : ∀ {B' : Hp}, DtAll K B' [V.int x, V.int z] [.int x, .int z] := fun {B'} => ints_dps [x, z]
    refine s_ret st' (ev_op (ev_cb (ea_cons (ev_op (ev_op (ev_cb (ea_cons (ev_op (ev_ixO rfl upd_same dz ev_int at1) (ev_ixO rfl upd_same dz ev_int at1) (rd_I (.inl ⟨by omega, by omega⟩))) ea_nil) rc_intI) ev_int (rd_I (by decide))) ev_int (rd_I ⟨by decide, by decide⟩)) ea_nil) rc_intI) (ev_var rfl) (rd_I hn0)) fun v4 B4 H4 x4 w4 d4 => ?_
    exact q v4 _ B4 _ H4 ((x1.trans x3).trans x4) ⟨_, rfl, Int.emod_nonneg _ (by omega), Int.emod_lt_of_pos _ hn0, ⟨x, z, upd_same, hz0, hz1⟩, fun a ha => upd_ne ha⟩ w4 d4


theorem ev_lenS {B O : Hp} {G : List SD} {i : Nat} {a : Addr} {xs : List V} (hg : G[i]? = some (.val (.ref a))) (hs : SqL K B a xs) : EvD K B O G (tCB (fun xs H Q => ∃ p ys, xs = [.ref p] ∧ (SqL K H p ys ∨ SqT K H p ys) ∧ Q (.int ys.length) H) (tCons (tVar i) tNil)) (.int xs.length) := fun B1 O1 σ H e o s Q q => by
  obtain ⟨sv, h1, h2⟩ := s.s.get hg
  have h3 : sv = some (.ref a) := h2
  subst h3
  exact ⟨_, h1, a, xs, rfl, .inl (sl_ex (e.trans s.w.b) hs), q _ B1 H (Ex.refl _) s.w (.int _)⟩
theorem ev_ixS {B O : Hp} {G : List SD} {i : Nat} {a : Addr} {ns : List Int} {tb : TE} {k z : Int} (hg : G[i]? = some (.val (.ref a))) (hs : SqL K B a (ns.map V.int)) (hb : EvD K B O G tb (.int k)) (h : atI ns k = some z) : EvD K B O G (tOp (rIxL K) (tVar i) tb) (.int z) := fun B1 O1 σ H e o s Q q => by
  obtain ⟨sv, h1, h2⟩ := s.s.get hg
  have h3 : sv = some (.ref a) := h2
  subst h3
  refine ⟨_, h1, ?_⟩
  refine hb B1 O1 σ H e o s _ fun v B2 H2 e2 w2 d2 => ?_
  rw [dp_int d2]
  refine ⟨a, ns.map V.int, k, .int z, rfl, rfl, sl_ex ((e.trans e2).trans w2.b) hs, ?_, q _ B2 H2 e2 w2 (.int _)⟩
  unfold atI at h ⊢
  rw [List.length_map]
  cases hj : ixN ns.length k with
  | none => rw [hj] at h; cases h
  | some j =>
    rw [hj] at h
    have h' : ns[j]? = some z := h
    show (ns.map V.int)[j]? = _
    rw [List.getElem?_map, h']
    rfl
def SpPool (K : PySem.W.Frag) : Sp := fun vs H Q _ => ∃ (B O : Hp) (a : Addr) (ns : List Int) (k : Int), W B O H ∧ vs = [.ref a, .int k] ∧ SqL K B a (ns.map V.int) ∧ ns.length ≤ 63 ∧ 0 ≤ k ∧ k ≤ 63 ∧
  ∀ (p : Addr) (x y : Int) (B' H' : Hp), Ex B B' → O p = none → 0 ≤ y → y < 2147483647 → W B' (upd O p (.lst [.int x, .int y])) H' → Q (.ref p) H'
theorem ok_law_pool {f : Addr} {fd : FuncData} (T : Txt K mg) (a : At K mg "_law_pool" s_law_pool ["script", "k"] f fd) : FnOk P w K mg base CX0 2 f fd ["script", "k"] (SpPool K) := by
  refine a.fn.ok sc_law_pool (fun vs H Q E h => ?_) (fun cdv A outer s H vs Q E hr h => ?_)
  · obtain ⟨B, O, a, ns, k, _, rfl, _⟩ := h
    rfl
  · obtain ⟨B, O, a, ns, k, hw, rfl, hs, hl, hk0, hk1, q⟩ := h
    refine ⟨_, (pss_cons (ps_set (i := 2) sc_law_pool.nd rfl (Or.inl rfl) pe_int)
    (Evl.pss_cut (ps_if (pt_cmpR op_lt (pv 1) (pe_callB (call_lenK K) (by rfl) T.b_len PySem.boot_len (pa_cons (pv 0) pa_nil)) (nomark _)) (pss_one (ps_set (i := 2) sc_law_pool.nd rfl (Or.inl rfl) (pe_ix (ix_listK K) (pv 0) (pv 1) (fun _ _ => rfl)))) pss_nil)
    (pss_cons (ps_set (i := 3) sc_law_pool.nd rfl (Or.inl rfl) (pe_callB call_abs (by rfl) T.b_abs (by decide +kernel) (pa_cons (pv 2) pa_nil)))
    (pss_cons (ps_set (i := 4) sc_law_pool.nd rfl (Or.inl rfl) (pe_op op_mod (pe_op op_mul (pe_op op_add (pe_op op_add (pe_op op_mod (pv 3) pe_int) (pe_op op_mul pe_int (pv 1))) pe_int) pe_int) pe_int))
    (pss_one (ps_ret (pe_lst (pa_cons (pe_op op_mul (pv 3) (pe_callTy call_int1 (by rfl) T.b_int (by decide +kernel) (pa_cons (pe_cmpR op_ge (pv 3) (pe_op op_pow pe_int pe_int) (nomark _)) pa_nil))) (pa_cons (pv 4) pa_nil))))))))), ?_⟩
    have st : Sta K B O [.val (.ref a), .dat (.int k), .un, .un, .un] (L2.start N_sc_law_pool [.ref a, .int k]) H := ⟨hw, ⟨rfl, ⟨_, rfl, .int k⟩, trivial, trivial, trivial, trivial⟩⟩
    refine q_asg st ev_int fun v1 B1 H1 x1 d1 st => ?_
    refine ⟨fun σ' H' => ∃ B' c, Ex B B' ∧ Sta K B' O [.val (.ref a), .dat (.int k), .dat (.int c), .un, .un] σ' H', ?_, ?_⟩
    · refine s_if st (et_test (ev_op (ev_var rfl) (ev_lenS rfl (sl_ex x1 hs)) rd_B0)) (fun h B2 H2 x2 st => ?_) (fun h B2 H2 x2 st => ?_)
      · have hlt : k < ns.length := by simpa using h
        have hk : ns[k.toNat]? = some ns[k.toNat] := List.getElem?_eq_getElem (by omega)
        refine s_asg st (ev_ixS rfl (sl_ex (x1.trans x2) hs) (ev_var rfl) (at_nn hk0 hk)) fun v3 B3 H3 x3 d3 st => ?_
        exact ⟨B3, _, (x1.trans x2).trans x3, st⟩
      · exact ⟨B2, 0, x1.trans x2, st⟩
    rintro σ2 H2 ⟨B2, c, x2, st⟩
    refine q_asg st (ev_cb (ea_cons (ev_var rfl) ea_nil) rc_abs) fun v3 B3 H3 x3 d3 st => ?_
    generalize (if c < 0 then -c else c) = z at st
    refine q_asg st (ev_op (ev_op (ev_op (ev_op (ev_op (ev_var rfl) ev_int (rd_I (by decide))) (ev_op ev_int (ev_var rfl) (rd_I (.inl ⟨by decide, by decide⟩))) rd_I0) ev_int rd_I0) ev_int (rd_I (.inr ⟨by decide, by decide⟩))) ev_int (rd_I (by decide))) fun v4 B4 H4 x4 d4 st => ?_
    have hy0 : 0 ≤ (z % 2147483629 + 7919 * k + 31) * 48271 % 2147483647 := Int.emod_nonneg _ (by decide)
    have hy1 : (z % 2147483629 + 7919 * k + 31) * 48271 % 2147483647 < 2147483647 := Int.emod_lt_of_pos _ (by decide)
    generalize (z % 2147483629 + 7919 * k + 31) * 48271 % 2147483647 = y at st hy0 hy1
    refine s_retL st (el_lst (ds := [.int _, .int y]) (ea_cons (ev_op (ev_var rfl) (ev_cb (ea_cons (ev_op (ev_var rfl) (ev_op ev_int ev_int (rd_I ⟨by decide, by decide, by decide⟩)) rd_B0) ea_nil) rc_intB) (rd_I (.inr (by split <;> decide)))) (ea_cons (ev_var rfl) ea_nil)) (by simp)) fun p ws B5 H5 x5 np w5 d5 => ?_
    have e := dps_ints (ns := [_, y]) d5
    subst e
    exact q p _ y B5 H5 (((x2.trans x3).trans x4).trans x5) np hy0 hy1 w5

end
end Toy
set_option Elab.async false
set_option linter.all false
set_option maxRecDepth 100000
set_option maxHeartbeats 4000000
namespace Toy
open PySem PySem.Spec PyProof.Rows L2 StX DL


def del (O : Hp) (l : Addr) : Hp := fun a => if a = l then none else O a
theorem del_same {O : Hp} {l : Addr} : del O l l = none := if_pos rfl
theorem del_ne {O : Hp} {l a : Addr} (h : a ≠ l) : del O l a = O a := if_neg h
theorem del_ex {O : Hp} {l : Addr} : Ex (del O l) O := fun a o e => by
  unfold del at e
  split at e
  · cases e
  · exact e
theorem W.sub {B O O' H : Hp} (w : W B O H) (e : Ex O' O) : W B O' H := ⟨w.b, fun a o h => w.o a o (e a o h), fun a => by
  rcases w.d a with q | q
  · exact .inl q
  · refine .inr ?_
    cases h : O' a with
    | none => rfl
    | some o => rw [e a o h] at q; cases q⟩
theorem upd_del {O : Hp} {l : Addr} {u : HO} (h : O l = some u) : O = upd (del O l) l u := by
  funext a
  by_cases e : a = l
  · subst e
    rw [h, upd_same]
  · rw [upd_ne e, del_ne e]
section
variable {K : PySem.W.Frag} {B O : Hp} {G : List SD} {te ta : TE} {i : Nat} {p r : Addr} {n : Int} {E : XK}
theorem ex_draw (hg : G[i]? = some (.val (.ref p))) (hp : PoolAt O p) (h0 : 0 < n) (h1 : n < 1000000) : EvX K B O G (tCall (SpX K PreDraw) [] E (tCons (tVar i) (tCons (tC (.int n)) tNil))) (fun d O' => ∃ r, d = .int r ∧ 0 ≤ r ∧ r < n ∧ Mv p O O') :=
  ex_call (as_val (evV_var hg) (as_dat ev_int as_nil)) fun B' _ => ⟨p, n, rfl, hp, h0, h1, rfl⟩
/-- a test on what a draw gives -/
theorem s_ifX {R : PyData → Hp → Prop} {σ : L2.St} {H : Hp} {D : Ends} {tu tw : TS} (s : Sta K B O G σ H) (h : EvX K B O G te R) (hb : ∀ d O', R d O' → ∃ b, d = .bool b)
    (k : ∀ b B' O' H', Ex B B' → R (.bool b) O' → Sta K B' O' G σ H' → (b = true → tu D σ H') ∧ (b = false → tw D σ H')) : tIfS (tTest te) tu tw D σ H :=
  h B σ H (Ex.refl _) s _ fun v d B' O' H' e r w dv => by
    obtain ⟨b, rfl⟩ := hb d O' r
    obtain ⟨k1, k2⟩ := k b B' O' H' e r ⟨w, s.s.ex e⟩
    refine ⟨b, dp_bool dv, ?_⟩
    cases b with
    | true =>
      show tu D σ H'
      exact k1 rfl
    | false =>
      show tw D σ H'
      exact k2 rfl
end
/-- rising, from 0 on, below n -/
def Rise (ns : List Int) (n : Int) : Prop := ns.Pairwise (· < ·) ∧ ∀ x, x ∈ ns → 0 ≤ x ∧ x < n
theorem rise_nil {n : Int} : Rise [] n := ⟨.nil, by simp⟩
theorem rise_add {ns : List Int} {n m : Int} (h : Rise ns n) (h0 : 0 ≤ n) (hm : n < m) : Rise (ns ++ [n]) m := by
  refine ⟨List.pairwise_append.mpr ⟨h.1, List.pairwise_singleton _ _, fun x hx y hy => ?_⟩, fun x hx => ?_⟩
  · rw [List.mem_singleton.mp hy]
    exact (h.2 x hx).2
  · rcases List.mem_append.mp hx with hx | hx
    · have := h.2 x hx
      exact ⟨this.1, by omega⟩
    · rw [List.mem_singleton.mp hx]
      exact ⟨h0, hm⟩
theorem rise_mono {ns : List Int} {n m : Int} (h : Rise ns n) (hm : n ≤ m) : Rise ns m := ⟨h.1, fun x hx => ⟨(h.2 x hx).1, by have := (h.2 x hx).2; omega⟩⟩
abbrev whole_list (ns : List Int) : List PyData := ns.map .int

section
variable {P : Program} {w : World} {K : PySem.W.Frag} {mg : Str → Option Value} {base : Heap}


def PreSome (gs : List SD) (_ O : Hp) (R : PyData → Hp → Prop) : Prop := ∃ p n, gs = [.val (.ref p), .dat (.int n)] ∧ PoolAt O p ∧ 0 ≤ n ∧ n ≤ 1000 ∧ R = fun d O' => ∃ ns : List Int, d = .list (whole_list ns) ∧ Rise ns n ∧ ns.length ≤ 1000 ∧ Mv p O O'
theorem ok_law_some {f fr : Addr} {fd fdr : FuncData} (T : Txt K mg) (a : At K mg "_law_some" s_law_some ["pool", "size"] f fd) (ad : At K mg "_law_draw" s_law_draw ["pool", "count"] fr fdr) :
    FnOk P w K mg base CX0 4 f fd ["pool", "size"] (SpX K PreSome) := by
  have C_law_draw := ad.cal (ok_law_draw (P := P) (w := w) (base := base) T ad)
  refine ok_fnX a.fn sc_law_some (by rintro gs B O R ⟨p, n, rfl, _⟩; rfl) fun cdv A outer s H0 E hr => ?_
  refine ⟨_, (pss_cons (ps_set (i := 2) sc_law_some.nd rfl (Or.inl rfl) (pe_lst pa_nil))
    (pss_cons (ps_for PassesOwn.never rfl (pi_range1 (by rfl) T.b_range (pa_cons (pv 1) pa_nil)) (pg_name (i := 3) sc_law_some.nd rfl (Or.inl rfl)) (pss_one (ps_if (pt_cmpR op_eq (pe_cal C_law_draw hr (by omega) (by rfl) (pa_cons (pv 0) (pa_cons pe_int pa_nil))) pe_int (nomark _)) (pss_one (ps_expr (pe_bm PySem.F.plainAttrs_list PySem.F.slot_list_append PySem.F.type_list_append mt_append (pv 2) (pa_cons (pv 3) pa_nil)))) pss_nil)))
    (pss_one (ps_ret (pv 2))))), ?_⟩
  rintro gs B O R σ H Q ⟨p, n, rfl, hp, hn0, hn1, rfl⟩ st q
  refine q_asgL st (el_lst ea_nil (by simp)) fun l vs0 B1 H1 x1 nl dv0 st => ?_
  have e0 : vs0 = [] := by cases dv0; rfl
  subst e0
  have lp : l ≠ p := by
    obtain ⟨_, _, e, _⟩ := hp
    intro z
    subst z
    rw [nl] at e
    cases e
  have hp1 : PoolAt (upd O l (.lst [])) p := by
    obtain ⟨x, y, e, hy⟩ := hp
    exact ⟨x, y, by rw [upd_ne lp.symm]; exact e, hy⟩
  refine q_for st (ei_range1 (j := n) (ea_cons (ev_var rfl) ea_nil) (by omega))
    (fun i B' O' G' => ∃ (vs : List V) (ns : List Int), O' l = some (.lst vs) ∧ DtAll K B' vs (whole_list ns) ∧ Rise ns i ∧ ns.length ≤ i ∧ PoolAt O' p ∧ (∀ a, a ≠ p → a ≠ l → O' a = O a) ∧ ∃ g3 : SD, G' = [.val (.ref p), .dat (.int n), .val (.ref l), g3])
    ?_ ?_ ?_ ?_
  · rintro i B2 B3 O2 G2 e ⟨vs, ns, a1, a2, a3⟩
    exact ⟨vs, ns, a1, dps_ex e _ _ a2, a3⟩
  · exact ⟨[], [], upd_same, .nil, rise_nil, by simp, hp1, fun a h1 h2 => upd_ne h2, _, rfl⟩
  · rintro i e B2 O2 G2 σ2 H2 v hie x2 ⟨vs, ns, hl, dvs, hri, hlen, hp2, hfr, g3, rfl⟩ st dv N hN
    obtain ⟨hi, rfl⟩ := range_inv hie
    have ez : (0 : Int) + (i : Int) = i := by omega
    rw [ez] at dv
    have hvl := dps_len dvs
    rw [List.length_map] at hvl
    refine eg_name B2 _ σ2 H2 v st dv _ fun σ3 st _ => ?_
    refine s_ifX st (ex_op (ex_draw rfl hp2 (n := 2) (by decide) (by decide)) (R2' := fun _ O' d2 O'' => d2 = .int 1 ∧ O'' = O') (R3 := fun d O' => (∃ b, d = .bool b) ∧ Mv p O2 O') (fun d1 B' O' _ _ => ex_pure ev_int) ?_) (fun d O' h => h.1) fun b B4 O4 H4 x4 hR st => ?_
    · rintro d1 O' d2 O'' ⟨r, rfl, _, _, m⟩ ⟨rfl, rfl⟩
      exact ⟨_, rd_eqInt, ⟨_, rfl⟩, m⟩
    · obtain ⟨_, m⟩ := hR
      have hl4 : O4 l = some (.lst vs) := by rw [m.fr l lp]; exact hl
      refine ⟨fun _ => ?_, fun _ => ?_⟩
      · refine s_app st rfl hl4 (by omega) (ev_var rfl) fun v5 B5 H5 x5 d5 st => ?_
        refine hN B5 _ _ _ _ (x4.trans x5) ⟨vs ++ [v5], ns ++ [(i : Int)], upd_same, ?_, ?_, ?_, ?_, fun a h1 h2 => ?_, _, rfl⟩ st
        · show DtAll K B5 _ (whole_list (ns ++ [(i : Int)]))
          rw [show whole_list (ns ++ [(i : Int)]) = whole_list ns ++ [.int (i : Int)] from by simp [whole_list]]
          exact dps_app (dps_ex (x4.trans x5) _ _ dvs) (dps_one d5)
        · exact rise_add hri (by omega) (by omega)
        · simp
          omega
        · obtain ⟨x, y, e, hy⟩ := m.pool
          exact ⟨x, y, by rw [upd_ne lp.symm]; exact e, hy⟩
        · rw [upd_ne h2, m.fr a h1]
          exact hfr a h1 h2
      · exact hN B4 _ _ _ _ x4 ⟨vs, ns, hl4, dps_ex x4 _ _ dvs, rise_mono hri (by omega), by omega, m.pool, fun a h1 h2 => by rw [m.fr a h1]; exact hfr a h1 h2, _, rfl⟩ st
  · rintro B2 O2 G2 σ2 H2 x2 ⟨vs, ns, hl, dvs, hri, hlen, hp2, hfr, g3, rfl⟩ st
    rw [rangeD_len] at hri hlen
    have e := upd_del hl
    refine s_retO st rfl e del_same dvs fun B3 H3 x3 w3 d3 => ?_
    refine q _ _ B3 _ H3 ((x1.trans x2).trans x3) ⟨ns, rfl, rise_mono hri (by omega), by omega, ?_, fun a h1 => ?_⟩ w3 d3
    · obtain ⟨x, y, e, hy⟩ := hp2
      exact ⟨x, y, by rw [del_ne lp.symm]; exact e, hy⟩
    · by_cases h3 : a = l
      · subst h3
        rw [del_same, nl]
      · rw [del_ne h3]
        exact hfr a h1 h3

end
end Toy
set_option Elab.async false
set_option linter.all false
set_option maxRecDepth 100000
set_option maxHeartbeats 4000000
namespace Toy
open PySem PySem.Spec PyProof.Rows L2 StX DL


theorem in_ints {x : Int} {ns : List Int} : inV (.int x) (ns.map V.int) = ns.contains x := by
  induction ns with
  | nil => rfl
  | cons y ys ih =>
    show ((y == x) || inV (.int x) (ys.map V.int)) = _
    rw [ih, List.contains_cons, show (y == x) = (x == y) from Bool.eq_iff_iff.mpr ⟨fun h => beq_iff_eq.mpr (eq_of_beq h).symm, fun h => beq_iff_eq.mpr (eq_of_beq h).symm⟩]
theorem fv_ints {ns : List Int} : (whole_list ns).map fv = ns.map V.int := by
  simp [whole_list, fv]
theorem flat_ints {ns : List Int} : (whole_list ns).all flatD = true := by
  simp [whole_list, flatD]
theorem at3 {α : Type} {x y z u : α} {xs : List α} : atI (x :: y :: z :: u :: xs) 3 = some u := by
  have h : (3 : Int) < (xs.length : Int) + 1 + 1 + 1 + 1 := by omega
  simp [atI, ixN, h]
/-- what the law draws: early, first, rhythm, tails -/
structure Fld where
  early : List Int
  first : Int
  rhythm : Int
  tails : List Int
def Fld.enc (f : Fld) : PyData := .tuple [.list (whole_list f.early), .int f.first, .int f.rhythm, .list (whole_list f.tails)]
structure Fld.Ok (f : Fld) : Prop where
  e : Rise f.early f.first
  f0 : 0 ≤ f.first ∧ f.first < 6
  r0 : 1 ≤ f.rhythm ∧ f.rhythm < 5
  t : Rise f.tails f.rhythm
  le : f.early.length ≤ 1000
  lt : f.tails.length ≤ 1000
/-- is the number a member -/
def Fld.has (f : Fld) (n : Int) : Bool := if n < f.first then f.early.contains n else f.tails.contains (n % f.rhythm)

section
variable {P : Program} {w : World} {K : PySem.W.Frag} {mg : Str → Option Value} {base : Heap}


def R_has (ds : List PyData) (d : PyData) : Prop := ∃ (f : Fld) (n : Int), 0 < f.rhythm ∧ ds = [f.enc, .int n] ∧ d = .bool (f.has n)
theorem ok_law_has {f : Addr} {fd : FuncData} (T : Txt K mg) (a : At K mg "_law_has" s_law_has ["fields", "number"] f fd) : FnOk P w K mg base CX0 2 f fd ["fields", "number"] (SpR K R_has) := by
  refine ok_fn a.fn sc_law_has (by rintro ds d ⟨f, n, _, rfl, _⟩; rfl) fun cdv A outer s H0 E hr ds d ⟨F, n, hp, e1, e2⟩ => ?_
  subst e1 e2
  refine ⟨_, (pss_cons (ps_if (pt_cmpR op_lt (pv 1) (pe_ix (ix_tupK K) (pv 0) pe_int (fun _ _ => rfl)) (nomark _)) (pss_one (ps_ret (pe_cmpR (op_inK K) (pv 1) (pe_ix (ix_tupK K) (pv 0) pe_int (fun _ _ => rfl)) (by rfl)))) pss_nil)
    (pss_one (ps_ret (pe_cmpR (op_inK K) (pe_op op_mod (pe_callTy call_int1 (by rfl) T.b_int (by decide +kernel) (pa_cons (pv 1) pa_nil)) (pe_ix (ix_tupK K) (pv 0) pe_int (fun _ _ => rfl))) (pe_ix (ix_tupK K) (pv 0) pe_int (fun _ _ => rfl)) (by rfl))))), fun B O σ H Q st q => ?_⟩
  refine q_when st (et_test (ev_op (ev_var rfl) (ev_op (ev_var rfl) ev_int (rd_ixT at1)) rd_B0)) (fun h1 B1 H1 x1 st => ?_) (fun h1 B1 H1 x1 st => ?_)
  · have h1' : n < F.first := by simpa using h1
    refine s_ret st (ev_op (ev_var rfl) (ev_op (ev_var rfl) ev_int (rd_ixT at0)) (rd_inL (b := F.has n) rfl flat_ints ?_)) fun v B' H' e w d => q v B' H' (x1.trans e) w d
    show inV (V.int n) ((whole_list F.early).map fv) = _
    rw [fv_ints, in_ints]
    unfold Fld.has
    rw [if_pos h1']
  · have h1' : ¬ n < F.first := by simpa using h1
    refine s_ret st (ev_op (ev_op (ev_cb (ea_cons (ev_var rfl) ea_nil) rc_intI) (ev_op (ev_var rfl) ev_int (rd_ixT at2)) (rd_I hp)) (ev_op (ev_var rfl) ev_int (rd_ixT at3)) (rd_inL (b := F.has n) rfl flat_ints ?_)) fun v B' H' e w d => q v B' H' (x1.trans e) w d
    show inV (V.int (n % F.rhythm)) ((whole_list F.tails).map fv) = _
    rw [fv_ints, in_ints]
    unfold Fld.has
    rw [if_neg h1']
def PreFields (gs : List SD) (_ O : Hp) (R : PyData → Hp → Prop) : Prop := ∃ p, gs = [.val (.ref p)] ∧ PoolAt O p ∧ R = fun d O' => ∃ f : Fld, f.Ok ∧ d = f.enc ∧ Mv p O O'
theorem ok_law_fields {f fr fs : Addr} {fd fdr fds : FuncData} (T : Txt K mg) (a : At K mg "_law_fields" s_law_fields ["pool"] f fd) (ad : At K mg "_law_draw" s_law_draw ["pool", "count"] fr fdr) (as_ : At K mg "_law_some" s_law_some ["pool", "size"] fs fds) :
    FnOk P w K mg base CX0 6 f fd ["pool"] (SpX K PreFields) := by
  have C_law_draw := ad.cal (ok_law_draw (P := P) (w := w) (base := base) T ad)
  have C_law_some := as_.cal (ok_law_some (P := P) (w := w) (base := base) T as_ ad)
  refine ok_fnX a.fn sc_law_fields (by rintro gs B O R ⟨p, rfl, _⟩; rfl) fun cdv A outer s H0 E hr => ?_
  refine ⟨_, (pss_cons (ps_set (i := 1) sc_law_fields.nd rfl (Or.inl rfl) (pe_cal C_law_draw hr (by omega) (by rfl) (pa_cons (pv 0) (pa_cons pe_int pa_nil))))
    (pss_cons (ps_set (i := 2) sc_law_fields.nd rfl (Or.inl rfl) (pe_cal C_law_some hr (by omega) (by rfl) (pa_cons (pv 0) (pa_cons (pv 1) pa_nil))))
    (pss_cons (ps_set (i := 3) sc_law_fields.nd rfl (Or.inl rfl) (pe_op op_add pe_int (pe_cal C_law_draw hr (by omega) (by rfl) (pa_cons (pv 0) (pa_cons pe_int pa_nil)))))
    (pss_one (ps_ret (pe_tup (pa_cons (pv 2) (pa_cons (pv 1) (pa_cons (pv 3) (pa_cons (pe_cal C_law_some hr (by omega) (by rfl) (pa_cons (pv 0) (pa_cons (pv 3) pa_nil))) pa_nil)))))))))), ?_⟩
  rintro gs B O R σ H Q ⟨p, rfl, hp, rfl⟩ st q
  refine qx_asg st (ex_draw rfl hp (by decide) (by decide)) fun v1 d1 B1 O1 H1 x1 ⟨n, e1, n0, n1, m1⟩ dv1 st => ?_
  subst e1
  refine qx_asg st (ex_call (as_val (evV_var rfl) (as_dat (ev_var rfl) as_nil)) fun B' _ => ⟨p, n, rfl, m1.pool, by omega, by omega, rfl⟩) fun v2 d2 B2 O2 H2 x2 ⟨ns, e2, hns, hl, m2⟩ dv2 st => ?_
  subst e2
  refine qx_asg st (ex_op (ex_pure ev_int) (R2' := fun _ O' d O'' => ∃ r, d = .int r ∧ 0 ≤ r ∧ r < 4 ∧ Mv p O' O'') (R3 := fun d O' => ∃ r, d = .int (1 + r) ∧ 0 ≤ r ∧ r < 4 ∧ Mv p O2 O') (fun d B' O' _ e => ?_) ?_) fun v3 d3 B3 O3 H3 x3 ⟨r, e3, r0, r1, m3⟩ dv3 st => ?_
  · obtain ⟨rfl, rfl⟩ := e
    exact ex_draw rfl m2.pool (by decide) (by decide)
  · rintro d O' d' O'' ⟨rfl, rfl⟩ ⟨r, rfl, r0, r1, m⟩
    exact ⟨_, rd_I0, r, rfl, r0, r1, m⟩
  subst e3
  refine sx_ret st (ex_tup (T := fun ds O' => ∃ ms, Rise ms (1 + r) ∧ ms.length ≤ 1000 ∧ ds = [.list (whole_list ns), .int n, .int (1 + r), .list (whole_list ms)] ∧ Mv p O3 O')
    (exs_cons (S := fun _ O' ds O'' => ∃ ms, Rise ms (1 + r) ∧ ms.length ≤ 1000 ∧ ds = [.int n, .int (1 + r), .list (whole_list ms)] ∧ Mv p O' O'') (ex_pure (ev_var rfl)) (fun d B' O' _ e => ?_) ?_) ?_) fun v d B4 O4 H4 x4 hR w4 dv => ?_
  · obtain ⟨rfl, rfl⟩ := e
    refine exs_cons (S := fun _ O' ds O'' => ∃ ms, Rise ms (1 + r) ∧ ms.length ≤ 1000 ∧ ds = [.int (1 + r), .list (whole_list ms)] ∧ Mv p O' O'') (ex_pure (ev_var rfl)) (fun d B' O' _ e => ?_) ?_
    · obtain ⟨rfl, rfl⟩ := e
      refine exs_cons (S := fun _ O' ds O'' => ∃ ms, Rise ms (1 + r) ∧ ms.length ≤ 1000 ∧ ds = [.list (whole_list ms)] ∧ Mv p O' O'') (ex_pure (ev_var rfl)) (fun d B' O' _ e => ?_) ?_
      · obtain ⟨rfl, rfl⟩ := e
        refine exs_cons (R := fun d O'' => ∃ ms, d = .list (whole_list ms) ∧ Rise ms (1 + r) ∧ ms.length ≤ 1000 ∧ Mv p O' O'') (S := fun _ O' ds O'' => ds = [] ∧ O'' = O') (ex_call (as_val (evV_var rfl) (as_dat (ev_var rfl) as_nil)) fun B' _ => ⟨p, 1 + r, rfl, m3.pool, by omega, by omega, rfl⟩) (fun d B'' O'' _ _ => exs_nil) ?_
        rintro d O5 ds O6 ⟨ms, rfl, h1, h2, m⟩ ⟨rfl, rfl⟩
        exact ⟨ms, h1, h2, rfl, m⟩
      · rintro d O5 ds O6 ⟨rfl, rfl⟩ ⟨ms, h1, h2, rfl, m⟩
        exact ⟨ms, h1, h2, rfl, m⟩
    · rintro d O5 ds O6 ⟨rfl, rfl⟩ ⟨ms, h1, h2, rfl, m⟩
      exact ⟨ms, h1, h2, rfl, m⟩
  · rintro d O5 ds O6 ⟨rfl, rfl⟩ ⟨ms, h1, h2, rfl, m⟩
    exact ⟨ms, h1, h2, rfl, m⟩
  · rintro ds O5 ⟨ms, _, _, rfl, _⟩
    simp
  · obtain ⟨ds, rfl, ms, h1, h2, rfl, m4⟩ := hR
    exact q v _ B4 O4 H4 (((x1.trans x2).trans x3).trans x4) ⟨⟨ns, n, 1 + r, ms⟩, ⟨hns, ⟨n0, n1⟩, ⟨by show (1 : Int) ≤ 1 + r; omega, by show 1 + r < 5; omega⟩, h1, hl, h2⟩, rfl, ((m1.trans m2).trans m3).trans m4⟩ w4 dv

end
end Toy
set_option Elab.async false
set_option linter.all false
set_option maxRecDepth 100000
set_option maxHeartbeats 2000000
/-! Dicts by a comprehension, while, repetition, values that stand still and are told by what the heap says of them. -/
namespace L2
/-- a dict comprehension over a walk -/
theorem dc_it {J : It} {n : Nat} {G : Hp → Prop} {Y : Nat → Hp → V → Hp → Prop} (w : Walk J n G Y) {g : TG} {tt : TT} {tk tv : TE} {vs : List Nat} {σ : St} {H1 : Hp} {D : PySem.Addr} {Qd : Hp → Prop} (Iv : Nat → Hp → Prop) (start : Iv 0 (upd H1 D (.dK []))) (stays : ∀ i H, i ≤ n → Iv i H → G H)
    (turn : ∀ i x H H', i < n → Iv i H → Y i H x H' → g x (wipe σ vs) H' fun σ2 H2 => wipe σ2 vs = wipe σ vs ∧ tt σ2 H2 fun b H3 =>
      if b = true then tk σ2 H3 fun y H4 => tv σ2 H4 fun z H5 => ∃ ds key, y = kV key ∧ H5 D = some (.dK ds) ∧ ds.length < PySem.sizeLine ∧ Iv (i + 1) (upd H5 D (.dK (putK ds key z))) else Iv (i + 1) H3) (ends : ∀ H, Iv n H → Qd H) :
    ∃ W : Nat → Nat → Hp → Prop, (∃ m, W 0 m (upd H1 D (.dK []))) ∧ ∀ i m H, W i m H →
      (J.stop i H ∧ Qd H) ∨ (J.go i H ∧ ∃ Nx : Hp → Prop, (∀ H', Nx H' → ∃ m', m' < m ∧ W (i + 1) m' H') ∧ ∀ x H', J.yld i H x H' → g x (wipe σ vs) H' fun σ2 H2 => wipe σ2 vs = wipe σ vs ∧ tt σ2 H2 fun b H3 =>
        if b = true then tk σ2 H3 fun y H4 => tv σ2 H4 fun z H5 => ∃ ds key, y = kV key ∧ H5 D = some (.dK ds) ∧ ds.length < PySem.sizeLine ∧ Nx (upd H5 D (.dK (putK ds key z))) else Nx H3) := by
  refine ⟨fun i m H => m = n - i ∧ i ≤ n ∧ Iv i H, ⟨n, by simp, Nat.zero_le _, start⟩, ?_⟩
  rintro i left H ⟨rfl, hi, p⟩
  have q := stays i H hi p
  by_cases hlt : i < n
  · refine .inr ⟨w.goes i H hlt q, Iv (i + 1), fun H' p' => ⟨n - (i + 1), by omega, rfl, hlt, p'⟩, fun x H' y => turn i x H H' hlt p (w.yields i H x H' hlt q y)⟩
  · have e : i = n := by omega
    subst e
    exact .inl ⟨w.stops H q, ends H p⟩
end L2
namespace DL
open PySem PySem.Spec PyProof.Rows L2 StX
/-- evaluates to a value of which P holds where it stands -/
def EvP (K : PySem.W.Frag) (B O : Hp) (G : List SD) (te : TE) (P : Hp → V → Prop) : Prop := ∀ B1 O1 σ H, Ex B B1 → Ex O O1 → Sta K B1 O1 G σ H → ∀ Q : VK, (∀ v B' H', Ex B1 B' → W B' O1 H' → P B' v → Q v H') → te σ H Q
section
variable {K : PySem.W.Frag} {B O : Hp} {G : List SD} {σ : L2.St} {H : Hp} {te ta tb : TE} {tz : TS} {D : Ends} {P : Hp → V → Prop} {i j : Nat}
theorem q_asgP (s : Sta K B O G σ H) (h : EvP K B O G te P) (k : ∀ v B' H', Ex B B' → P B' v → Sta K B' O (G.set i (.val v)) (σ.set i (some v)) H' → tz D (σ.set i (some v)) H') : tSeq (tAsg te (gName i)) tz D σ H :=
  h B O σ H (Ex.refl _) (Ex.refl _) s _ fun v B' H' e w p => k v B' H' e p ((s.ex e w).setV i)
theorem s_retP (s : Sta K B O G σ H) (h : EvP K B O G te P) (k : ∀ v B' H', Ex B B' → W B' O H' → P B' v → D.rt v H') : tRet te D σ H :=
  h B O σ H (Ex.refl _) (Ex.refl _) s _ fun v B' H' e w p => k v B' H' e w p
/-- a dict whose keys are the ints ns -/
def Ks (ns : List Int) (B : Hp) (v : V) : Prop := ∃ D kvs, v = .ref D ∧ B D = some (.dK kvs) ∧ ∀ i : Int, (valV kvs (.inl i : Key)).isSome = ns.contains i
theorem Ks.ex {ns : List Int} {B B' : Hp} {v : V} (h : Ks ns B v) (e : Ex B B') : Ks ns B' v := by
  obtain ⟨D, kvs, h1, h2, h3⟩ := h
  exact ⟨D, kvs, h1, e _ _ h2, h3⟩
/-- {x: True for x in ..} -/
theorem ev_keys {wi : TI} {ns : List Int} (hj : j < G.length) (hI : EvI K B O G wi (ns.map .int)) (hz : ns.length ≤ 100000) : EvP K B O G (tDc wi (gName j) tYes (tVar j) (tC (.bl true)) [j]) (Ks ns) := fun B1 O1 σ H e1 o s Q q => by
  refine hI B1 O1 σ H e1 o s _ fun J B2 H2 e2 w2 gv D hD => ?_
  obtain ⟨n, G0, Y, hn, wk, hG0, hY⟩ := gv
  have oD : O1 D = none := w2.fo hD
  rw [List.length_map] at hn
  refine dc_it wk (fun i H' => ∃ B' kvs, Ex B2 B' ∧ W B' (upd O1 D (.dK kvs)) H' ∧ kvs.length ≤ i ∧ ∀ z : Int, (valV kvs (.inl z : Key)).isSome = (ns.take i).contains z)
    ⟨B2, [], Ex.refl _, w2.newO hD, Nat.zero_le _, fun z => by simp [valV]⟩ (fun i H' _ ⟨B', kvs, e', w', _⟩ => hG0 B' _ H' e' w') ?_ ?_
  · rintro i x H3 H4 hi ⟨B3, kvs, e3, w3, hl, hk⟩ y
    obtain ⟨e, B4, hie, e4, w4, dx⟩ := hY i H3 x H4 B3 _ e3 w3 hi y
    obtain ⟨z, hz', rfl⟩ := map_inv hie
    have ex := dp_int dx
    subst ex
    have hj' : j < (L2.wipe σ [j]).length := by
      rw [wipe_length]
      rw [slots_len s.s]
      exact hj
    refine ⟨wipe_set (by simp) |>.trans wipe_wipe, ?_⟩
    show ∃ v, _
    refine ⟨.int z, by rw [List.getElem?_set]; simp [hj'], kvs, .inl z, rfl, w4.o D _ upd_same, Nat.lt_of_le_of_lt (m := 100000) (by omega) (by decide), ?_⟩
    refine ⟨B4, putK kvs (.inl z) (.bl true), e3.trans e4, ?_, ?_, fun u => ?_⟩
    · have := w4.mut (v := .dK (putK kvs (.inl z) (.bl true))) upd_same
      rw [upd_upd] at this
      exact this
    · have := length_putK kvs (.inl z : Key) (.bl true)
      omega
    · rw [valV_put, List.take_add_one, hz']
      simp only [Option.toList_some, List.contains_append, List.contains_cons, List.contains_nil, Bool.or_false]
      rw [← hk u]
      by_cases hu : u = z
      · subst hu
        simp
      · have : ¬ (Sum.inl u : Key) = .inl z := by simpa using hu
        rw [if_neg this]
        simp [hu]
  · rintro H3 ⟨B3, kvs, e3, w3, hl, hk⟩
    have hb := w3.bnone upd_same
    rw [hn, List.take_length] at hk
    exact q _ (upd B3 D (.dK kvs)) H3 ((e2.trans e3).trans (Ex.new hb)) (w3.give oD) ⟨D, kvs, rfl, upd_same, hk⟩
/-- x in d -/
theorem ev_din {ns : List Int} {v : V} {z : Int} (ha : EvD K B O G ta (.int z)) (hg : G[i]? = some (.val v)) (hk : Ks ns B v) : EvD K B O G (tDIn ta (tVar i)) (.bool (ns.contains z)) := fun B1 O1 σ H e o s Q q =>
  ha B1 O1 σ H e o s _ fun u B2 H2 e2 w2 d2 => by
    obtain ⟨sv, h1, h2⟩ := s.s.get hg
    have h3 : sv = some v := h2
    subst h3
    refine ⟨v, h1, ?_⟩
    obtain ⟨D, kvs, rfl, hb, hkv⟩ := hk
    rw [dp_int d2]
    refine ⟨D, valV kvs (.inl z : Key), rfl, .inl ⟨kvs, .inl z, .inl (w2.b _ _ (e2 _ _ (e _ _ hb))), rfl, rfl⟩, ?_⟩
    rw [hkv z]
    exact q _ B2 H2 e2 w2 (.bl _)
/-- xs * k -/
theorem dps_flat : ∀ {k : Nat} {ds : List PyData} {vs : List V}, DtAll K B vs ds → DtAll K B (List.replicate k vs).flatten (List.replicate k ds).flatten
  | 0, _, _, _ => .nil
  | k + 1, ds, vs, h => by
    rw [List.replicate_succ, List.replicate_succ, List.flatten_cons, List.flatten_cons]
    exact dps_app h (dps_flat h)
theorem rd_rep {ds : List PyData} {k : Int} (hk : 0 ≤ k ∧ k ≤ 100000) (hz : ds.length * k.toNat ≤ 100000) : RD K rRep (.list ds) (.int k) (.list (List.replicate k.toNat ds).flatten) := fun B1 O1 H v w hw hv hx Q q => by
  obtain ⟨a, xs, rfl, h1, h2⟩ := dp_lst hv
  rw [dp_int hx]
  refine ⟨a, k, xs, rfl, rfl, hw.b _ _ h1, by omega, by omega, sz_of (by rw [dps_len h2]; exact hz), fun p hp => ?_⟩
  exact q _ (upd B1 p _) _ (Ex.new (hw.fb hp)) (hw.newB hp) (.lst upd_same (dps_ex (Ex.new (hw.fb hp)) _ _ (dps_flat h2)))
/-- while: a measure that falls -/
theorem q_while {tt : TT} {tu : TS} (s : Sta K B O G σ H) (Pm : Nat → Hp → Hp → List SD → Prop) (m0 : Nat) (h0 : Pm m0 B O G)
    (hs : ∀ m B1 O1 G1 σ1 H1, Ex B B1 → Pm m B1 O1 G1 → Sta K B1 O1 G1 σ1 H1 → ∃ b, EvT K B1 O1 G1 tt b ∧ (b = true → ∀ B2 H2, Ex B1 B2 → Sta K B2 O1 G1 σ1 H2 → ∀ N : L2.St → Hp → Prop, (∀ m' B' O' G' σ' H', m' < m → Ex B2 B' → Pm m' B' O' G' → Sta K B' O' G' σ' H' → N σ' H') → tu { D with nx := N, ct := N, bk := tz D } σ1 H2) ∧
      (b = false → ∀ B2 H2, Ex B1 B2 → Sta K B2 O1 G1 σ1 H2 → tz D σ1 H2)) : tSeq (tWhile tt tu) tz D σ H := by
  refine ⟨fun m σ' H' => ∃ B' O' G', Ex B B' ∧ Pm m B' O' G' ∧ Sta K B' O' G' σ' H', ⟨m0, B, O, G, Ex.refl _, h0, s⟩, ?_⟩
  rintro m σ1 H1 ⟨B1, O1, G1, e1, p1, s1⟩
  obtain ⟨b, hb, k1, k2⟩ := hs m B1 O1 G1 σ1 H1 e1 p1 s1
  refine hb B1 O1 σ1 H1 (Ex.refl _) (Ex.refl _) s1 _ fun B2 H2 e2 w2 => ?_
  cases b with
  | true =>
    rw [if_pos rfl]
    refine ⟨fun σ' H' => ∃ m', m' < m ∧ ∃ B' O' G', Ex B B' ∧ Pm m' B' O' G' ∧ Sta K B' O' G' σ' H', fun σ' H' ⟨m', hm, h⟩ => ⟨m', hm, h⟩, ?_⟩
    exact k1 rfl B2 H2 e2 (s1.ex e2 w2) _ fun m' B' O' G' σ' H' hm e' p' s' => ⟨m', hm, B', O', G', (e1.trans e2).trans e', p', s'⟩
  | false =>
    rw [if_neg Bool.false_ne_true]
    exact k2 rfl B2 H2 e2 (s1.ex e2 w2)
end
end DL

set_option Elab.async false
set_option linter.all false
set_option maxRecDepth 100000
set_option maxHeartbeats 4000000
namespace Toy
open PySem PySem.Spec PyProof.Rows L2 StX DL
section
variable {P : Program} {w : World} {K : PySem.W.Frag} {mg : Str → Option Value} {base : Heap}


theorem units1 {k : Nat} {A : Around} (r : Room k A) : A.units + 1 < cLine := by
  have := r.un
  omega
/-- a list or tuple of ints -/
def seqInts (d : PyData) (ns : List Int) : Prop := d = .list (whole_list ns) ∨ d = .tuple (whole_list ns)
def marksOf (ns : List Int) (many : Int) : List Bool := (List.range many.toNat).map fun (i : Nat) => ns.contains (i : Int)
abbrev bools (bs : List Bool) : List PyData := bs.map .bool
def R_marks (ds es : List PyData) : Prop := ∃ x ns many, seqInts x ns ∧ ns.length ≤ 100000 ∧ 0 ≤ many ∧ many ≤ 5000 ∧ ds = [x, .int many] ∧ es = bools (marksOf ns many)
theorem ok_marks_for {f : Addr} {fd : FuncData} (T : Txt K mg) (a : At K mg "marks_for" s_marks_for ["numbers", "many"] f fd) : FnOk P w K mg base CX0 2 f fd ["numbers", "many"] (SpL K R_marks) := by
  refine ok_fnL a.fn sc_marks_for (by rintro ds d ⟨x, ns, many, _, _, _, _, rfl, _⟩; rfl) fun cdv A outer s H0 E hr ds d ⟨x, ns, many, hx, hl, h0, h1, e1, e2⟩ => ?_
  subst e1 e2
  refine ⟨_, (pss_cons (ps_set (i := 2) sc_marks_for.nd rfl (Or.inr rfl) (pe_dc (own := [("number", 3)]) (by rfl) sc_marks_for.nd ((fun h => pi_or (pi_listK K h) (pi_tupK K h)) (pv 0)) (blkOk_by (own := [("number", 3)]) (N := N_sc_marks_for) (sc := defScope s_marks_for) (by decide +kernel)) (fun _ _ _ _ _ => (pg_name (i := 3) sc_marks_for.nd rfl (Or.inl rfl))) (fun _ _ _ _ _ => pts_nil) (fun _ _ _ _ _ => (pv 3)) (fun _ _ _ _ _ => pe_bl)))
    (pss_one (ps_ret (pe_lc (own := [("number", 3)]) (by rfl) sc_marks_for.nd (pi_range1 (by rfl) T.b_range (pa_cons (pv 1) pa_nil)) (blkOk_by (own := [("number", 3)]) (N := N_sc_marks_for) (sc := defScope s_marks_for) (by decide +kernel)) (fun _ _ _ _ _ => (pg_name (i := 3) sc_marks_for.nd rfl (Or.inl rfl))) (fun _ _ _ _ _ => pts_nil) (fun _ _ _ _ _ => (pe_cmp (pc_din (units1 hr) (pv 3) (pv 2)) (by rfl))))))), fun B O σ H Q st q => ?_⟩
  refine q_asgP st (ev_keys (ns := ns) (show 3 < 4 from by decide) ?_ hl) fun v B1 H1 x1 hk st => ?_
  · rcases hx with rfl | rfl
    · exact ei_orL (ei_list (ev_var rfl))
    · exact ei_orR (ei_tup (ev_var rfl))
  refine s_retL st (el_map (List.range many.toNat) (fun i => .int (i : Int)) (fun i => .bool (ns.contains (i : Int))) (fun i => _) ?_ (by rw [List.length_range]; omega) (fun i _ => eg_nameW (by decide)) (fun i _ => ev_din (ev_var rfl) rfl hk)) fun p ws B2 H2 x2 n2 w2 d2 => ?_
  · have e : rangeD 0 many.toNat = (List.range many.toNat).map fun (i : Nat) => PyData.int (i : Int) := by
      unfold rangeD
      refine List.map_congr_left fun i _ => ?_
      rw [show (0 : Int) + (i : Int) = i by omega]
    rw [← e]
    exact ei_range1 (j := many) (ea_cons (ev_var rfl) ea_nil) (by omega)
  · refine q p ws B2 H2 (x1.trans x2) n2 w2 ?_
    have e : bools (marksOf ns many) = (List.range many.toNat).map fun (i : Nat) => PyData.bool (ns.contains (i : Int)) := by
      unfold marksOf bools
      rw [List.map_map]
      rfl
    rw [e]
    exact d2

end
end Toy
set_option Elab.async false
set_option linter.all false
set_option maxRecDepth 100000
set_option maxHeartbeats 4000000
namespace Toy
open PySem PySem.Spec PyProof.Rows L2 StX DL
section
variable {P : Program} {w : World} {K : PySem.W.Frag} {mg : Str → Option Value} {base : Heap}


theorem lay_bools {bs : List Bool} : PT.Lay 1 (.list (bools bs)) := by
  refine PT.lay_lst (n := 0) fun d hd => ?_
  obtain ⟨b, _, rfl⟩ := List.mem_map.mp hd
  exact PT.lay_good (by simp [PT.good, flatD, SeqAt.shaped, PyData.canLay0, PyData.depth])
theorem eqv_bools : ∀ {a b : List Bool}, PyData.eqv (.list (bools a)) (.list (bools b)) = decide (a = b) := by
  have key : ∀ {a b : List Bool}, PyData.eqvAll (bools a) (bools b) = decide (a = b) := by
    intro a
    induction a with
    | nil => intro b; cases b <;> simp [bools, PyData.eqvAll]
    | cons x a ih =>
      intro b
      cases b with
      | nil => simp [bools, PyData.eqvAll]
      | cons y b =>
        have ih' := ih (b := b)
        unfold bools at ih' ⊢
        rw [List.map_cons, List.map_cons, PyData.eqvAll, ih']
        cases x <;> cases y <;> simp [PyData.eqv]
  intro a b
  have k := key (a := a) (b := b)
  simpa [PyData.eqv] using k
def isPer (bs : List Bool) (p : Nat) : Bool := bs.length % p == 0 && decide (bs = (List.replicate (bs.length / p) (bs.take p)).flatten)
/-- the least period that makes the marks up -/
def leastP (bs : List Bool) : Nat := ((List.range (bs.length - 1)).map (· + 1)).find? (isPer bs) |>.getD bs.length
theorem find_range {f : Nat → Bool} {n i : Nat} (hi : i < n) (h : ∀ j, j < i → f (j + 1) = false) (ht : f (i + 1) = true) : ((List.range n).map (· + 1)).find? f = some (i + 1) := by
  rw [List.find?_map]
  have : (List.range n).find? (f ∘ (· + 1)) = some i := by
    rw [List.find?_eq_some_iff_getElem]
    refine ⟨ht, i, by simpa using hi, by simp, fun j hj => ?_⟩
    simp [h j hj]
  rw [this]
  rfl
theorem find_none {f : Nat → Bool} {n : Nat} (h : ∀ j, j < n → f (j + 1) = false) : ((List.range n).map (· + 1)).find? f = none := by
  rw [List.find?_eq_none]
  intro x hx
  obtain ⟨j, hj, rfl⟩ := List.mem_map.mp hx
  rw [h j (List.mem_range.mp hj)]
  exact Bool.false_ne_true
def R_lp (ds : List PyData) (d : PyData) : Prop := ∃ bs : List Bool, 1 ≤ bs.length ∧ bs.length ≤ 5000 ∧ ds = [.list (bools bs)] ∧ d = .int (leastP bs : Nat)
theorem bools_len {bs : List Bool} : (bools bs).length = bs.length := List.length_map ..
theorem cut_bools {bs : List Bool} {p : Nat} : cutX (bools bs) none (some (p : Int)) = bools (bs.take p) := by
  have e : HT.sIx (bools bs).length (bools bs).length (some (p : Int)) = min p (bools bs).length := HT.sIx_nat ..
  unfold cutX
  rw [e, HT.sIx_none, List.drop_zero, Nat.sub_zero]
  unfold bools
  rw [← List.map_take]
  by_cases hl : p ≤ (bs.map PyData.bool).length
  · rw [Nat.min_eq_left hl]
  · rw [Nat.min_eq_right (by omega), List.length_map, List.take_length, List.take_of_length_le (by rw [List.length_map] at hl; omega)]
theorem rep_bools {bs : List Bool} : ∀ {k : Nat}, (List.replicate k (bools bs)).flatten = bools (List.replicate k bs).flatten
  | 0 => rfl
  | k + 1 => by
    rw [List.replicate_succ, List.replicate_succ, List.flatten_cons, List.flatten_cons, rep_bools (k := k)]
    unfold bools
    rw [List.map_append]
theorem ok_least_period {f : Addr} {fd : FuncData} (T : Txt K mg) (a : At K mg "least_period" s_least_period ["marks"] f fd) : FnOk P w K mg base CX0 2 f fd ["marks"] (SpR K R_lp) := by
  refine ok_fn a.fn sc_least_period (by rintro ds d ⟨bs, _, _, rfl, _⟩; rfl) fun cdv A outer s H0 E hr ds d ⟨bs, hl1, hl2, e1, e2⟩ => ?_
  subst e1 e2
  refine ⟨_, (pss_cons (ps_for PassesOwn.never rfl (pi_range2 (by rfl) T.b_range (pa_cons pe_int (pa_cons (pe_callB (call_lenK K) (by rfl) T.b_len PySem.boot_len (pa_cons (pv 0) pa_nil)) pa_nil))) (pg_name (i := 1) sc_least_period.nd rfl (Or.inl rfl)) (pss_one (ps_if (PW.pt (pw_and (pt_cmpR op_eq (pe_op op_mod (pe_callB (call_lenK K) (by rfl) T.b_len PySem.boot_len (pa_cons (pv 0) pa_nil)) (pv 1)) pe_int (nomark _)) (pw_and1 (pt_cmpR (op_eqDK K hr.units) (pv 0) (pe_op op_rep (pe_slice (sl_listK K) (pv 0) po_none (po_some (pv 1))) (pe_op op_fdiv (pe_callB (call_lenK K) (by rfl) T.b_len PySem.boot_len (pa_cons (pv 0) pa_nil)) (pv 1))) (nomark _))))) (pss_one (ps_ret (pv 1))) pss_nil)))
    (pss_one (ps_ret (pe_callB (call_lenK K) (by rfl) T.b_len PySem.boot_len (pa_cons (pv 0) pa_nil))))), fun B O σ H Q st q => ?_⟩
  refine q_for st (ei_range2 (i := 1) (j := bs.length) (ea_cons ev_int (ea_cons (ev_is (ev_cb (ea_cons (ev_var rfl) ea_nil) rc_lenL) (by rw [bools_len])) ea_nil)) (by omega) (by omega))
    (fun i B' O' G' => O' = O ∧ (∀ j, j < i → isPer bs (j + 1) = false) ∧ ∃ g2 : SD, G' = [.dat (.list (bools bs)), g2]) ?_ ?_ ?_ ?_
  · exact fun i B1 B2 O1 G1 _ h => h
  · exact ⟨rfl, fun j hj => absurd hj (Nat.not_lt_zero _), _, rfl⟩
  · rintro i e B1 O1 G1 σ1 H1 v hie x1 ⟨rfl, hno, g2, rfl⟩ st dv N hN
    obtain ⟨hi, rfl⟩ := range_inv hie
    have ez : (1 : Int) + (i : Int) = ((i + 1 : Nat) : Int) := by omega
    rw [ez] at dv
    refine eg_name B1 _ σ1 H1 v st dv _ fun σ2 st _ => ?_
    have hmod : ((bs.length : Int) % ((i + 1 : Nat) : Int) == 0) = (bs.length % (i + 1) == 0) := by
      rw [Bool.eq_iff_iff, beq_iff_eq, beq_iff_eq]
      omega
    have hdiv : ((bs.length : Int) / ((i + 1 : Nat) : Int)).toNat = bs.length / (i + 1) := by
      rw [← Int.natCast_ediv]
      rfl
    have hsz : (i + 1) * (bs.length / (i + 1)) ≤ bs.length := Nat.mul_div_le _ _
    have hd0 : (0 : Int) ≤ (bs.length : Int) / ((i + 1 : Nat) : Int) := Int.ediv_nonneg (by omega) (by omega)
    have hd1 : (bs.length : Int) / ((i + 1 : Nat) : Int) ≤ 5000 := by
      rw [← Int.natCast_ediv]
      have := Nat.div_le_self bs.length (i + 1)
      omega
    have htk : (bs.take (i + 1)).length ≤ i + 1 := List.length_take_le ..
    refine s_if st (b := isPer bs (i + 1)) (et_is (et_and (a := bs.length % (i + 1) == 0) (b := decide (bs = (List.replicate (bs.length / (i + 1)) (bs.take (i + 1))).flatten))
        (et_test (ev_is (ev_op (ev_op (ev_is (ev_cb (ea_cons (ev_var rfl) ea_nil) rc_lenL) (by rw [bools_len])) (ev_var rfl) (rd_I (by omega))) ev_int rd_eqInt) (by rw [hmod])))
        fun _ => et_test (ev_op (ev_var rfl) (ev_op (ev_is (ev_slL (ev_var rfl) eo_none (eo_some (ev_var rfl))) (by rw [cut_bools])) (ev_op (ev_is (ev_cb (ea_cons (ev_var rfl) ea_nil) rc_lenL) (by rw [bools_len])) (ev_var rfl) (rd_I ⟨by omega, by omega⟩)) (rd_rep ⟨hd0, by omega⟩ ?_)) (rd_eq (lay_bools.sh (by decide)) ?_ ?_))) rfl) (fun h1 B2 H2 x2 st => ?_) (fun h1 B2 H2 x2 st => ?_)
    · rw [bools_len, hdiv]
      have := Nat.mul_le_mul_right (bs.length / (i + 1)) htk
      omega
    · rw [hdiv, rep_bools]
      exact lay_bools.sh (by decide)
    · rw [hdiv, rep_bools]
      exact eqv_bools
    · have hlp : leastP bs = i + 1 := by
        unfold leastP
        rw [find_range (by omega) hno h1]
        rfl
      refine s_ret st (ev_var rfl) fun v3 B3 H3 x3 w3 d3 => ?_
      rw [hlp] at q
      exact q v3 B3 H3 ((x1.trans x2).trans x3) w3 d3
    · refine hN B2 _ _ _ _ x2 ⟨rfl, fun j hj => ?_, _, rfl⟩ st
      by_cases e : j = i
      · subst e
        exact h1
      · exact hno j (by omega)
  · rintro B1 O1 G1 σ1 H1 x1 ⟨rfl, hno, g2, rfl⟩ st
    rw [rangeD_len] at hno
    have hlp : leastP bs = bs.length := by
      unfold leastP
      rw [find_none fun j hj => hno j (by omega)]
      rfl
    refine s_ret st (ev_is (ev_cb (ea_cons (ev_var rfl) ea_nil) rc_lenL) (by rw [bools_len])) fun v3 B3 H3 x3 w3 d3 => ?_
    rw [hlp] at q
    exact q v3 B3 H3 (x1.trans x3) w3 d3
def leastS (ms cs : List Bool) : Nat → Nat
  | 0 => 0
  | s + 1 => if (ms.getD s false == cs.getD (s % cs.length) false) = true then leastS ms cs s else s + 1
def R_ls (ds : List PyData) (d : PyData) : Prop := ∃ ms cs : List Bool, ms.length ≤ 5000 ∧ 1 ≤ cs.length ∧ cs.length ≤ 5000 ∧ ds = [.list (bools ms), .tuple (bools cs)] ∧ d = .int (leastS ms cs ms.length : Nat)
theorem at_bools {bs : List Bool} {i : Nat} (h : i < bs.length) : atI (bools bs) (i : Int) = some (.bool (bs.getD i false)) := by
  refine at_nn (by omega) ?_
  show (bools bs)[i]? = _
  unfold bools
  rw [List.getElem?_map, List.getD_eq_getElem?_getD, List.getElem?_eq_getElem h]
  rfl
theorem ok_least_start {f : Addr} {fd : FuncData} (T : Txt K mg) (a : At K mg "least_start" s_least_start ["marks", "cycle"] f fd) : FnOk P w K mg base CX0 2 f fd ["marks", "cycle"] (SpR K R_ls) := by
  refine ok_fn a.fn sc_least_start (by rintro ds d ⟨ms, cs, _, _, _, rfl, _⟩; rfl) fun cdv A outer s H0 E hr ds d ⟨ms, cs, hm, hc1, hc2, e1, e2⟩ => ?_
  subst e1 e2
  refine ⟨_, (pss_cons (ps_set (i := 2) sc_least_start.nd rfl (Or.inl rfl) (pe_callB (call_lenK K) (by rfl) T.b_len PySem.boot_len (pa_cons (pv 0) pa_nil)))
    (pss_cons (ps_while PassesOwn.never (PW.pt (pw_and (pt_cmpR op_gt (pv 2) pe_int (nomark _)) (pw_and1 (pt_cmpR op_eq (pe_ix (ix_listK K) (pv 0) (pe_op op_sub (pv 2) pe_int) (fun _ _ => rfl)) (pe_ix (ix_tupK K) (pv 1) (pe_op op_mod (pe_op op_sub (pv 2) pe_int) (pe_callB (call_lenK K) (by rfl) T.b_len PySem.boot_len (pa_cons (pv 1) pa_nil))) (fun _ _ => rfl)) (nomark _))))) (pss_one (ps_set (i := 2) sc_least_start.nd rfl (Or.inl rfl) (pe_op op_sub (pv 2) pe_int))))
    (pss_one (ps_ret (pv 2))))), fun B O σ H Q st q => ?_⟩
  refine q_asg st (ev_is (ev_cb (ea_cons (ev_var rfl) ea_nil) rc_lenL) (by rw [bools_len])) fun v1 B1 H1 x1 d1 st => ?_
  refine q_while st (fun m B' O' G' => O' = O ∧ m ≤ ms.length ∧ leastS ms cs m = leastS ms cs ms.length ∧ G' = [.dat (.list (bools ms)), .dat (.tuple (bools cs)), .dat (.int (m : Int))]) ms.length ⟨rfl, Nat.le_refl _, rfl, rfl⟩ ?_
  rintro m B2 O2 G2 σ2 H2 x2 ⟨rfl, hml, hls, rfl⟩ st
  cases m with
  | zero =>
    refine ⟨false, et_is (et_and (a := false) (b := true) (et_test (ev_is (ev_op (ev_var rfl) ev_int rd_B0) (by simp))) fun z => Bool.noConfusion z) rfl, fun z => Bool.noConfusion z, fun _ B3 H3 x3 st => ?_⟩
    refine s_ret st (ev_var rfl) fun v4 B4 H4 x4 w4 d4 => ?_
    rw [← hls] at q
    exact q v4 B4 H4 (((x1.trans x2).trans x3).trans x4) w4 d4
  | succ m =>
    have e1 : ((m + 1 : Nat) : Int) - 1 = (m : Int) := by omega
    have hmod : ((m : Int) % (cs.length : Int)) = ((m % cs.length : Nat) : Int) := by omega
    have hlt : m % cs.length < cs.length := Nat.mod_lt _ (by omega)
    refine ⟨ms.getD m false == cs.getD (m % cs.length) false, et_is (et_and (a := true) (b := ms.getD m false == cs.getD (m % cs.length) false) (et_test (ev_is (ev_op (ev_var rfl) ev_int rd_B0) (by simp)))
      fun _ => et_test (ev_op (ev_op (ev_var rfl) (ev_is (ev_op (ev_var rfl) ev_int rd_I0) (by rw [e1])) (rd_ixL (at_bools (by omega)))) (ev_op (ev_var rfl) (ev_is (ev_op (ev_is (ev_op (ev_var rfl) ev_int rd_I0) (by rw [e1])) (ev_is (ev_cb (ea_cons (ev_var rfl) ea_nil) rc_lenT) (by rw [bools_len])) (rd_I (by omega))) (by rw [hmod])) (rd_ixT (at_bools hlt))) (rd_eqS rfl rfl rfl dec_bl))) (Bool.true_and _), fun hb B3 H3 x3 st N hN => ?_, fun hb B3 H3 x3 st => ?_⟩
    · refine s_asg st (ev_is (ev_op (ev_var rfl) ev_int rd_I0) (by rw [e1])) fun v4 B4 H4 x4 d4 st => ?_
      refine hN m B4 _ _ _ _ (Nat.lt_succ_self _) x4 ⟨rfl, by omega, ?_, rfl⟩ st
      rw [← hls, leastS, if_pos hb]
    · refine s_ret st (ev_var rfl) fun v4 B4 H4 x4 w4 d4 => ?_
      rw [← hls, leastS, if_neg (by rw [hb]; exact Bool.false_ne_true)] at q
      exact q v4 B4 H4 (((x1.trans x2).trans x3).trans x4) w4 d4

end
end Toy
set_option Elab.async false
set_option linter.all false
set_option maxRecDepth 100000
set_option maxHeartbeats 2000000
/-! Instances: owned while they are made, standing still afterwards. -/
namespace DL
open PySem PySem.Spec PyProof.Rows L2 StX
section
variable {K : PySem.W.Frag} {B B' O : Hp} {G : List SD} {σ : L2.St} {H : Hp} {te ta tb : TE} {tz : TS} {D : Ends} {d : PyData} {i : Nat} {x dx C : Addr} {fs : List (Str × V)} {f : Str} {v : V}
/-- self.f = e, self owned -/
theorem s_fld (c : Cls K C) (n : NoAttr K C f) (s : Sta K B O G σ H) (hg : G[i]? = some (.val (.ref x))) (ho : O x = some (.ins C dx fs)) (hl : fs.length < 1000) (h : EvD K B O G te d)
    (k : ∀ v B' H', Ex B B' → Dt K B' v d → Sta K B' (upd O x (.ins C dx (putF f v fs))) G σ H' → D.nx σ H') : sFld K (tVar i) te f D σ H := by
  refine h B O σ H (Ex.refl _) (Ex.refl _) s _ fun v B' H' e w dv => ?_
  obtain ⟨sv, h1, h2⟩ := s.s.get hg
  have h3 : sv = some (.ref x) := h2
  subst h3
  exact ⟨_, h1, x, C, dx, fs, rfl, w.o _ _ ho, c, n, hl, k v B' _ e dv ⟨w.mut ho, s.s.ex e⟩⟩
theorem q_fld (c : Cls K C) (n : NoAttr K C f) (s : Sta K B O G σ H) (hg : G[i]? = some (.val (.ref x))) (ho : O x = some (.ins C dx fs)) (hl : fs.length < 1000) (h : EvD K B O G te d)
    (k : ∀ v B' H', Ex B B' → Dt K B' v d → Sta K B' (upd O x (.ins C dx (putF f v fs))) G σ H' → tz D σ H') : tSeq (sFld K (tVar i) te f) tz D σ H := s_fld (D := { D with nx := tz D }) c n s hg ho hl h k
/-- self.f, self owned -/
theorem ev_fldO (c : Cls K C) (n : NoAttr K C f) (hg : G[i]? = some (.val (.ref x))) (ho : O x = some (.ins C dx fs)) (hf : fs.lookup f = some v) (hd : Dt K B v d) : EvD K B O G (tFld K (tVar i) f) d := fun B1 O1 σ H e o s Q q => by
  obtain ⟨sv, h1, h2⟩ := s.s.get hg
  have h3 : sv = some (.ref x) := h2
  subst h3
  exact ⟨_, h1, x, C, dx, fs, v, rfl, s.w.o _ _ (o _ _ ho), c, n, hf, q v B1 H (Ex.refl _) s.w (dp_ex e _ _ hd)⟩
/-- e.f, e a value of which B says that it is an instance with that field -/
theorem ev_fld {P : Hp → V → Prop} (c : Cls K C) (n : NoAttr K C f) (h : EvP K B O G te P) (hp : ∀ B1 v, Ex B B1 → P B1 v → ∃ x dx fs u, v = .ref x ∧ B1 x = some (.ins C dx fs) ∧ fs.lookup f = some u ∧ Dt K B1 u d) : EvD K B O G (tFld K te f) d := fun B1 O1 σ H e o s Q q =>
  h B1 O1 σ H e o s _ fun v B2 H2 e2 w2 p => by
    obtain ⟨x, dx, fs, u, rfl, h1, h2, h3⟩ := hp B2 v (e.trans e2) p
    exact ⟨x, C, dx, fs, u, rfl, w2.b _ _ h1, c, n, h2, q u B2 H2 e2 w2 h3⟩
theorem evP_var {P : Hp → V → Prop} (hg : G[i]? = some (.val v)) (hp : ∀ B1, Ex B B1 → P B1 v) : EvP K B O G (tVar i) P := fun B1 O1 σ H e o s Q q => by
  obtain ⟨sv, h1, h2⟩ := s.s.get hg
  have h3 : sv = some v := h2
  subst h3
  exact ⟨_, h1, q v B1 H (Ex.refl _) s.w (hp B1 e)⟩
theorem EvP.ex {P : Hp → V → Prop} (h : EvP K B O G te P) (e : Ex B B') : EvP K B' O G te P := fun B1 O1 σ H e1 o s Q q => h B1 O1 σ H (e.trans e1) o s Q q
end
/-- a set of lengths as it is kept -/
structure LS where
  period : Nat
  cycle : List Bool
  start : Nat
  marks : List Bool
abbrev blist (bs : List Bool) : List PyData := bs.map .bool
/-- v is an instance of the class at C that keeps L -/
def IsLS (K : PySem.W.Frag) (C : Addr) (L : LS) (B : Hp) (v : V) : Prop := ∃ x dx fs cv mv, v = .ref x ∧ B x = some (.ins C dx fs) ∧ fs.lookup ("period" : Str) = some (.int L.period) ∧ fs.lookup ("cycle" : Str) = some cv ∧ Dt K B cv (.tuple (blist L.cycle)) ∧
  fs.lookup ("start" : Str) = some (.int L.start) ∧ fs.lookup ("marks" : Str) = some mv ∧ Dt K B mv (.tuple (blist L.marks))
theorem IsLS.ex {K : PySem.W.Frag} {C : Addr} {L : LS} {B B' : Hp} {v : V} (h : IsLS K C L B v) (e : Ex B B') : IsLS K C L B' v := by
  obtain ⟨x, dx, fs, cv, mv, h1, h2, h3, h4, h5, h6, h7, h8⟩ := h
  exact ⟨x, dx, fs, cv, mv, h1, e _ _ h2, h3, h4, dp_ex e _ _ h5, h6, h7, dp_ex e _ _ h8⟩
end DL

set_option Elab.async false
set_option linter.all false
set_option maxRecDepth 100000
set_option maxHeartbeats 4000000
namespace Toy
open PySem PySem.Spec PyProof.Rows L2 StX DL


def clsS (i j : Nat) : Stmt := match topS i with
  | .ClassDef _ _ _ body _ _ _ _ _ _ _ => body.getD j (.Pass ⟨0, 0, 0, 0⟩)
  | _ => .Pass ⟨0, 0, 0, 0⟩
abbrev s_NoSet_init : Stmt := clsS 3 0
abbrev N_sc_NoSet_init : List Str := ["self", "place"]
theorem sc_NoSet_init : FnScope N_sc_NoSet_init ["self", "place"] (defScope s_NoSet_init) := ⟨rfl, rfl, rfl, by decide +kernel, rfl, by decide +kernel, by decide +kernel⟩
abbrev s_TooLarge_init : Stmt := clsS 4 0
abbrev N_sc_TooLarge_init : List Str := ["self", "limit"]
theorem sc_TooLarge_init : FnScope N_sc_TooLarge_init ["self", "limit"] (defScope s_TooLarge_init) := ⟨rfl, rfl, rfl, by decide +kernel, rfl, by decide +kernel, by decide +kernel⟩
abbrev s_LengthSet_init : Stmt := clsS 23 0
abbrev N_sc_LengthSet_init : List Str := ["self", "early", "start", "period", "rests", "cycle", "marks"]
theorem sc_LengthSet_init : FnScope N_sc_LengthSet_init ["self", "early", "start", "period", "rests"] (defScope s_LengthSet_init) := ⟨rfl, rfl, rfl, by decide +kernel, rfl, by decide +kernel, by decide +kernel⟩
abbrev s_LengthSet_early : Stmt := clsS 23 1
abbrev N_sc_LengthSet_early : List Str := ["self", "number"]
theorem sc_LengthSet_early : FnScope N_sc_LengthSet_early ["self"] (defScope s_LengthSet_early) := ⟨rfl, rfl, rfl, by decide +kernel, rfl, by decide +kernel, by decide +kernel⟩
abbrev s_LengthSet_rests : Stmt := clsS 23 2
abbrev N_sc_LengthSet_rests : List Str := ["self", "rest"]
theorem sc_LengthSet_rests : FnScope N_sc_LengthSet_rests ["self"] (defScope s_LengthSet_rests) := ⟨rfl, rfl, rfl, by decide +kernel, rfl, by decide +kernel, by decide +kernel⟩
abbrev s_LengthSet_contains : Stmt := clsS 23 5
abbrev N_sc_LengthSet_contains : List Str := ["self", "x"]
theorem sc_LengthSet_contains : FnScope N_sc_LengthSet_contains ["self", "x"] (defScope s_LengthSet_contains) := ⟨rfl, rfl, rfl, by decide +kernel, rfl, by decide +kernel, by decide +kernel⟩
abbrev s_LengthSet_eq : Stmt := clsS 23 7
abbrev N_sc_LengthSet_eq : List Str := ["self", "other"]
theorem sc_LengthSet_eq : FnScope N_sc_LengthSet_eq ["self", "other"] (defScope s_LengthSet_eq) := ⟨rfl, rfl, rfl, by decide +kernel, rfl, by decide +kernel, by decide +kernel⟩

theorem pe_fldK (K : PySem.W.Frag) {X : Cx} {e : Expr} {f : Str} {pos : Pos} {ta : TE} (he : PE X e ta) (hb : attributeBase e f X.env (eval e X.env) = eval e X.env) (h : X.K = K := by rfl) : PE X (.Attribute e f pos) (tFld K ta f) := h ▸ pe_fld he hb
theorem ps_fldK (K : PySem.W.Frag) {X : Cx} {o value : Expr} {f : Str} {pos pos' : Pos} {ta tv : TE} (ha : PE X o ta) (hv : PE X value tv) (hs : swapsWith value (some (.Attribute o f pos')) pos.line X.env = pure false) (h : X.K = K := by rfl) : PS X (.Assign [.Attribute o f pos'] value pos) (sFld K ta tv f) := h ▸ ps_fld ha hv hs
/-- what the text says of the class -/
structure SetC (K : PySem.W.Frag) (mg : Str → Option Value) (C : Addr) : Prop where
  g : mg "LengthSet" = some (.ref C)
  cls : Cls K C
  nP : NoAttr K C "period"
  nC : NoAttr K C "cycle"
  nS : NoAttr K C "start"
  nM : NoAttr K C "marks"

section
variable {P : Program} {w : World} {K : PySem.W.Frag} {mg : Str → Option Value} {base : Heap}


/-- the set that is kept of such ints -/
def lsOf (es : List Int) (n : Int) (p : Int) (rs : List Int) : LS :=
  let cyc := marksOf rs p
  let mks := marksOf es n
  let per := leastP cyc
  let cy := cyc.take per
  let st := leastS mks cy mks.length
  ⟨per, cy, st, mks.take st⟩
/-- what stands of the four arguments, once they pass -/
structure Right (e s p r : PyData) (es : List Int) (n k : Int) (rs : List Int) : Prop where
  s : s = .int n ∧ 0 ≤ n ∧ n ≤ 5000
  p : p = .int k ∧ 1 ≤ k ∧ k ≤ 5000
  e : seqInts e es ∧ rowD (n - 1) e = true ∧ es.length ≤ 100000
  r : seqInts r rs ∧ rowD (k - 1) r = true ∧ rs.length ≤ 100000
/-- how the making ends -/
inductive MkOut where
  | ok (L : LS)
  | exc (C : Addr) (f : Str) (x : Str)
def intOf : PyData → Int
  | .int i => i
  | _ => 0
/-- the first thing that is wrong -/
def mkErr (CN CT : Addr) (e s p r : PyData) : Option (Addr × Str × Str) :=
  match sizeOut CN CT s 0 "start" with
  | .exc C f x => some (C, f, x)
  | .ret _ => match sizeOut CN CT p 1 "period" with
    | .exc C f x => some (C, f, x)
    | .ret _ => match numsOut CN e (intOf s) "early" with
      | .exc C f x => some (C, f, x)
      | .ret _ => match numsOut CN r (intOf p) "rests" with
        | .exc C f x => some (C, f, x)
        | .ret _ => none
inductive Makes (CN CT : Addr) (e s p r : PyData) : MkOut → Prop where
  | ok {es : List Int} {n k : Int} {rs : List Int} (h : Right e s p r es n k rs) : Makes CN CT e s p r (.ok (lsOf es n k rs))
  | exc {C : Addr} {f x : Str} (h : mkErr CN CT e s p r = some (C, f, x)) : Makes CN CT e s p r (.exc C f x)
def MkOk (K : PySem.W.Frag) (B O : Hp) (CS : Addr) (x : Addr) (Q : VK) (E : XK) : MkOut → Prop
  | .ok L => ∀ B' H', Ex B B' → W B' O H' → IsLS K CS L B' (.ref x) → Q .non H'
  | .exc C f y => ∀ p B' H', Ex B B' → W B' O H' → B' p = some (.xd [(f, .str y)]) → E (.ref C) (some p) H'
/-- LengthSet.__init__ -/
def SpInit (K : PySem.W.Frag) (CN CT CS : Addr) : Sp := fun vs H Q E => ∃ B O x dx ws e s p r o, vs = .ref x :: ws ∧ O x = none ∧ O dx = none ∧ dx ≠ x ∧ W B (upd (upd O dx (.own x)) x (.ins CS dx [])) H ∧ DtAll K B ws [e, s, p, r] ∧ Makes CN CT e s p r o ∧ MkOk K B O CS x Q E o
theorem marks_len {ns : List Int} {m : Int} : (marksOf ns m).length = m.toNat := by
  unfold marksOf
  rw [List.length_map, List.length_range]
theorem leastP_le {bs : List Bool} (h : 1 ≤ bs.length) : 1 ≤ leastP bs ∧ leastP bs ≤ bs.length := by
  unfold leastP
  cases hf : ((List.range (bs.length - 1)).map (· + 1)).find? (isPer bs) with
  | none => exact ⟨h, Nat.le_refl _⟩
  | some p =>
    have hm := List.mem_of_find?_eq_some hf
    obtain ⟨j, hj, rfl⟩ := List.mem_map.mp hm
    have := List.mem_range.mp hj
    simp
    omega
theorem leastS_le {ms cs : List Bool} : ∀ s, leastS ms cs s ≤ s
  | 0 => Nat.le_refl _
  | s + 1 => by
    rw [leastS]
    split
    · exact Nat.le_succ_of_le (leastS_le s)
    · exact Nat.le_refl _
theorem give_to {B O O1 H : Hp} {x : Addr} {u : HO} (w : W B O1 H) (h : O1 x = some u) (hs : ∀ a o, O a = some o → O1 a = some o) (hx : O x = none) : W (upd B x u) O H := by
  have w2 : W B (upd (Toy.del O1 x) x u) H := by
    rw [← upd_del h]
    exact w
  refine W.sub (W.give w2 Toy.del_same) fun a o e => ?_
  rw [Toy.del_ne (ne_of_none e hx)]
  exact hs a o e
theorem size_ret {CN CT : Addr} {x d : PyData} {lo : Int} {pl : Str} (h : sizeOut CN CT x lo pl = .ret d) : ∃ i, x = .int i ∧ lo ≤ i ∧ i ≤ 5000 := by
  unfold sizeOut at h
  split at h
  · split at h
    · rename_i h1 h2
      obtain ⟨z, rfl, a, b⟩ := from_int h2
      exact ⟨z, rfl, a, by simpa [under] using b⟩
    · cases h
  · cases h
theorem size_ok {CN CT : Addr} {i lo : Int} {pl : Str} (h1 : lo ≤ i) (h2 : i ≤ 5000) : sizeOut CN CT (.int i) lo pl = .ret .none := by
  unfold sizeOut
  rw [if_pos (by simp [inFrom, under, h1]), if_pos (by simp [inFrom, under, h1, h2])]
theorem nums_ok {CN : Addr} {x : PyData} {n : Int} {pl : Str} (h : rowD (n - 1) x = true) : numsOut CN x n pl = .ret .none := by
  unfold numsOut
  rw [if_pos h]
theorem ok_init {f CN CT CS : Addr} {fd : FuncData} {dvs : List V} (T : Txt K mg) (S : SetC K mg CS) (C_check_size : CalE P w K mg base 6 "check_size" ["number", "low", "place"] (SpE K (R_size CN CT))) (C_check_numbers : CalE P w K mg base 6 "check_numbers" ["numbers", "bound", "place"] (SpE K (R_nums CN)))
    (C_marks_for : Cal P w K mg base 2 "marks_for" ["numbers", "many"] (SpL K R_marks)) (C_least_period : Cal P w K mg base 2 "least_period" ["marks"] (SpR K R_lp)) (C_least_start : Cal P w K mg base 2 "least_start" ["marks", "cycle"] (SpR K R_ls))
    (F : FunD K "__init__" "LengthSet.__init__" (defArgs s_LengthSet_init) (defBody s_LengthSet_init) (defScope s_LengthSet_init) dvs [] f fd) : FnOk P w K mg base (L2.CX P w) 8 f fd ["self", "early", "start", "period", "rests"] (SpInit K CN CT CS) := by
  refine F.ok sc_LengthSet_init (fun vs H Q E h => ?_) (fun cdv A outer s H vs Q E hr h => ?_)
  · obtain ⟨B, O, x, dx, ws, e, s, p, r, o, rfl, _, _, _, _, h5, _⟩ := h
    rw [List.length_cons, dps_len h5]
    rfl
  obtain ⟨B, O, x, dx, ws, e, s, p, r, o, rfl, hx, hdx, hne, hw, hd, hm, q⟩ := h
  refine ⟨_, (pss_cons (ps_expr (pe_calE C_check_size hr (by omega) (by rfl) (takes_of rfl rfl rfl rfl) (pa_cons (pv 2) (pa_cons pe_int (pa_cons pe_str pa_nil)))))
    (pss_cons (ps_expr (pe_calE C_check_size hr (by omega) (by rfl) (takes_of rfl rfl rfl rfl) (pa_cons (pv 3) (pa_cons pe_int (pa_cons pe_str pa_nil)))))
    (pss_cons (ps_expr (pe_calE C_check_numbers hr (by omega) (by rfl) (takes_of rfl rfl rfl rfl) (pa_cons (pv 1) (pa_cons (pv 2) (pa_cons pe_str pa_nil)))))
    (pss_cons (ps_expr (pe_calE C_check_numbers hr (by omega) (by rfl) (takes_of rfl rfl rfl rfl) (pa_cons (pv 4) (pa_cons (pv 3) (pa_cons pe_str pa_nil)))))
    (pss_cons (ps_set (i := 5) sc_LengthSet_init.nd rfl (Or.inl rfl) (pe_cal C_marks_for hr (by omega) (by rfl) (pa_cons (pv 4) (pa_cons (pv 3) pa_nil))))
    (pss_cons (ps_set (i := 6) sc_LengthSet_init.nd rfl (Or.inl rfl) (pe_cal C_marks_for hr (by omega) (by rfl) (pa_cons (pv 1) (pa_cons (pv 2) pa_nil))))
    (pss_cons (ps_fldK K (pv 0) (pe_cal C_least_period hr (by omega) (by rfl) (pa_cons (pv 5) pa_nil)) (by rfl))
    (pss_cons (ps_fldK K (pv 0) (pe_callTy (call_tupleK K) (by rfl) T.b_tuple (by decide +kernel) (pa_cons (pe_slice (sl_listK K) (pv 5) po_none (po_some (pe_fldK K (pv 0) rfl))) pa_nil)) (by rfl))
    (pss_cons (ps_fldK K (pv 0) (pe_cal C_least_start hr (by omega) (by rfl) (pa_cons (pv 6) (pa_cons (pe_fldK K (pv 0) rfl) pa_nil))) (by rfl))
    (pss_one (ps_fldK K (pv 0) (pe_callTy (call_tupleK K) (by rfl) T.b_tuple (by decide +kernel) (pa_cons (pe_slice (sl_listK K) (pv 6) po_none (po_some (pe_fldK K (pv 0) rfl))) pa_nil)) (by rfl)))))))))))), ?_⟩
  cases hd with
  | cons d1 hd =>
  cases hd with
  | cons d2 hd =>
  cases hd with
  | cons d3 hd =>
  cases hd with
  | cons d4 hd =>
  cases hd
  have hOO : Ex O (upd (upd O dx (.own x)) x (.ins CS dx [])) := (Ex.new hdx).trans (Ex.new (by rw [upd_ne (fun z => hne z.symm)]; exact hx))
  have ox : (upd (upd O dx (.own x)) x (.ins CS dx [])) x = some (.ins CS dx []) := upd_same
  generalize hO : upd (upd O dx (.own x)) x (.ins CS dx []) = O1 at hw hOO ox
  have st : Sta K B O1 [.val (.ref x), .dat e, .dat s, .dat p, .dat r, .un, .un] (L2.start N_sc_LengthSet_init [.ref x, _, _, _, _]) H := ⟨hw, ⟨rfl, ⟨_, rfl, d1⟩, ⟨_, rfl, d2⟩, ⟨_, rfl, d3⟩, ⟨_, rfl, d4⟩, trivial, trivial, trivial⟩⟩
  have hdW : ∀ {B' H' : Hp}, W B' O1 H' → W B' O H' := fun w => W.sub w hOO
  cases hm with
  | exc he =>
    rename_i C1 f1 y1
    refine q_callE st (o := sizeOut CN CT s 0 "start") (ea_cons (ev_var rfl) (ea_cons ev_int (ea_cons ev_str ea_nil))) ⟨s, 0, "start", rfl, rfl⟩ (fun d hc B1 H1 x1 st => ?_) (fun C f y hc pp B1 H1 x1 w1 hp => by
      unfold mkErr at he
      rw [hc] at he
      cases he
      exact q pp B1 H1 x1 (hdW w1) hp)
    obtain ⟨n, rfl, n0, n1⟩ := size_ret hc
    refine q_callE st (o := sizeOut CN CT p 1 "period") (ea_cons (ev_var rfl) (ea_cons ev_int (ea_cons ev_str ea_nil))) ⟨p, 1, "period", rfl, rfl⟩ (fun d2 hc2 B2 H2 x2 st => ?_) (fun C f y hc2 pp B2 H2 x2 w2 hp => by
      unfold mkErr at he
      rw [hc] at he
      simp only at he
      rw [hc2] at he
      cases he
      exact q pp B2 H2 (x1.trans x2) (hdW w2) hp)
    obtain ⟨k, rfl, k0, k1⟩ := size_ret hc2
    refine q_callE st (o := numsOut CN e n "early") (ea_cons (ev_var rfl) (ea_cons (ev_var rfl) (ea_cons ev_str ea_nil))) ⟨e, n, "early", rfl, rfl⟩ (fun d3 hc3 B3 H3 x3 st => ?_) (fun C f y hc3 pp B3 H3 x3 w3 hp => by
      unfold mkErr at he
      rw [hc] at he
      simp only at he
      rw [hc2] at he
      simp only [intOf] at he
      rw [hc3] at he
      cases he
      exact q pp B3 H3 ((x1.trans x2).trans x3) (hdW w3) hp)
    refine q_callE st (o := numsOut CN r k "rests") (ea_cons (ev_var rfl) (ea_cons (ev_var rfl) (ea_cons ev_str ea_nil))) ⟨r, k, "rests", rfl, rfl⟩ (fun d4 hc4 B4 H4 x4 st => ?_) (fun C f y hc4 pp B4 H4 x4 w4 hp => by
      unfold mkErr at he
      rw [hc] at he
      simp only at he
      rw [hc2] at he
      simp only [intOf] at he
      rw [hc3] at he
      simp only at he
      rw [hc4] at he
      cases he
      exact q pp B4 H4 (((x1.trans x2).trans x3).trans x4) (hdW w4) hp)
    exfalso
    unfold mkErr at he
    rw [hc] at he
    simp only at he
    rw [hc2] at he
    simp only [intOf] at he
    rw [hc3] at he
    simp only at he
    rw [hc4] at he
    cases he
  | ok hg =>
    rename_i es n k rs
    obtain ⟨⟨rfl, n0, n1⟩, ⟨rfl, k0, k1⟩, ⟨he1, he2, he3⟩, ⟨hr1, hr2, hr3⟩⟩ := hg
    refine q_callE st (o := .ret .none) (ea_cons (ev_var rfl) (ea_cons ev_int (ea_cons ev_str ea_nil))) ⟨_, 0, "start", rfl, (size_ok n0 n1).symm⟩ (fun d hc B1 H1 x1 st => ?_) (fun C f y hc => by cases hc)
    refine q_callE st (o := .ret .none) (ea_cons (ev_var rfl) (ea_cons ev_int (ea_cons ev_str ea_nil))) ⟨_, 1, "period", rfl, (size_ok k0 k1).symm⟩ (fun d hc B2 H2 x2 st => ?_) (fun C f y hc => by cases hc)
    refine q_callE st (o := .ret .none) (ea_cons (ev_var rfl) (ea_cons (ev_var rfl) (ea_cons ev_str ea_nil))) ⟨_, n, "early", rfl, (nums_ok he2).symm⟩ (fun d hc B3 H3 x3 st => ?_) (fun C f y hc => by cases hc)
    refine q_callE st (o := .ret .none) (ea_cons (ev_var rfl) (ea_cons (ev_var rfl) (ea_cons ev_str ea_nil))) ⟨_, k, "rests", rfl, (nums_ok hr2).symm⟩ (fun d hc B4 H4 x4 st => ?_) (fun C f y hc => by cases hc)
    refine q_asg st (EvL.d (el_call (ea_cons (ev_var rfl) (ea_cons (ev_var rfl) ea_nil)) ⟨r, rs, k, hr1, hr3, by omega, k1, rfl, rfl⟩)) fun v5 B5 H5 x5 d5 st => ?_
    refine q_asg st (EvL.d (el_call (ea_cons (ev_var rfl) (ea_cons (ev_var rfl) ea_nil)) ⟨e, es, n, he1, he3, by omega, n1, rfl, rfl⟩)) fun v6 B6 H6 x6 d6 st => ?_
    have lc : (marksOf rs k).length = k.toNat := marks_len
    have lm : (marksOf es n).length = n.toNat := marks_len
    have lp := leastP_le (bs := marksOf rs k) (by omega)
    refine q_fld S.cls S.nP st rfl ox (by decide) (ev_call (ea_cons (ev_var rfl) ea_nil) ⟨marksOf rs k, by omega, by omega, rfl, rfl⟩) fun v7 B7 H7 x7 d7 st => ?_
    have e7 := dp_int d7
    subst e7
    have l7 : (putF ("period" : Str) (V.int (leastP (marksOf rs k) : Nat)) []).length ≤ 1 := length_putF _ _ _
    refine q_fld S.cls S.nC st rfl upd_same (by omega) (ev_cb (ea_cons (ev_is (ev_slL (ev_var rfl) eo_none (eo_some (ev_fldO S.cls S.nP rfl upd_same (by rw [lookup_putF, if_pos rfl]) (.int _)))) (by rw [cut_bools])) ea_nil) rc_tupL) fun v8 B8 H8 x8 d8 st => ?_
    have l8 := length_putF ("cycle" : Str) v8 (putF ("period" : Str) (V.int (leastP (marksOf rs k) : Nat)) [])
    have lk : ((marksOf rs k).take (leastP (marksOf rs k))).length = leastP (marksOf rs k) := by
      rw [List.length_take]
      omega
    refine q_fld S.cls S.nS st rfl upd_same (by omega) (ev_call (ea_cons (ev_var rfl) (ea_cons (ev_fldO S.cls S.nC rfl upd_same (by rw [lookup_putF, if_pos rfl]) d8) ea_nil)) ⟨marksOf es n, (marksOf rs k).take (leastP (marksOf rs k)), by omega, by omega, by omega, rfl, rfl⟩) fun v9 B9 H9 x9 d9 st => ?_
    have e9 := dp_int d9
    subst e9
    have l9 := length_putF ("start" : Str) (V.int (leastS (marksOf es n) ((marksOf rs k).take (leastP (marksOf rs k))) (marksOf es n).length : Nat)) (putF ("cycle" : Str) v8 (putF ("period" : Str) (V.int (leastP (marksOf rs k) : Nat)) []))
    refine s_fld S.cls S.nM st rfl upd_same (by omega) (ev_cb (ea_cons (ev_is (ev_slL (ev_var rfl) eo_none (eo_some (ev_fldO S.cls S.nS rfl upd_same (by rw [lookup_putF, if_pos rfl]) (.int _)))) (by rw [cut_bools])) ea_nil) rc_tupL) fun v10 B10 H10 x10 d10 st => ?_
    have hb := st.w.bnone upd_same
    have w2 := give_to (O := O) st.w upd_same (fun a o e => by
      have ha : a ≠ x := ne_of_none e hx
      rw [upd_ne ha, upd_ne ha, upd_ne ha, upd_ne ha]
      exact hOO a o e) hx
    have xx := ((((((((x1.trans x2).trans x3).trans x4).trans x5).trans x6).trans x7).trans x8).trans x9).trans x10
    have xn := Ex.new (o := .ins CS dx (putF ("marks" : Str) v10 (putF ("start" : Str) (V.int (leastS (marksOf es n) ((marksOf rs k).take (leastP (marksOf rs k))) (marksOf es n).length : Nat)) (putF ("cycle" : Str) v8 (putF ("period" : Str) (V.int (leastP (marksOf rs k) : Nat)) []))))) hb
    refine q _ H10 (xx.trans xn) w2 ⟨x, dx, _, v8, v10, rfl, upd_same, ?_, ?_, dp_ex ((x9.trans x10).trans xn) _ _ d8, ?_, ?_, dp_ex xn _ _ d10⟩
    · rw [lookup_putF, if_neg (by decide), lookup_putF, if_neg (by decide), lookup_putF, if_neg (by decide), lookup_putF, if_pos rfl]
      rfl
    · rw [lookup_putF, if_neg (by decide), lookup_putF, if_neg (by decide), lookup_putF, if_pos rfl]
    · rw [lookup_putF, if_neg (by decide), lookup_putF, if_pos rfl]
      rfl
    · rw [lookup_putF, if_pos rfl]

end
end Toy
set_option Elab.async false
set_option linter.all false
set_option maxRecDepth 100000
set_option maxHeartbeats 4000000
namespace Toy
open PySem PySem.Spec PyProof.Rows L2 StX DL


theorem lay_boolsT {bs : List Bool} : PT.Lay 1 (.tuple (bools bs)) := by
  refine PT.lay_tup (n := 0) fun d hd => ?_
  obtain ⟨b, _, rfl⟩ := List.mem_map.mp hd
  exact PT.lay_good (by simp [PT.good, flatD, SeqAt.shaped, PyData.canLay0, PyData.depth])
theorem eqv_boolsT {a b : List Bool} : PyData.eqv (.tuple (bools a)) (.tuple (bools b)) = decide (a = b) := by
  have h := eqv_bools (a := a) (b := b)
  simpa [PyData.eqv] using h
/-- what isinstance asks of the class -/
structure SetI (K : PySem.W.Frag) (C : Addr) : Prop where
  ca : PySem.W.findIn K (.ref C) "__class__" = some (some (.builtin "object.__class__"))
  cn : PySem.W.specialIn K (.builtin "object.__class__") "__get__" = some (some (.builtin "getset_descriptor.__get__"))
  ct : PySem.W.takesIn K (.builtin "object.__class__") = some true
  cm : PySem.W.mroIn K C (.type "object") = some true
structure LOk (L : LS) : Prop where
  c : L.cycle.length = L.period
  p : 1 ≤ L.period ∧ L.period ≤ 5000
  m : L.marks.length = L.start
  s : L.start ≤ 5000
/-- the places of the marks -/
def idx (bs : List Bool) : List Int := ((List.range bs.length).filter fun i => bs.getD i false).map fun (i : Nat) => (i : Int)
def hasL (L : LS) (d : PyData) : Bool := match d with
  | .int i => if i < 0 then false else if i < L.start then L.marks.getD i.toNat false else L.cycle.getD (i.toNat % L.period) false
  | _ => false
theorem hasL_not {L : LS} {d : PyData} (h : inFrom d 0 none = false) : hasL L d = false := by
  cases d with
  | int i =>
    have : ¬ 0 ≤ i := by simpa [inFrom, under] using h
    show (if i < 0 then false else _) = false
    rw [if_pos (by omega)]
  | none => rfl
  | bool => rfl
  | str => rfl
  | list => rfl
  | tuple => rfl
  | dict => rfl
def SpIdx (K : PySem.W.Frag) (C : Addr) (fld : LS → List Bool) : Sp := fun vs H Q _ => ∃ B O v L, vs = [v] ∧ W B O H ∧ IsLS K C L B v ∧ LOk L ∧ ∀ p ws B' H', Ex B B' → O p = none → W B' (upd O p (.lst ws)) H' → DtAll K B' ws (whole_list (idx (fld L))) → Q (.ref p) H'
def SpHas (K : PySem.W.Frag) (C : Addr) : Sp := fun vs H Q _ => ∃ B O v u L d, vs = [v, u] ∧ W B O H ∧ IsLS K C L B v ∧ LOk L ∧ Dt K B u d ∧ ∀ B' H', Ex B B' → W B' O H' → Q (.bl (hasL L d)) H'
def SpEqL (K : PySem.W.Frag) (C : Addr) : Sp := fun vs H Q _ => ∃ B O v u L M, vs = [v, u] ∧ W B O H ∧ IsLS K C L B v ∧ IsLS K C M B u ∧ ∀ B' H', Ex B B' → W B' O H' → Q (.bl (decide (L.marks = M.marks) && decide (L.cycle = M.cycle))) H'

section
variable {P : Program} {w : World} {K : PySem.W.Frag} {mg : Str → Option Value} {base : Heap}


section
variable {B O : Hp} {G : List SD} {te : TE} {C : Addr} {L : LS}
theorem f_period (S : SetC K mg C) (h : EvP K B O G te (IsLS K C L)) : EvD K B O G (tFld K te "period") (.int (L.period : Int)) := ev_fld S.cls S.nP h fun B1 v _ ⟨x, dx, fs, cv, mv, h1, h2, h3, _⟩ => ⟨x, dx, fs, _, h1, h2, h3, .int _⟩
theorem f_cycle (S : SetC K mg C) (h : EvP K B O G te (IsLS K C L)) : EvD K B O G (tFld K te "cycle") (.tuple (bools L.cycle)) := ev_fld S.cls S.nC h fun B1 v _ ⟨x, dx, fs, cv, mv, h1, h2, _, h4, h5, _⟩ => ⟨x, dx, fs, _, h1, h2, h4, h5⟩
theorem f_start (S : SetC K mg C) (h : EvP K B O G te (IsLS K C L)) : EvD K B O G (tFld K te "start") (.int (L.start : Int)) := ev_fld S.cls S.nS h fun B1 v _ ⟨x, dx, fs, cv, mv, h1, h2, _, _, _, h6, _⟩ => ⟨x, dx, fs, _, h1, h2, h6, .int _⟩
theorem f_marks (S : SetC K mg C) (h : EvP K B O G te (IsLS K C L)) : EvD K B O G (tFld K te "marks") (.tuple (bools L.marks)) := ev_fld S.cls S.nM h fun B1 v _ ⟨x, dx, fs, cv, mv, h1, h2, _, _, _, _, h7, h8⟩ => ⟨x, dx, fs, _, h1, h2, h7, h8⟩
theorem ev_ls {i : Nat} {v : V} (hg : G[i]? = some (.val v)) (h : IsLS K C L B v) : EvP K B O G (tVar i) (IsLS K C L) := evP_var hg fun B1 e => h.ex e
end
theorem ok_early {f CS : Addr} {fd : FuncData} (T : Txt K mg) (S : SetC K mg CS) (F : Fun K "early" "LengthSet.early" s_LengthSet_early f fd) : FnOk P w K mg base CX0 2 f fd ["self"] (SpIdx K CS (·.marks)) := by
  refine F.ok sc_LengthSet_early (fun vs H Q E h => ?_) (fun cdv A outer s H vs Q E hr h => ?_)
  · obtain ⟨B, O, v, L, rfl, _⟩ := h
    rfl
  · obtain ⟨B, O, v, L, rfl, hw, hL, ok, q⟩ := h
    refine ⟨_, (pss_one (ps_ret (pe_lc (own := [("number", 1)]) (by rfl) sc_LengthSet_early.nd (pi_range1 (by rfl) T.b_range (pa_cons (pe_fldK K (pv 0) rfl) pa_nil)) (blkOk_by (own := [("number", 1)]) (N := N_sc_LengthSet_early) (sc := defScope s_LengthSet_early) (by decide +kernel)) (fun _ _ _ _ _ => (pg_name (i := 1) sc_LengthSet_early.nd rfl (Or.inl rfl))) (fun _ _ _ _ _ => (pts_one (pt_val (pe_ix (ix_tupK K) (pe_fldK K (pv 0) rfl) (pv 1) (fun _ _ => rfl))))) (fun _ _ _ _ _ => (pv 1))))), ?_⟩
    have st : Sta K B O [.val v, .un] (L2.start N_sc_LengthSet_early [v]) H := ⟨hw, ⟨rfl, trivial, trivial⟩⟩
    refine s_retL st (el_lcT (List.range L.start) (fun i => .int (i : Int)) (fun i => L.marks.getD i false) (fun i => .int (i : Int)) (fun i => _) ?_ (by rw [List.length_range]; have := ok.s; omega) (fun i _ => eg_nameW (by decide)) (fun i hi => et_test (ev_op (f_marks S (ev_ls rfl hL)) (ev_var rfl) (rd_ixT (at_bools (by rw [ok.m]; exact List.mem_range.mp hi))))) (fun i _ _ => ev_var rfl)) fun p ws B' H' x n w d => ?_
    · have e : rangeD 0 ((L.start : Int)).toNat = (List.range L.start).map fun (i : Nat) => PyData.int (i : Int) := by
        unfold rangeD
        rw [show ((L.start : Int)).toNat = L.start from rfl]
        refine List.map_congr_left fun i _ => ?_
        rw [show (0 : Int) + (i : Int) = i by omega]
      rw [← e]
      exact ei_range1 (ea_cons (f_start S (ev_ls rfl hL)) ea_nil) (by have := ok.s; omega)
    · refine q p ws B' H' x n w ?_
      show DtAll K B' ws (whole_list (idx L.marks))
      unfold idx whole_list
      rw [ok.m, List.map_map]
      exact d
theorem ok_rests {f CS : Addr} {fd : FuncData} (T : Txt K mg) (S : SetC K mg CS) (F : Fun K "rests" "LengthSet.rests" s_LengthSet_rests f fd) : FnOk P w K mg base CX0 2 f fd ["self"] (SpIdx K CS (·.cycle)) := by
  refine F.ok sc_LengthSet_rests (fun vs H Q E h => ?_) (fun cdv A outer s H vs Q E hr h => ?_)
  · obtain ⟨B, O, v, L, rfl, _⟩ := h
    rfl
  · obtain ⟨B, O, v, L, rfl, hw, hL, ok, q⟩ := h
    refine ⟨_, (pss_one (ps_ret (pe_lc (own := [("rest", 1)]) (by rfl) sc_LengthSet_rests.nd (pi_range1 (by rfl) T.b_range (pa_cons (pe_fldK K (pv 0) rfl) pa_nil)) (blkOk_by (own := [("rest", 1)]) (N := N_sc_LengthSet_rests) (sc := defScope s_LengthSet_rests) (by decide +kernel)) (fun _ _ _ _ _ => (pg_name (i := 1) sc_LengthSet_rests.nd rfl (Or.inl rfl))) (fun _ _ _ _ _ => (pts_one (pt_val (pe_ix (ix_tupK K) (pe_fldK K (pv 0) rfl) (pv 1) (fun _ _ => rfl))))) (fun _ _ _ _ _ => (pv 1))))), ?_⟩
    have st : Sta K B O [.val v, .un] (L2.start N_sc_LengthSet_rests [v]) H := ⟨hw, ⟨rfl, trivial, trivial⟩⟩
    refine s_retL st (el_lcT (List.range L.period) (fun i => .int (i : Int)) (fun i => L.cycle.getD i false) (fun i => .int (i : Int)) (fun i => _) ?_ (by rw [List.length_range]; have := ok.p; omega) (fun i _ => eg_nameW (by decide)) (fun i hi => et_test (ev_op (f_cycle S (ev_ls rfl hL)) (ev_var rfl) (rd_ixT (at_bools (by rw [ok.c]; exact List.mem_range.mp hi))))) (fun i _ _ => ev_var rfl)) fun p ws B' H' x n w d => ?_
    · have e : rangeD 0 ((L.period : Int)).toNat = (List.range L.period).map fun (i : Nat) => PyData.int (i : Int) := by
        unfold rangeD
        rw [show ((L.period : Int)).toNat = L.period from rfl]
        refine List.map_congr_left fun i _ => ?_
        rw [show (0 : Int) + (i : Int) = i by omega]
      rw [← e]
      exact ei_range1 (ea_cons (f_period S (ev_ls rfl hL)) ea_nil) (by have := ok.p; omega)
    · refine q p ws B' H' x n w ?_
      show DtAll K B' ws (whole_list (idx L.cycle))
      unfold idx whole_list
      rw [ok.c, List.map_map]
      exact d
theorem ok_has {f CS : Addr} {fd : FuncData} (T : Txt K mg) (S : SetC K mg CS) (C_is_from : CalFrom P w K mg base) (F : Fun K "__contains__" "LengthSet.__contains__" s_LengthSet_contains f fd) : FnOk P w K mg base CX0 6 f fd ["self", "x"] (SpHas K CS) := by
  refine F.ok sc_LengthSet_contains (fun vs H Q E h => ?_) (fun cdv A outer s H vs Q E hr h => ?_)
  · obtain ⟨B, O, v, u, L, d, rfl, _⟩ := h
    rfl
  · obtain ⟨B, O, v, u, L, d, rfl, hw, hL, ok, du, q⟩ := h
    refine ⟨_, (pss_cons (ps_if (pt_not (pt_val (pe_calD C_is_from hr (by omega) (by rfl) (pa_cons (pv 1) (pa_cons pe_int pa_nil))))) (pss_one (ps_ret pe_bl)) pss_nil)
    (pss_cons (ps_if (pt_cmpR op_lt (pv 1) (pe_fldK K (pv 0) rfl) (nomark _)) (pss_one (ps_ret (pe_ix (ix_tupK K) (pe_fldK K (pv 0) rfl) (pv 1) (fun _ _ => rfl)))) pss_nil)
    (pss_one (ps_ret (pe_ix (ix_tupK K) (pe_fldK K (pv 0) rfl) (pe_op op_mod (pv 1) (pe_fldK K (pv 0) rfl)) (fun _ _ => rfl)))))), ?_⟩
    have st : Sta K B O [.val v, .dat d] (L2.start N_sc_LengthSet_contains [v, u]) H := ⟨hw, ⟨rfl, ⟨_, rfl, du⟩, trivial⟩⟩
    refine q_when st (b := !inFrom d 0 none) (et_not (et_test (ev_callD (es := [.none]) (ea_cons (ev_var rfl) (ea_cons ev_int ea_nil)) (fun _ => dps_one .non) ⟨d, 0, none, rfl, rfl⟩))) (fun h1 B1 H1 x1 st => ?_) (fun h1 B1 H1 x1 st => ?_)
    · have h1' : inFrom d 0 none = false := by simpa using h1
      refine s_ret st ev_bl fun v2 B2 H2 x2 w2 d2 => ?_
      rw [dp_bool d2]
      rw [hasL_not h1'] at q
      exact q B2 H2 (x1.trans x2) w2
    · have h1' : inFrom d 0 none = true := by simpa using h1
      obtain ⟨i, rfl, hi, _⟩ := from_int h1'
      have hL1 := hL.ex x1
      have ei : ((i.toNat : Nat) : Int) = i := by omega
      have hn : ¬ i < 0 := by omega
      refine q_when st (et_test (ev_op (ev_var rfl) (f_start S (ev_ls rfl hL1)) rd_B0)) (fun h2 B2 H2 x2 st => ?_) (fun h2 B2 H2 x2 st => ?_)
      · have h2' : i < L.start := by simpa using h2
        have key : hasL L (.int i) = L.marks.getD i.toNat false := by
          show (if i < 0 then false else if i < L.start then _ else _) = _
          rw [if_neg hn, if_pos h2']
        rw [key] at q
        refine s_ret st (ev_op (f_marks S (ev_ls rfl (hL1.ex x2))) (ev_var rfl) (rd_ixT (d := .bool (L.marks.getD i.toNat false)) (by have h := at_bools (bs := L.marks) (i := i.toNat) (by rw [ok.m]; omega); rwa [ei] at h))) fun v3 B3 H3 x3 w3 d3 => ?_
        rw [dp_bool d3]
        exact q B3 H3 ((x1.trans x2).trans x3) w3
      · have h2' : ¬ i < L.start := by simpa using h2
        have key : hasL L (.int i) = L.cycle.getD (i.toNat % L.period) false := by
          show (if i < 0 then false else if i < L.start then _ else _) = _
          rw [if_neg hn, if_neg h2']
        rw [key] at q
        have hp := ok.p
        have em : i % (L.period : Int) = ((i.toNat % L.period : Nat) : Int) := by rw [Int.natCast_emod, ei]
        have hlt : i.toNat % L.period < L.cycle.length := by rw [ok.c]; exact Nat.mod_lt _ (by omega)
        refine s_ret st (ev_op (f_cycle S (ev_ls rfl (hL1.ex x2))) (ev_is (ev_op (ev_var rfl) (f_period S (ev_ls rfl (hL1.ex x2))) (rd_I (by omega))) (by rw [em])) (rd_ixT (at_bools hlt))) fun v3 B3 H3 x3 w3 d3 => ?_
        rw [dp_bool d3]
        exact q B3 H3 ((x1.trans x2).trans x3) w3
theorem ev_isiOwn {B O : Hp} {G : List SD} {te : TE} {C : Addr} {L : LS} (S : SetC K mg C) (I : SetI K C) (h : EvP K B O G te (IsLS K C L)) : EvD K B O G (tCB (rIsi K) (tCons te (tCons (tC (.ref C)) tNil))) (.bool true) := fun B1 O1 σ H e1 o s Q q =>
  h B1 O1 σ H e1 o s _ fun v B2 H2 e2 w2 ⟨x, dx, fs, cv, mv, ev, h2, _⟩ => by
    subst ev
    refine ⟨.ref x, .ref C, .ref C, .ref C, true, rfl, .own C, .base (.ins (w2.b _ _ h2) S.cls I.ca I.cn I.ct I.cm), ?_, q _ B2 H2 e2 w2 (.bl true)⟩
    unfold PySem.W.kitOne
    simp
theorem ok_eq {f CS : Addr} {fd : FuncData} (T : Txt K mg) (S : SetC K mg CS) (I : SetI K CS) (F : Fun K "__eq__" "LengthSet.__eq__" s_LengthSet_eq f fd) : FnOk P w K mg base CX0 2 f fd ["self", "other"] (SpEqL K CS) := by
  refine F.ok sc_LengthSet_eq (fun vs H Q E h => ?_) (fun cdv A outer s H vs Q E hr h => ?_)
  · obtain ⟨B, O, v, u, L, M, rfl, _⟩ := h
    rfl
  · obtain ⟨B, O, v, u, L, M, rfl, hw, hL, hM, q⟩ := h
    refine ⟨_, (pss_one (ps_ret (pe_and (pe_callB (call_isiK' K) (by rfl) T.b_isinstance (by decide +kernel) (pa_cons (pv 1) (pa_cons (pe_glob (v := .ref CS) (by rfl) S.g rfl) pa_nil))) (pe_and (pe_cmpR (op_eqDK K hr.units) (pe_fldK K (pv 0) rfl) (pe_fldK K (pv 1) rfl) (nomark _)) (pe_one (pe_cmpR (op_eqDK K hr.units) (pe_fldK K (pv 0) rfl) (pe_fldK K (pv 1) rfl) (nomark _))))))), ?_⟩
    have st : Sta K B O [.val v, .val u] (L2.start N_sc_LengthSet_eq [v, u]) H := ⟨hw, ⟨rfl, rfl, trivial⟩⟩
    refine s_ret st (ev_andV (a := true) (b := decide (L.marks = M.marks) && decide (L.cycle = M.cycle)) (ev_isiOwn S I (ev_ls rfl hM)) fun _ => ev_andV (ev_op (f_marks S (ev_ls rfl hL)) (f_marks S (ev_ls rfl hM)) (rd_eq (lay_boolsT.sh (by decide)) (lay_boolsT.sh (by decide)) eqv_boolsT)) fun _ => ev_op (f_cycle S (ev_ls rfl hL)) (f_cycle S (ev_ls rfl hM)) (rd_eq (lay_boolsT.sh (by decide)) (lay_boolsT.sh (by decide)) eqv_boolsT)) fun v2 B2 H2 x2 w2 d2 => ?_
    have e := dp_bool d2
    rw [e, Bool.true_and]
    exact q B2 H2 x2 w2

end
end Toy
set_option Elab.async false
set_option linter.all false
set_option maxRecDepth 100000
set_option maxHeartbeats 4000000
namespace Toy
open PySem PySem.Spec PyProof.Rows L2 StX DL


section
variable {K : PySem.W.Frag} {B O : Hp} {G : List SD} {σ : L2.St} {H : Hp} {t : TA} {tz : TS} {D : Ends} {i j : Nat} {d e : PyData}
/-- i, j = e, f, more behind it -/
theorem q_parP (s : Sta K B O G σ H) (h : EvA K B O G t [d, e])
    (k : ∀ v u B' H', Ex B B' → Sta K B' O ((G.set i (.dat d)).set j (.dat e)) ((σ.set i (some v)).set j (some u)) H' → tz D ((σ.set i (some v)).set j (some u)) H') : tSeq (tPar i j t) tz D σ H :=
  h B O σ H (Ex.refl _) (Ex.refl _) s _ fun vs B' H' x w dv => by
    cases dv with
    | cons h1 dv =>
    cases dv with
    | cons h2 dv =>
    cases dv
    exact ⟨_, _, rfl, k _ _ B' H' x (((s.ex x w).set i h1).set j h2)⟩
/-- i, j = e, f -/
theorem s_par (s : Sta K B O G σ H) (h : EvA K B O G t [d, e])
    (k : ∀ v u B' H', Ex B B' → Sta K B' O ((G.set i (.dat d)).set j (.dat e)) ((σ.set i (some v)).set j (some u)) H' → D.nx ((σ.set i (some v)).set j (some u)) H') : tPar i j t D σ H :=
  h B O σ H (Ex.refl _) (Ex.refl _) s _ fun vs B' H' x w dv => by
    cases dv with
    | cons h1 dv =>
    cases dv with
    | cons h2 dv =>
    cases dv
    exact ⟨_, _, rfl, k _ _ B' H' x (((s.ex x w).set i h1).set j h2)⟩
end

section
variable {P : Program} {w : World} {K : PySem.W.Frag} {mg : Str → Option Value} {base : Heap}


def R_cd (ds : List PyData) (d : PyData) : Prop := ∃ a b : Nat, 0 < a ∧ a ≤ 5000 ∧ 0 < b ∧ b ≤ 5000 ∧ ds = [.int (a : Int), .int (b : Int)] ∧ d = .int (Nat.gcd a b : Nat)
theorem ok_common_divisor {f : Addr} {fd : FuncData} (T : Txt K mg) (a : At K mg "common_divisor" s_common_divisor ["one", "two"] f fd) : FnOk P w K mg base CX0 1 f fd ["one", "two"] (SpR K R_cd) := by
  refine ok_fn a.fn sc_common_divisor (by rintro ds d ⟨x, y, _, _, _, _, rfl, _⟩; rfl) fun cdv A outer s H0 E hr ds d ⟨x, y, x0, x1', y0, y1', e1, e2⟩ => ?_
  subst e1 e2
  refine ⟨_, (pss_cons (ps_par (i := 2) (j := 3) (by rfl) sc_common_divisor.nd rfl rfl (by decide) rfl rfl (pa_cons (pv 0) (pa_cons (pv 1) pa_nil)) (by rfl))
    (pss_cons (ps_while PassesOwn.never (pt_cmpR op_gt (pv 3) pe_int (nomark _)) (pss_one (ps_par (i := 2) (j := 3) (by rfl) sc_common_divisor.nd rfl rfl (by decide) rfl rfl (pa_cons (pv 3) (pa_cons (pe_op op_mod (pv 2) (pv 3)) pa_nil)) (by rfl))))
    (pss_one (ps_ret (pv 2))))), fun B O σ H Q st q => ?_⟩
  refine q_parP st (ea_cons (ev_var rfl) (ea_cons (ev_var rfl) ea_nil)) fun va vb B1 H1 x1 st => ?_
  refine q_while st (fun m B' O' G' => O' = O ∧ ∃ g : Nat, 0 < g ∧ g ≤ 5000 ∧ m ≤ 5000 ∧ Nat.gcd g m = Nat.gcd x y ∧ G' = [.dat (.int (x : Int)), .dat (.int (y : Int)), .dat (.int (g : Int)), .dat (.int (m : Int))]) y ⟨rfl, x, x0, x1', y1', rfl, rfl⟩ ?_
  rintro m B2 O2 G2 σ2 H2 x2 ⟨rfl, g, g0, g1, hm, hg, rfl⟩ st
  refine ⟨decide (0 < (m : Int)), et_test (ev_op (ev_var rfl) ev_int rd_B0), fun hb B3 H3 x3 st N hN => ?_, fun hb B3 H3 x3 st => ?_⟩
  · have hm0 : 0 < m := by have := of_decide_eq_true hb; omega
    have em : (g : Int) % (m : Int) = ((g % m : Nat) : Int) := by omega
    have hlt := Nat.mod_lt g hm0
    refine s_par st (ea_cons (ev_var rfl) (ea_cons (ev_is (ev_op (ev_var rfl) (ev_var rfl) (rd_I (by omega))) (by rw [em])) ea_nil)) fun v u B4 H4 x4 st => ?_
    refine hN (g % m) B4 _ _ _ _ hlt x4 ⟨rfl, m, hm0, hm, by omega, ?_, rfl⟩ st
    rw [← hg, Nat.gcd_comm m (g % m), ← Nat.gcd_rec, Nat.gcd_comm]
  · have hm0 : m = 0 := by have := of_decide_eq_false hb; omega
    subst hm0
    rw [Nat.gcd_zero_right] at hg
    subst hg
    refine s_ret st (ev_var rfl) fun v4 B4 H4 x4 w4 d4 => ?_
    exact q v4 B4 H4 (((x1.trans x2).trans x3).trans x4) w4 d4
def R_cm (ds : List PyData) (d : PyData) : Prop := ∃ a b : Nat, 0 < a ∧ a ≤ 5000 ∧ 0 < b ∧ b ≤ 5000 ∧ ds = [.int (a : Int), .int (b : Int)] ∧ d = .int (Nat.lcm a b : Nat)
theorem ok_common_multiple {f fg : Addr} {fd fdg : FuncData} (T : Txt K mg) (a : At K mg "common_multiple" s_common_multiple ["one", "two"] f fd) (ag : At K mg "common_divisor" s_common_divisor ["one", "two"] fg fdg) : FnOk P w K mg base CX0 2 f fd ["one", "two"] (SpR K R_cm) := by
  have C_common_divisor := ag.cal (ok_common_divisor (P := P) (w := w) (base := base) T ag)
  refine ok_fn a.fn sc_common_multiple (by rintro ds d ⟨x, y, _, _, _, _, rfl, _⟩; rfl) fun cdv A outer s H0 E hr ds d ⟨x, y, x0, x1', y0, y1', e1, e2⟩ => ?_
  subst e1 e2
  refine ⟨_, (pss_one (ps_ret (pe_op op_mul (pe_op op_fdiv (pv 0) (pe_cal C_common_divisor hr (by omega) (by rfl) (pa_cons (pv 0) (pa_cons (pv 1) pa_nil)))) (pv 1)))), fun B O σ H Q st q => ?_⟩
  have hd : Nat.gcd x y ∣ x := Nat.gcd_dvd_left x y
  have gp : 0 < Nat.gcd x y := Nat.gcd_pos_of_pos_left y x0
  have gx : Nat.gcd x y ≤ x := Nat.le_of_dvd x0 hd
  have el : ((x : Int) / ((Nat.gcd x y : Nat) : Int)) * (y : Int) = ((Nat.lcm x y : Nat) : Int) := by
    rw [← Int.natCast_ediv, ← Int.natCast_mul]
    congr 1
    unfold Nat.lcm
    rw [Nat.mul_comm, ← Nat.mul_div_assoc _ hd, Nat.mul_comm]
  have hq : (x : Int) / ((Nat.gcd x y : Nat) : Int) ≤ 5000 ∧ 0 ≤ (x : Int) / ((Nat.gcd x y : Nat) : Int) := by
    refine ⟨?_, Int.ediv_nonneg (by omega) (by omega)⟩
    rw [← Int.natCast_ediv]
    have := Nat.div_le_self x (Nat.gcd x y)
    omega
  refine s_ret st (ev_is (ev_op (ev_op (ev_var rfl) (ev_call (ea_cons (ev_var rfl) (ea_cons (ev_var rfl) ea_nil)) ⟨x, y, x0, x1', y0, y1', rfl, rfl⟩) (rd_I ⟨by omega, by omega⟩)) (ev_var rfl) (rd_I (.inl ⟨by omega, by omega⟩))) (by rw [el])) fun v4 B4 H4 x4 w4 d4 => ?_
  exact q v4 B4 H4 x4 w4 d4

end
end Toy
set_option Elab.async false
set_option linter.all false
set_option maxRecDepth 100000
set_option maxHeartbeats 4000000
namespace Toy
open PySem PySem.Spec PyProof.Rows L2 StX DL


/-- the marks below s, then a round of p -/
def marksTo (L : LS) (s p : Nat) : List Bool := (L.marks ++ (List.range (s - L.start)).map fun (i : Nat) => L.cycle.getD ((L.start + i) % L.period) false) ++ (List.replicate (p / L.period) L.cycle).flatten
def SpMarks (K : PySem.W.Frag) (C : Addr) : Sp := fun vs H Q _ => ∃ (B O : Hp) (v : V) (L : LS) (s p : Nat), vs = [v, .int (s : Int), .int (p : Int)] ∧ W B O H ∧ IsLS K C L B v ∧ LOk L ∧ L.start ≤ s ∧ s ≤ 5000 ∧ p ≤ 5000 ∧
  ∀ u B' H', Ex B B' → W B' O H' → Dt K B' u (.list (bools (marksTo L s p))) → Q u H'
theorem bools_app {a b : List Bool} : bools (a ++ b) = bools a ++ bools b := List.map_append

section
variable {P : Program} {w : World} {K : PySem.W.Frag} {mg : Str → Option Value} {base : Heap}


theorem ok_marks_of {f CS : Addr} {fd : FuncData} (T : Txt K mg) (S : SetC K mg CS) (a : At K mg "marks_of" s_marks_of ["lengths", "start", "period"] f fd) : FnOk P w K mg base CX0 2 f fd ["lengths", "start", "period"] (SpMarks K CS) := by
  refine a.fn.ok sc_marks_of (fun vs H Q E h => ?_) (fun cdv A outer s0 H vs Q E hr h => ?_)
  · obtain ⟨B, O, v, L, s, p, rfl, _⟩ := h
    rfl
  obtain ⟨B, O, v, L, s, p, rfl, hw, hL, ok, hs0, hs, hp, q⟩ := h
  refine ⟨_, (pss_cons (ps_set (i := 3) sc_marks_of.nd rfl (Or.inr rfl) (pe_callTy (call_listK K) (by rfl) T.b_list (by decide +kernel) (pa_cons (pe_fldK K (pv 0) rfl) pa_nil)))
    (pss_cons (ps_setLc (i := 4) (own := [("number", 5)]) (by rfl) sc_marks_of.nd rfl rfl (sw_true rfl rfl rfl (by decide +kernel)) (pi_range2 (by rfl) T.b_range (pa_cons (pe_fldK K (pv 0) rfl) (pa_cons (pv 1) pa_nil))) (blkOk_by (own := [("number", 5)]) (N := N_sc_marks_of) (sc := defScope s_marks_of) (by decide +kernel)) (fun _ _ _ _ _ => (pg_name (i := 5) sc_marks_of.nd rfl (Or.inl rfl))) (fun _ _ _ _ _ => pts_nil) (fun _ _ _ _ _ => (pe_ix (ix_listK K) (pv 3) (pe_op op_mod (pv 5) (pe_fldK K (pv 0) rfl)) (fun _ _ => rfl))))
    (pss_one (ps_ret (pe_op op_cat (pe_op op_cat (pe_callTy (call_listK K) (by rfl) T.b_list (by decide +kernel) (pa_cons (pe_fldK K (pv 0) rfl) pa_nil)) (pv 4)) (pe_op op_rep (pv 3) (pe_op op_fdiv (pv 2) (pe_fldK K (pv 0) rfl)))))))), ?_⟩
  have st : Sta K B O [.val v, .dat (.int (s : Int)), .dat (.int (p : Int)), .un, .un, .un] (L2.start N_sc_marks_of [v, .int (s : Int), .int (p : Int)]) H := ⟨hw, ⟨rfl, ⟨_, rfl, .int _⟩, ⟨_, rfl, .int _⟩, trivial, trivial, trivial, trivial⟩⟩
  have hper := ok.p
  refine q_asg st (ev_cb (ea_cons (f_cycle S (ev_ls rfl hL)) ea_nil) rc_listT) fun v1 B1 H1 x1 d1 st => ?_
  have hL1 := hL.ex x1
  refine q_asg st (ev_map (List.range (s - L.start)) (fun (i : Nat) => .int ((L.start : Int) + (i : Int))) (fun (i : Nat) => .bool (L.cycle.getD ((L.start + i) % L.period) false)) (fun i => _) ?_ (by rw [List.length_range]; omega) (fun i _ => eg_nameW (by decide)) (fun i _ => ev_op (ev_var rfl) (ev_is (ev_op (ev_var rfl) (f_period S (ev_ls rfl hL1)) (rd_I (by omega))) (?_ : _ = PyData.int (((L.start + i) % L.period : Nat) : Int))) (rd_ixL (at_bools (by rw [ok.c]; exact Nat.mod_lt _ (by omega)))))) fun v2 B2 H2 x2 d2 st => ?_
  · have e := ei_range2 (K := K) (B := B1) (O := O) (G := [.val v, .dat (.int (s : Int)), .dat (.int (p : Int)), .dat (.list (bools L.cycle)), .un, .un]) (i := (L.start : Int)) (j := (s : Int)) (ea_cons (f_start S (ev_ls (i := 0) rfl hL1)) (ea_cons (ev_var (i := 1) rfl) ea_nil)) (by have := ok.s; omega) (by omega)
    rw [show ((s : Int) - (L.start : Int)).toNat = s - L.start by omega] at e
    exact e
  · rw [Int.natCast_emod, Int.natCast_add]
  have hL2 := hL1.ex x2
  have hdiv : ((p : Int) / (L.period : Int)).toNat = p / L.period := by
    rw [← Int.natCast_ediv]
    rfl
  have hq : 0 ≤ (p : Int) / (L.period : Int) ∧ (p : Int) / (L.period : Int) ≤ 5000 := by
    refine ⟨Int.ediv_nonneg (by omega) (by omega), ?_⟩
    rw [← Int.natCast_ediv]
    have := Nat.div_le_self p L.period
    omega
  have hmul : L.period * (p / L.period) ≤ 5000 := Nat.le_trans (Nat.mul_div_le _ _) hp
  have eb : (List.range (s - L.start)).map (fun (i : Nat) => PyData.bool (L.cycle.getD ((L.start + i) % L.period) false)) = bools ((List.range (s - L.start)).map fun (i : Nat) => L.cycle.getD ((L.start + i) % L.period) false) := by
    unfold bools
    rw [List.map_map]
    rfl
  rw [eb] at st
  refine s_ret st (d := .list (bools (marksTo L s p))) (ev_is (ev_op (ev_op (ev_cb (ea_cons (f_marks S (ev_ls rfl hL2)) ea_nil) rc_listT) (ev_var rfl) (rd_cat ?_)) (ev_op (ev_var rfl) (ev_op (ev_var rfl) (f_period S (ev_ls rfl hL2)) (rd_I ⟨by omega, by omega⟩)) (rd_rep ⟨hq.1, by omega⟩ ?_)) (rd_cat ?_)) ?_) fun v3 B3 H3 x3 w3 d3 => ?_
  · rw [bools_len, bools_len, List.length_map, List.length_range, ok.m]
    omega
  · rw [bools_len, hdiv, ok.c]
    omega
  · rw [List.length_append, bools_len, bools_len, List.length_map, List.length_range, ok.m, hdiv, rep_bools, bools_len, list_rep, ok.c]
    omega
  · rw [hdiv, rep_bools, ← bools_app, ← bools_app]
    rfl
  · exact q v3 B3 H3 ((x1.trans x2).trans x3) w3 d3

end
end Toy
set_option Elab.async false
set_option linter.all false
set_option maxRecDepth 100000
set_option maxHeartbeats 2000000
/-! Several except clauses that all bind the same name; isinstance of such an error that has fields. -/
namespace L2
open PySem PySem.Spec PyProof.Rows
/-- behind a suite the name's slot is empty again -/
abbrev Ends.gone (D : Ends) (i : Nat) : Ends := ⟨fun σ H => D.nx (σ.set i none) H, D.rt, fun σ H => D.bk (σ.set i none) H, fun σ H => D.ct (σ.set i none) H⟩
/-- the wish of the clauses, from the first on -/
def wAll (K : PySem.W.Frag) (i : Nat) (Wout : WX) (D : Ends) : List (Value × (Addr → Value → Option Addr → TS)) → WX
  | [] => Wout
  | cl :: more => fun cls d σ H => ∃ hit, PySem.W.exmOne K cls cl.1 = some hit ∧ (hit = true → ∀ a, H a = none → cl.2 a cls d (D.gone i) (σ.set i (some (.ref a))) H) ∧ (hit = false → wAll K i Wout D more cls d σ H)
/-- clauses: except x as n, n in every one -/
inductive Clauses (X : Cx) (n : Str) : List ExceptHandler → List (Value × (Addr → Value → Option Addr → TS)) → Prop
  | none : Clauses X n [] []
  | more {x : Str} {c : Value} {ts : Addr → Value → Option Addr → TS} {first : Stmt} {rest : List Stmt} {p q : Pos} {hs : List ExceptHandler} {l : List (Value × (Addr → Value → Option Addr → TS))} (names : Names X x c)
      (suite : ∀ (a : Addr) (oe : Obj) (cls : Value) (d : Option Addr) (pn : List (Addr × Obj)), Zc cls d oe → (∃ vs, oe.data = .fields vs) → PSs (X.suite a ((a, oe) :: pn)) (first :: rest) (ts a cls d)) (tail : Clauses X n hs l) :
      Clauses X n (.ExceptHandler (some (.Name x p)) (some n) (first :: rest) q :: hs) ((c, ts) :: l)
section
variable {X : Cx} {n : Str} {i : Nat} {body : List Stmt} {h₀ : ExceptHandler} {hds : List ExceptHandler} {l : List (Value × (Addr → Value → Option Addr → TS))} {pos : Pos} {tb : WX → TS} {Wout : WX}
/-- where an exception at a has landed in the running body -/
structure Landed (X : Cx) (pins : List (Addr × Obj)) (σ : St) (H : Hp) (B : Heap) (a : Addr) (cls : Value) (d : Option Addr) (sI s : Shared) (h : Heap) : Prop where
  J : Inv X pins σ H sI
  nb : ∀ b o, sI.heap.get? b = some o → b ∉ frs X.stack → B.get? b = some o
  up : sI.heap.UpToSlots h
  fl : HandSPX.FlyingZ B (X.env :: X.outer) a (Zc cls d) h
  na : H a = none
  os : s.os = sI.os
  ag : AllBare s.gens
  nL : a ≠ X.env.locals
  nF : a ∉ X.fs
theorem Landed.inv {pins : List (Addr × Obj)} {σ : St} {H : Hp} {B : Heap} {a : Addr} {cls : Value} {d : Option Addr} {sI s : Shared} {h : Heap} (L : Landed X pins σ H B a cls d sI s h) : Inv X pins σ H { s with heap := h } := L.J.landed L.nb L.fl.1 L.up L.os L.ag
theorem Landed.step {pins : List (Addr × Obj)} {σ : St} {H : Hp} {B : Heap} {a : Addr} {cls : Value} {d : Option Addr} {sI s : Shared} {h h' : Heap} (L : Landed X pins σ H B a cls d sI s h) (f : HandSPX.FlyingZ B (X.env :: X.outer) a (Zc cls d) h') (u : h.UpToSlots h') : Landed X pins σ H B a cls d sI s h' :=
  { J := L.J, nb := L.nb, up := L.up.trans u, fl := f, na := L.na, os := L.os, ag := L.ag, nL := L.nL, nF := L.nF }
/-- no clause is left: the exception goes on -/
theorem none_left {pins : List (Addr × Obj)} {σ : St} {H : Hp} {B : Heap} {a : Addr} {cls : Value} {d : Option Addr} {sI s : Shared} {h : Heap} {Q : Flow → Shared → Prop} (hs : X.stack = X.env :: X.outer) (hf : X.env.frame = some X.env.locals) (tk : Takes X Wout) (L : Landed X pins σ H B a cls d sI s h) (w : Wout cls d σ H) :
    wpAny (model X.prog X.w) X.A (handleBy (.ref a) X.env []) Q X.xe { s with heap := h } := by
  obtain ⟨_, _, _, oe, vs, T, oT, _, heap_a, _, dat, fld, _⟩ := id L.fl
  have thrown : wpAny (model X.prog X.w) X.A (setFlight (.ref a) X.env.frame) (fun _ s4 => wpAny (model X.prog X.w) X.A (throw (.ref a) : Sem Flow) Q X.xe s4) X.xe { s with heap := h } := by
    rw [hf]
    exact HandSPX.setFlight_upZ L.fl fun h4 held u4 => wpAny_throw (tk _ _ ⟨a, B, sI, pins, σ, H, cls, d, rfl, L.J, L.nb, L.up.trans u4, .inr (.inr (by rw [hs]; exact held)), L.na, L.os, L.ag, w⟩)
  refine wpAny_handleBy_nil ?_
  unfold PySem.passOn
  refine wpAny_bind (wpAny_field heap_a dat fld ?_)
  rw [if_neg (by simp : ¬ ((Value.ref T == Value.none) = true))]
  first | exact wpAny_bind thrown | exact wpAny_bind (wpAny_pure (wpAny_bind thrown))
/-- the clauses, one after the other -/
theorem by_clauses {pins : List (Addr × Obj)} {σ : St} {H : Hp} {B : Heap} {a : Addr} {cls : Value} {d : Option Addr} {sI s : Shared} {h : Heap} {D : Ends} (ok : X.Ok) (hs : X.stack = X.env :: X.outer) (hf : X.env.frame = some X.env.locals) (hN : X.N.Nodup) (hi : X.N[i]? = some n) (hln : X.env.kindOf n = some .local) (tk : Takes X Wout)
    (L : Landed X pins σ H B a cls d sI s h) (cs : Clauses X n hds l) (w : wAll X.K i Wout D l cls d σ H) : wpAny (model X.prog X.w) X.A (handleBy (.ref a) X.env hds) (SP X pins D) X.xe { s with heap := h } := by
  induction cs with
  | none => exact none_left hs hf tk L w
  | @more x c ts first rest p q hs2 l2 names suite tail ih =>
    obtain ⟨hit, isit, yes, no⟩ := w
    obtain ⟨oe, vs, there, zc, dat⟩ := L.fl.there
    have SU := L.inv.suite there dat L.na L.nL L.nF
    have known := PySem.W.exm_one (M := model X.prog X.w) L.inv.kIn (fun A Q E s k q => wpAny_typeOf_ref (k _ _ there) (by rw [zc.1]; exact q)) isit
    refine wpAny_handleBy_cons (codeAny_handlers_test ?_) (fun z => by cases z)
    have name : ∀ {Q : Value → Shared → Prop} {E : Value → Shared → Prop}, Q c { s with heap := h } → wpAny (model X.prog X.w) (X.A.mark (some (.ref a))) (eval (.Name x p) X.env) Q E { s with heap := h } := by
      intro Q E fine
      obtain ⟨g, dbg, m⟩ := names
      rcases m with m | ⟨m, b, nn⟩
      · exact ld_glob (X := X.suite a ((a, oe) :: (X.pn ++ pins))) SU g m fine dbg
      · exact ld_blt (X := X.suite a ((a, oe) :: (X.pn ++ pins))) SU g m b fine nn dbg
    refine name (known.here ?_)
    cases hit with
    | false => exact ih (no rfl)
    | true =>
      refine codeAny_handlers_suite_as (HandSPX.lands_againZ L.fl fun h2 fl2 up2 => ?_)
      have L2' := L.step fl2 up2
      obtain ⟨oe2, vs2, there2, zc2, dat2⟩ := fl2.there
      have SU2 := L2'.inv.suite there2 dat2 L.na L.nL L.nF
      refine store_ok (X := X.suite a ((a, oe2) :: (X.pn ++ pins))) (v := .ref a) SU2 hN hi (.inl hln) rfl (fun s5 SU5 => ?_) (.inr hln)
      refine wpAny_mono ((suite a oe2 cls d (X.pn ++ pins) zc2 ⟨_, dat2⟩).run [] s5 _ H (D.gone i) SU5 (yes rfl a L.na)) (fun f s6 done => ?_) (fun _ _ z => z.elim)
      have unbound : ∀ {σ6 : St} {H6 : Hp} {Q : Shared → Prop}, Inv (X.suite a ((a, oe2) :: (X.pn ++ pins))) [] σ6 H6 s6 → (∀ s7, Inv X pins (σ6.set i none) H6 s7 → Q s7) → wpAny (model X.prog X.w) X.A (do bindName X.env n .none; unbindBehindTheSuite X.env n q) (fun _ s7 => Q s7) X.xe s6 :=
        fun {σ6 H6 Q} S6 k => gone_ok (S6.unsuite ok) hN hi hln k
      cases f with
      | ret u =>
        obtain ⟨v6, σ6, H6, S6, r6, q6⟩ := done
        exact unbound S6 fun s7 J7 => ⟨v6, _, H6, J7, r6, q6⟩
      | next =>
        obtain ⟨σ6, H6, S6, q6⟩ := done
        exact unbound S6 fun s7 J7 => ⟨_, H6, J7, q6⟩
      | brk =>
        obtain ⟨σ6, H6, S6, q6⟩ := done
        exact unbound S6 fun s7 J7 => ⟨_, H6, J7, q6⟩
      | cont =>
        obtain ⟨σ6, H6, S6, q6⟩ := done
        exact unbound S6 fun s7 J7 => ⟨_, H6, J7, q6⟩
/-- try: body, except x as n: .., except y as n: .. -/
theorem ps_try_all (hs : X.stack = X.env :: X.outer) (hf : X.env.frame = some X.env.locals) (hN : X.N.Nodup) (hi : X.N[i]? = some n) (hln : X.env.kindOf n = some .local) (tk : Takes X Wout)
    (hb : ∀ (W : WX) (pn : List (Addr × Obj)) (xe : Value → Shared → Prop), Takes (X.tr pn xe) W → PassesOwn (model X.prog X.w) X.A X.env xe → PSs (X.tr pn xe) body (tb W))
    (cs : Clauses X n (h₀ :: hds) l) : PS X (.Try body (h₀ :: hds) [] [] pos) (fun D σ H => tb (wAll X.K i Wout D l) D σ H) := by
  refine ⟨fun pins s σ H D I want => wpAny_Try_except ?_⟩
  have ok := I.ok
  have frames : X.A.frames = some (X.env :: X.outer) := by rw [ok.frames, hs]
  have B0 := hb (wAll X.K i Wout D l) (X.pn ++ pins) (fun e s₁ => wpAny (model X.prog X.w) X.A (noteFrame e X.env) (fun _ s₂ => wpAny (model X.prog X.w) X.A (setFlight e none) (fun _ s₃ => wpAny (model X.prog X.w) X.A (handleBy e X.env (h₀ :: hds)) (SP X pins D) X.xe s₃) X.xe s₂) X.xe s₁)
    (by
      rintro u s' ⟨a, B, sI, pins', σ', H', cls, d, rfl, J', nb, up, sky, na, os, ag, w⟩
      have J : Inv X pins σ' H' sI := J'.ofTry ok
      rw [show X.stack = X.env :: X.outer from hs] at sky
      refine Sky.land Zc.steady frames hf sky fun h3 fl3 up3 => ?_
      obtain ⟨oe, vs, there, _, dat⟩ := fl3.there
      have off : a ∉ frs (X.env :: X.outer) := fun z => by
        obtain ⟨_, o, e, bad⟩ := fl3.2.2.1.mem z
        rw [there] at e
        cases e
        exact bad _ dat
      refine by_clauses ok hs hf hN hi hln tk ⟨J, nb, up.trans up3, fl3, na, os, ag, fun z => off (List.mem_filterMap.mpr ⟨X.env, List.mem_cons_self, by rw [hf, z]⟩), fun z => ?_⟩ cs w
      obtain ⟨e, he, q⟩ := List.mem_filterMap.mp z
      exact off (List.mem_filterMap.mpr ⟨e, List.mem_cons_of_mem _ he, q⟩))
    PassesOwn.looking
  refine wpAny_mono (B0.run [] s σ H D (I.toTry _) want) (fun f s1 done => ?_) (fun _ _ z => z)
  cases f with
  | ret u =>
    obtain ⟨v, σ1, H1, J1, r1, q1⟩ := done
    exact ⟨v, σ1, H1, J1.ofTry ok, r1, q1⟩
  | next =>
    obtain ⟨σ1, H1, J1, q1⟩ := done
    exact wpAny_execs_nil ⟨σ1, H1, J1.ofTry ok, q1⟩
  | brk =>
    obtain ⟨σ1, H1, J1, q1⟩ := done
    exact ⟨σ1, H1, J1.ofTry ok, q1⟩
  | cont =>
    obtain ⟨σ1, H1, J1, q1⟩ := done
    exact ⟨σ1, H1, J1.ofTry ok, q1⟩
end
end L2

set_option Elab.async false
set_option linter.all false
set_option maxRecDepth 100000
set_option maxHeartbeats 2000000
/-! isinstance of a caught error of the text that has fields. -/
namespace L2
open PySem PySem.Spec PyProof.Rows
/-- isinstance(e, c), e the exception (its class cls, its dict d) that the suite holds -/
def rIsX (K : PySem.W.Frag) (D a : Addr) (cls : Value) (d : Option Addr) : List V → Hp → VK → Prop := fun xs H Q => ∃ (c : V) (cv : Value) (b : Bool) (dd : Addr) (fs : List (Str × V)), xs = [.ref a, c] ∧ cls = .ref D ∧ d = some dd ∧ (∀ u, RelV c u → u = cv) ∧ PySem.W.kitOne K (.ref D) cv = some b ∧ H dd = some (.xd fs) ∧ Q (.bl b) H
theorem call_isX {X : Cx} {a D : Addr} {cls : Value} {d : Option Addr} {oe : Obj} {pn : List (Addr × Obj)} (C : ExcC X.K D) (hz : Zc cls d oe) (hf : ∃ vs, oe.data = .fields vs) : CallR (X.suite a ((a, oe) :: pn)) (.builtin "isinstance") (rIsX X.K D a cls d) := by
  intro pins s σ H xs us Q I r h
  obtain ⟨c, cv, b, dd, fs, rfl, ec, ed, hcv, e, hd, q⟩ := h
  subst ec ed
  obtain ⟨u1, u2, rfl, r1, r2⟩ := vals2 r
  cases (show u1 = Value.ref a from r1)
  have e2 := hcv _ r2
  subst e2
  obtain ⟨there, _⟩ := I.pin (a, oe) (List.mem_append_left _ List.mem_cons_self)
  obtain ⟨vs, dat⟩ := hf
  obtain ⟨mA, hns, _⟩ := (show ObjOk X.prog X.w H s.heap dd (.xd fs) from I.hok dd _ hd)
  obtain ⟨od, ho, _⟩ := lookIn_ns hns
  have J : PySem.W.InstAt s.heap a oe D (some od) := ⟨there, hz.1, by unfold PySem.W.notCls; rw [dat] <;> rfl, by rw [hz.2]; exact ho⟩
  have hc : (PySem.W.clsIn X.K D).isSome = true := by
    obtain ⟨cd, hc, _⟩ := PySem.W.any_some C.hd
    rw [hc]
    rfl
  exact PySem.W.kia_one (PySem.W.kitx_exc (od := some od) hc C.hg C.hk C.hs C.ha C.hn C.ht C.hm) I.kIn J e (fun z => nomatch z) fun tk => ⟨.bl b, H, I.kept (t' := tk) fun _ _ z => z, rfl, q⟩
end L2

set_option Elab.async false
set_option linter.all false
set_option maxRecDepth 100000
set_option maxHeartbeats 4000000
namespace Toy
open PySem PySem.Spec PyProof.Rows L2 StX DL


theorem passN {X : Cx} {W : WX} {m : Nat} (tk : Takes X W) (hm : X.N.length = m) : Passes (L2.CX X.prog X.w) X (fun cls d H => ∀ σ' : L2.St, σ'.length = m → W cls d σ' H) := fun _ σ _ _ e s' I c => tk e s' (XE.of_call I (fun _ _ _ h => h σ (I.len.trans hm)) c)
/-- the class stands, it can be made -/
structure MkS (P : Program) (w : World) (K : PySem.W.Frag) (mg : Str → Option Value) (base : Heap) (CN CT CS t0 t1 : Addr) : Prop where
  ex : ∃ fI fd, Mk K CS fI ∧ FnOk P w K mg base (L2.CX P w) 8 fI fd ["self", "early", "start", "period", "rests"] (SpInit K CN CT CS) ∧ Binds K fd ["self", "early", "start", "period", "rests"] [] ∧
    (∃ ds, Vals [.ref t0, .int 0, .int 1, .ref t1] ds ∧ Binds K fd ["self", "early", "start", "period", "rests"] ds) ∧ (∃ ds, Vals [.int 1, .ref t1] ds ∧ Binds K fd ["self", "early", "start", "period", "rests"] ds) ∧
    ∃ g, KBn K fd ["self", "early", "start", "period", "rests"] 2 ["start", "period", "rests"] g (fun vs zs => vs ++ zs)
  e0 : ∀ B, Dt K B (.ref t0) (.tuple [])
  e1 : ∀ B, Dt K B (.ref t1) (.tuple [])
section
variable {K : PySem.W.Frag} {B O : Hp} {G : List SD} {CN CT CS : Addr} {t tk : TA} {ds es0 : List PyData} {dvs : List V} {e s p r : PyData} {es rs : List Int} {n k : Int} {E : XK}
theorem make_at {B1 B2 O1 H2 : Hp} {vs : List V} {Q : VK} (e2 : Ex B1 B2) (w2 : W B2 O1 H2) (d : DtAll K B2 vs [e, s, p, r]) (hm : Right e s p r es n k rs) (q : ∀ v B' H', Ex B1 B' → W B' O1 H' → IsLS K CS (lsOf es n k rs) B' v → Q v H') :
    ∀ x dx, H2 x = none → H2 dx = none → dx ≠ x → SpInit K CN CT CS (.ref x :: vs) (upd (upd H2 dx (.own x)) x (.ins CS dx [])) (fun v H3 => v = .non ∧ Q (.ref x) H3) E := fun x dx hx hdx hne => by
  have hw := (w2.newO (u := .own x) hdx).newO (p := x) (u := .ins CS dx []) (by rw [upd_ne (fun z => hne z.symm)]; exact hx)
  exact ⟨B2, O1, x, dx, vs, e, s, p, r, .ok (lsOf es n k rs), rfl, w2.fo hx, w2.fo hdx, hne, hw, d, .ok hm, fun B' H' e' w' hL => ⟨rfl, q (.ref x) B' H' (e2.trans e') w' hL⟩⟩
/-- LengthSet(..), what is written and the defaults behind it -/
theorem ev_make (h : EvA K B O G t ds) (hv : ∀ B', DtAll K B' dvs es0) (he : ds ++ es0 = [e, s, p, r]) (hm : Right e s p r es n k rs) : EvP K B O G (tMake CS (SpInit K CN CT CS) dvs E t) (IsLS K CS (lsOf es n k rs)) := fun B1 O1 σ H e1 o st Q q =>
  h B1 O1 σ H e1 o st _ fun vs B2 H2 e2 w2 d2 => by
    have d := dps_app d2 (hv B2)
    rw [he] at d
    exact make_at e2 w2 d hm q
theorem ev_makeN {ds2 : List PyData} {m1 m2 : Nat} (h : EvA K B O G t ds) (h2 : EvA K B O G tk ds2) (l1 : ds.length = m1) (l2 : ds2.length = m2) (he : ds ++ ds2 = [e, s, p, r]) (hm : Right e s p r es n k rs) : EvP K B O G (tMakeN CS m1 m2 (SpInit K CN CT CS) (fun vs zs => vs ++ zs) E t tk) (IsLS K CS (lsOf es n k rs)) := fun B1 O1 σ H e1 o st Q q =>
  h B1 O1 σ H e1 o st _ fun vs B2 H2 e2 w2 d2 => h2 B2 O1 σ H2 (e1.trans e2) o (st.ex e2 w2) _ fun zs B3 H3 e3 w3 d3 => ⟨by rw [dps_len d2, l1], by rw [dps_len d3, l2], by
    have d := dps_app (dps_ex e3 _ _ d2) d3
    rw [he] at d
    exact make_at (e2.trans e3) w3 d hm q⟩
/-- LengthSet(..) as a statement, wrong -/
theorem s_makeX {σ : L2.St} {H : Hp} {D : Ends} {C1 : Addr} {f1 x1 : Str} (st : Sta K B O G σ H) (h : EvA K B O G t [e, s, p, r]) (hm : mkErr CN CT e s p r = some (C1, f1, x1)) (k2 : ∀ pp B' H', Ex B B' → W B' O H' → B' pp = some (.xd [(f1, .str x1)]) → E (.ref C1) (some pp) H') :
    tDrop (tMake CS (SpInit K CN CT CS) [] E t) D σ H :=
  h B O σ H (Ex.refl _) (Ex.refl _) st _ fun vs B2 H2 e2 w2 d2 x dx hx hdx hne => by
    have hw := (w2.newO (u := .own x) hdx).newO (p := x) (u := .ins CS dx []) (by rw [upd_ne (fun z => hne z.symm)]; exact hx)
    refine ⟨B2, O, x, dx, vs, e, s, p, r, .exc C1 f1 x1, by rw [List.append_nil], w2.fo hx, w2.fo hdx, hne, hw, d2, .exc hm, fun pp B' H' e' w' hp => k2 pp B' H' (e2.trans e') w' hp⟩
theorem s_makeR {σ : L2.St} {H : Hp} {D : Ends} (st : Sta K B O G σ H) (h : EvA K B O G t [e, s, p, r]) (hm : Right e s p r es n k rs) (k1 : ∀ B' H', Ex B B' → Sta K B' O G σ H' → D.nx σ H') :
    tDrop (tMake CS (SpInit K CN CT CS) [] E t) D σ H :=
  h B O σ H (Ex.refl _) (Ex.refl _) st _ fun vs B2 H2 e2 w2 d2 => by
    rw [List.append_nil]
    exact make_at (B1 := B) e2 w2 d2 hm fun v B' H' e' w' _ => k1 B' H' e' ⟨w', st.s.ex e'⟩
end
/-- what the law makes of an error -/
def ansD (CN CT : Addr) (e s p r : PyData) : PyData := match mkErr CN CT e s p r with
  | none => .none
  | some (C, _, x) => if C = CN then .tuple [.str "set", .str x] else .tuple [.str "large", .str x]

section
variable {P : Program} {w : World} {K : PySem.W.Frag} {mg : Str → Option Value} {base : Heap}


/-- what the law's handlers ask of the two classes and of LimitError -/
structure Errs (P : Program) (w : World) (K : PySem.W.Frag) (mg : Str → Option Value) (base : Heap) (CN CT CL : Addr) : Prop where
  n : ErrC P w K mg base "NoSet" CN "place"
  t : ErrC P w K mg base "TooLarge" CT "limit"
  ne : CN ≠ CT
  gL : mg "LimitError" = some (.ref CL)
  nn : PySem.W.exmOne K (.ref CN) (.ref CN) = some true
  tn : PySem.W.exmOne K (.ref CT) (.ref CN) = some false
  tt : PySem.W.exmOne K (.ref CT) (.ref CT) = some true
  nL : PySem.W.kitOne K (.ref CN) (.ref CL) = some true
  nV : PySem.W.kitOne K (.ref CN) (.type "ValueError") = some true
  tL : PySem.W.kitOne K (.ref CT) (.ref CL) = some true
  cN : ExcC K CN
  cT : ExcC K CT
def R_ans (CN CT : Addr) (ds : List PyData) (d : PyData) : Prop := ∃ e s p r, ((∃ es n k rs, Right e s p r es n k rs) ∨ ∃ x, mkErr CN CT e s p r = some x) ∧ ds = [.list [e, s, p, r]] ∧ d = ansD CN CT e s p r

end
end Toy
set_option Elab.async false
set_option linter.all false
set_option maxRecDepth 100000
set_option maxHeartbeats 4000000
namespace Toy
open PySem PySem.Spec PyProof.Rows L2 StX DL


theorem idx_filter {bs : List Bool} {n : Nat} (h : bs.length = n) (f : Nat → Bool) (hf : ∀ i, i < n → f i = bs.getD i false) : ((List.range n).filter f).map (fun (i : Nat) => PyData.int (i : Int)) = whole_list (idx bs) := by
  unfold idx whole_list
  rw [h, List.map_map]
  have e : (List.range n).filter f = (List.range n).filter fun i => bs.getD i false := List.filter_congr fun i hi => hf i (List.mem_range.mp hi)
  rw [e]
  rfl
theorem rises_ints {hi : Int} : ∀ {es : List Int} {lo : Int}, es.Pairwise (· < ·) → (∀ x, x ∈ es → lo ≤ x ∧ x ≤ hi) → risesD lo hi (whole_list es) = true
  | [], _, _, _ => rfl
  | x :: es, lo, hp, hb => by
    obtain ⟨h1, h2⟩ := List.pairwise_cons.mp hp
    obtain ⟨b1, b2⟩ := hb x List.mem_cons_self
    show (inFrom (.int x) lo (some hi) && risesD (x + 1) hi (whole_list es)) = true
    rw [rises_ints h2 fun y hy => ⟨by have := h1 y hy; omega, (hb y (List.mem_cons_of_mem _ hy)).2⟩]
    simp [inFrom, under, b1, b2]
theorem rise_row {es : List Int} {n : Int} (h : Rise es n) : risesD 0 (n - 1) (whole_list es) = true := rises_ints h.1 fun x hx => ⟨(h.2 x hx).1, by have := (h.2 x hx).2; omega⟩
theorem rise_idx {bs : List Bool} : Rise (idx bs) bs.length := by
  refine ⟨?_, fun x hx => ?_⟩
  · unfold idx
    rw [List.pairwise_map]
    refine (List.pairwise_lt_range.filter _).imp fun {a b} h => ?_
    omega
  · unfold idx at hx
    obtain ⟨j, hj, rfl⟩ := List.mem_map.mp hx
    have := List.mem_range.mp (List.mem_filter.mp hj).1
    omega
theorem idx_len {bs : List Bool} : (idx bs).length ≤ bs.length := by
  unfold idx
  rw [List.length_map]
  have := List.length_filter_le (fun i => bs.getD i false) (List.range bs.length)
  rw [List.length_range] at this
  exact this
/-- the set that marks and a round make -/
def lsB (ms cs : List Bool) : LS := lsOf (idx ms) ms.length cs.length (idx cs)
theorem right_idx {ms cs : List Bool} (h1 : ms.length ≤ 5000) (h2 : 1 ≤ cs.length) (h3 : cs.length ≤ 5000) : Right (.list (whole_list (idx ms))) (.int ms.length) (.int cs.length) (.list (whole_list (idx cs))) (idx ms) ms.length cs.length (idx cs) := by
  have l1 := idx_len (bs := ms)
  have l2 := idx_len (bs := cs)
  exact ⟨⟨rfl, by omega, by omega⟩, ⟨rfl, by omega, by omega⟩, ⟨.inl rfl, rise_row rise_idx, by omega⟩, ⟨.inl rfl, rise_row rise_idx, by omega⟩⟩
def SpSetOf (K : PySem.W.Frag) (C : Addr) : Sp := fun vs H Q _ => ∃ (B O : Hp) (v : V) (ms cs : List Bool), vs = [v, .int (ms.length : Int)] ∧ W B O H ∧ Dt K B v (.list (bools (ms ++ cs))) ∧ ms.length ≤ 5000 ∧ 1 ≤ cs.length ∧ cs.length ≤ 5000 ∧ ∀ u B' H', Ex B B' → W B' O H' → IsLS K C (lsB ms cs) B' u → Q u H'
theorem get_left {ms cs : List Bool} {i : Nat} (h : i < ms.length) : (ms ++ cs).getD i false = ms.getD i false := by
  rw [List.getD_eq_getElem?_getD, List.getElem?_append_left h, ← List.getD_eq_getElem?_getD]
theorem get_right {ms cs : List Bool} {i : Nat} : (ms ++ cs).getD (ms.length + i) false = cs.getD i false := by
  rw [List.getD_eq_getElem?_getD, List.getElem?_append_right (by omega), Nat.add_sub_cancel_left, ← List.getD_eq_getElem?_getD]

section
variable {P : Program} {w : World} {K : PySem.W.Frag} {mg : Str → Option Value} {base : Heap}


theorem ok_set_of {f CN CT CS t0 t1 : Addr} {fd : FuncData} (T : Txt K mg) (S : SetC K mg CS) (M : MkS P w K mg base CN CT CS t0 t1) (a : At K mg "set_of" s_set_of ["marks", "start"] f fd) : FnOk P w K mg base CX0 10 f fd ["marks", "start"] (SpSetOf K CS) := by
  obtain ⟨⟨fI, fdI, Mk_, Fi, B4, ⟨d0, V0, B0⟩, ⟨d2, V2, B2⟩, gk, Bk⟩, E0_, E1_⟩ := M
  refine a.fn.ok sc_set_of (fun vs H Q E h => ?_) (fun cdv A outer s0 H vs Q E hr h => ?_)
  · obtain ⟨B, O, v, ms, cs, rfl, _⟩ := h
    rfl
  obtain ⟨B, O, v, ms, cs, rfl, hw, hd, h1, h2, h3, q⟩ := h
  refine ⟨_, (pss_cons (ps_set (i := 2) sc_set_of.nd rfl (Or.inl rfl) (pe_op op_sub (pe_callB (call_lenK K) (by rfl) T.b_len PySem.boot_len (pa_cons (pv 0) pa_nil)) (pv 1)))
    (pss_cons (ps_setLc (i := 3) (own := [("number", 4)]) (by rfl) sc_set_of.nd rfl rfl (sw_true rfl rfl rfl (by decide +kernel)) (pi_range1 (by rfl) T.b_range (pa_cons (pv 1) pa_nil)) (blkOk_by (own := [("number", 4)]) (N := N_sc_set_of) (sc := defScope s_set_of) (by decide +kernel)) (fun _ _ _ _ _ => (pg_name (i := 4) sc_set_of.nd rfl (Or.inl rfl))) (fun _ _ _ _ _ => (pts_one (pt_val (pe_ix (ix_listK K) (pv 0) (pv 4) (fun _ _ => rfl))))) (fun _ _ _ _ _ => (pv 4)))
    (pss_one (ps_ret (pe_make Mk_ Fi (hr.mono (by omega)) (by rfl) S.g B4 .nil passL (pa_cons (pv 3) (pa_cons (pv 1) (pa_cons (pv 2) (pa_cons (pe_lc (own := [("rest", 5)]) (by rfl) sc_set_of.nd (pi_range1 (by rfl) T.b_range (pa_cons (pv 2) pa_nil)) (blkOk_by (own := [("rest", 5)]) (N := N_sc_set_of) (sc := defScope s_set_of) (by decide +kernel)) (fun _ _ _ _ _ => (pg_name (i := 5) sc_set_of.nd rfl (Or.inl rfl))) (fun _ _ _ _ _ => (pts_one (pt_val (pe_ix (ix_listK K) (pv 0) (pe_op op_add (pv 1) (pv 5)) (fun _ _ => rfl))))) (fun _ _ _ _ _ => (pv 5))) pa_nil))))))))), ?_⟩
  have st : Sta K B O [.dat (.list (bools (ms ++ cs))), .dat (.int (ms.length : Int)), .un, .un, .un, .un] (L2.start N_sc_set_of [v, .int (ms.length : Int)]) H := ⟨hw, ⟨⟨_, rfl, hd⟩, ⟨_, rfl, .int _⟩, trivial, trivial, trivial, trivial, trivial⟩⟩
  have ll : (bools (ms ++ cs)).length = ms.length + cs.length := by rw [bools_len, List.length_append]
  refine q_asg st (ev_is (ev_op (ev_cb (ea_cons (ev_var rfl) ea_nil) rc_lenL) (ev_var rfl) rd_I0) (?_ : _ = PyData.int (cs.length : Int))) fun v1 B1 H1 x1 d1 st => ?_
  · rw [ll]
    congr 1
    omega
  have rng : ∀ {n : Nat}, rangeD 0 ((n : Int)).toNat = (List.range n).map fun (i : Nat) => PyData.int (i : Int) := by
    intro n
    unfold rangeD
    rw [Int.toNat_natCast]
    refine List.map_congr_left fun i _ => ?_
    rw [show (0 : Int) + (i : Int) = i by omega]
  refine q_asg st (ev_is (ev_lcT (List.range ms.length) (fun (i : Nat) => .int (i : Int)) (fun i => (ms ++ cs).getD i false) (fun (i : Nat) => .int (i : Int)) (fun i => _) ?_ (by rw [List.length_range]; omega) (fun i _ => eg_nameW (by decide)) (fun i hi => et_test (ev_op (ev_var rfl) (ev_var rfl) (rd_ixL (at_bools (by rw [List.length_append]; have := List.mem_range.mp hi; omega))))) (fun i _ _ => ev_var rfl)) (?_ : _ = PyData.list (whole_list (idx ms)))) fun v2 B2 H2 x2 d2 st => ?_
  · rw [← rng]
    exact ei_range1 (ea_cons (ev_var rfl) ea_nil) (by omega)
  · rw [idx_filter (bs := ms) rfl _ fun i hi => get_left hi]
  refine s_retP st (ev_make (ea_cons (ev_var rfl) (ea_cons (ev_var rfl) (ea_cons (ev_var rfl) (ea_cons (ev_is (ev_lcT (List.range cs.length) (fun (i : Nat) => .int (i : Int)) (fun i => (ms ++ cs).getD (ms.length + i) false) (fun (i : Nat) => .int (i : Int)) (fun i => _) ?_ (by rw [List.length_range]; omega) (fun i _ => eg_nameW (by decide)) (fun i hi => et_test (ev_op (ev_var rfl) (ev_is (ev_op (ev_var rfl) (ev_var rfl) rd_I0) (?_ : _ = PyData.int ((ms.length + i : Nat) : Int))) (rd_ixL (at_bools (by rw [List.length_append]; have := List.mem_range.mp hi; omega))))) (fun i _ _ => ev_var rfl)) (?_ : _ = PyData.list (whole_list (idx cs)))) ea_nil)))) (fun _ => .nil) rfl (right_idx h1 h2 h3)) fun u B3 H3 x3 w3 p3 => ?_
  · rw [← rng]
    exact ei_range1 (ea_cons (ev_var rfl) ea_nil) (by omega)
  · rw [Int.natCast_add]
  · rw [idx_filter (bs := cs) rfl _ fun i hi => get_right]
  · exact q u B3 H3 ((x1.trans x2).trans x3) w3 p3

end
end Toy
set_option Elab.async false
set_option linter.all false
set_option maxRecDepth 100000
set_option maxHeartbeats 4000000
namespace Toy
open PySem PySem.Spec PyProof.Rows L2 StX DL


/-- a property of the class that is read -/
structure PropP (P : Program) (w : World) (K : PySem.W.Frag) (mg : Str → Option Value) (base : Heap) (C : Addr) (f : Str) (sp : Sp) : Prop where
  ex : ∃ p g fd, PropOf K C f p g ∧ FnOk P w K mg base CX0 2 g fd ["self"] sp ∧ Binds K fd ["self"] []
  cls : Cls K C
theorem pe_prop0 {X : Cx} {C : Addr} {f : Str} {sp : Sp} {k : Nat} {e : Expr} {pos : Pos} {ta : TE} (Pp : PropP X.prog X.w X.K X.mg X.base C f sp) (hr : Room k X.A) (hk : 3 ≤ k) (he : PE X e ta) (hab : attributeBase e f X.env (eval e X.env) = eval e X.env) : PE X (.Attribute e f pos) (tProp C sp [] E0 ta) := by
  obtain ⟨p, g, fd, h1, h2, h3⟩ := Pp.ex
  exact pe_prop he Pp.cls h1 h2 (hr.mono hk) h3 .nil pass0 hab
/-- the rests of a set shifted by m -/
def turned (L : LS) (m : Int) : List Bool := (List.range L.period).map fun (r : Nat) => L.cycle.getD (((r : Int) - m) % (L.period : Int)).toNat false
def upOut (CN CT : Addr) (L : LS) (m : Int) : MkOut := if m < 0 then .exc CN "place" "shift" else if 5000 < (L.start : Int) + m then .exc CT "limit" "start" else .ok (lsOf ((idx L.marks).map (· + m)) ((L.start : Int) + m) L.period (idx (turned L m)))
def MkOkV (K : PySem.W.Frag) (B O : Hp) (CS : Addr) (Q : VK) (E : XK) : MkOut → Prop
  | .ok L => ∀ v B' H', Ex B B' → W B' O H' → IsLS K CS L B' v → Q v H'
  | .exc C f y => ∀ p B' H', Ex B B' → W B' O H' → B' p = some (.xd [(f, .str y)]) → E (.ref C) (some p) H'
def SpUp (K : PySem.W.Frag) (CN CT CS : Addr) : Sp := fun vs H Q E => ∃ (B O : Hp) (v : V) (L : LS) (m : Int), vs = [v, .int m] ∧ W B O H ∧ IsLS K CS L B v ∧ LOk L ∧ MkOkV K B O CS Q E (upOut CN CT L m)
section
variable {K : PySem.W.Frag} {B O : Hp} {G : List SD} {te ta tb : TE} {C : Addr} {L : LS} {fld : LS → List Bool} {E : XK} {σ : L2.St} {H : Hp} {D : Ends} {CN CT CS : Addr} {t : TA} {e s p r : PyData}
theorem el_prop {f : Str} (h : EvP K B O G te (IsLS K C L)) (ok : LOk L) : EvL K B O G (tProp C (SpIdx K C fld) [] E te) (whole_list (idx (fld L))) := fun B1 O1 σ H e o s Q q =>
  h B1 O1 σ H e o s _ fun v B2 H2 e2 w2 p => by
    obtain ⟨x, dx, fs, cv, mv, ev, hx, _⟩ := id p
    subst ev
    exact ⟨x, dx, fs, rfl, w2.b _ _ hx, B2, O1, .ref x, L, rfl, w2, p, ok, fun a ws B' H' e' n' w' d' => q a ws B' H' (e2.trans e') n' w' d'⟩
/-- return LengthSet(..), right or wrong -/
theorem s_retMk {o : MkOut} (st : Sta K B O G σ H) (h : EvA K B O G t [e, s, p, r]) (hm : Makes CN CT e s p r o) (q : MkOkV K B O CS D.rt E o) : tRet (tMake CS (SpInit K CN CT CS) [] E t) D σ H :=
  h B O σ H (Ex.refl _) (Ex.refl _) st _ fun vs B2 H2 e2 w2 d2 x dx hx hdx hne => by
    have hw := (w2.newO (u := .own x) hdx).newO (p := x) (u := .ins CS dx []) (by rw [upd_ne (fun z => hne z.symm)]; exact hx)
    refine ⟨B2, O, x, dx, vs, e, s, p, r, o, by rw [List.append_nil], w2.fo hx, w2.fo hdx, hne, hw, d2, hm, ?_⟩
    cases o with
    | ok L => exact fun B' H' e' w' hL => ⟨rfl, q (.ref x) B' H' (e2.trans e') w' hL⟩
    | exc C f y => exact fun pp B' H' e' w' hp => q pp B' H' (e2.trans e') w' hp
theorem size_big' {n lo : Int} {pl : Str} (h : lo ≤ n) (h2 : 5000 < n) : sizeOut CN CT (.int n) lo pl = .exc CT "limit" pl := by
  unfold sizeOut
  rw [if_pos (by simp [inFrom, under, h]), if_neg]
  show ¬ (decide (lo ≤ n) && decide (n ≤ 5000)) = true
  rw [decide_eq_false (show ¬ n ≤ 5000 by omega), Bool.and_false]
  exact Bool.false_ne_true
theorem rise_up {ns : List Int} {n m : Int} (h : Rise ns n) (hm : 0 ≤ m) : Rise (ns.map (· + m)) (n + m) := by
  refine ⟨?_, fun x hx => ?_⟩
  · rw [List.pairwise_map]
    exact h.1.imp fun {a b} hab => by omega
  · obtain ⟨y, hy, rfl⟩ := List.mem_map.mp hx
    have := h.2 y hy
    omega
theorem map_range_get {f : Nat → Bool} {n i : Nat} (h : i < n) : ((List.range n).map f).getD i false = f i := by
  rw [List.getD_eq_getElem?_getD, List.getElem?_map, List.getElem?_range h]
  rfl
theorem turned_len {m : Int} : (turned L m).length = L.period := by
  unfold turned
  rw [List.length_map, List.length_range]
end

section
variable {P : Program} {w : World} {K : PySem.W.Frag} {mg : Str → Option Value} {base : Heap}


theorem ok_raised {f CN CT CS t0 t1 : Addr} {fd : FuncData} (T : Txt K mg) (S : SetC K mg CS) (Er_NoSet : ErrC P w K mg base "NoSet" CN "place") (M : MkS P w K mg base CN CT CS t0 t1) (Pe : PropP P w K mg base CS "early" (SpIdx K CS (·.marks)))
    (a : At K mg "raised" s_raised ["lengths", "many"] f fd) : FnOk P w K mg base (L2.CX P w) 10 f fd ["lengths", "many"] (SpUp K CN CT CS) := by
  obtain ⟨⟨fI, fdI, Mk_, Fi, B4, ⟨d0, V0, B0⟩, ⟨d2, V2, B2⟩, gk, Bk⟩, E0_, E1_⟩ := M
  refine a.fn.okX sc_raised (fun vs H Q E h => ?_) (fun cdv A outer s0 H vs Q E hr h => ?_)
  · obtain ⟨B, O, v, L, m, rfl, _⟩ := h
    rfl
  obtain ⟨B, O, v, L, m, rfl, hw, hL, ok, q⟩ := h
  refine ⟨_, (pss_cons (ps_if (pt_cmpR op_lt (pv 1) pe_int (nomark _)) (pss_one (ps_raiseE rfl Er_NoSet hr (by omega) (takes_of rfl rfl rfl rfl) pe_str (by rfl))) pss_nil)
    (pss_cons (ps_setLc (i := 2) (own := [("number", 4)]) (by rfl) sc_raised.nd rfl rfl (sw_true rfl rfl rfl (by decide +kernel)) (pi_listK K (pe_prop0 Pe hr (by omega) (pv 0) rfl)) (blkOk_by (own := [("number", 4)]) (N := N_sc_raised) (sc := defScope s_raised) (by decide +kernel)) (fun _ _ _ _ _ => (pg_name (i := 4) sc_raised.nd rfl (Or.inl rfl))) (fun _ _ _ _ _ => pts_nil) (fun _ _ _ _ _ => (pe_op op_add (pv 4) (pv 1))))
    (pss_cons (ps_setLc (i := 3) (own := [("rest", 5)]) (by rfl) sc_raised.nd rfl rfl (sw_true rfl rfl rfl (by decide +kernel)) (pi_range1 (by rfl) T.b_range (pa_cons (pe_fldK K (pv 0) rfl) pa_nil)) (blkOk_by (own := [("rest", 5)]) (N := N_sc_raised) (sc := defScope s_raised) (by decide +kernel)) (fun _ _ _ _ _ => (pg_name (i := 5) sc_raised.nd rfl (Or.inl rfl))) (fun _ _ _ _ _ => (pts_one (pt_val (pe_ix (ix_tupK K) (pe_fldK K (pv 0) rfl) (pe_op op_mod (pe_op op_sub (pv 5) (pv 1)) (pe_fldK K (pv 0) rfl)) (fun _ _ => rfl))))) (fun _ _ _ _ _ => (pv 5)))
    (pss_one (ps_ret (pe_make Mk_ Fi (hr.mono (by omega)) (by rfl) S.g B4 .nil (passes_call (takes_of rfl rfl rfl rfl) fun _ _ _ _ h => h) (pa_cons (pv 2) (pa_cons (pe_op op_add (pe_fldK K (pv 0) rfl) (pv 1)) (pa_cons (pe_fldK K (pv 0) rfl) (pa_cons (pv 3) pa_nil)))))))))), ?_⟩
  have st : Sta K B O [.val v, .dat (.int m), .un, .un, .un, .un] (L2.start N_sc_raised [v, .int m]) H := ⟨hw, ⟨rfl, ⟨_, rfl, .int _⟩, trivial, trivial, trivial, trivial, trivial⟩⟩
  have hper := ok.p
  have hst := ok.s
  unfold upOut at q
  refine q_when st (et_test (ev_op (ev_var rfl) ev_int rd_B0)) (fun h1 B1 H1 x1 st => ?_) (fun h1 B1 H1 x1 st => ?_)
  · rw [if_pos (by simpa using h1)] at q
    exact s_raise st ev_str fun pp B2 H2 x2 w2 hp => q pp B2 H2 (x1.trans x2) w2 hp
  have h1' : 0 ≤ m := by simpa using h1
  rw [if_neg (by omega)] at q
  have hL1 := hL.ex x1
  refine q_asg st (ev_is (ev_map (idx L.marks) (fun i => .int i) (fun i => .int (i + m)) (fun i => _) (ei_list (el_prop (f := "early") (ev_ls rfl hL1) ok).d) (Nat.le_trans idx_len (by rw [ok.m]; omega)) (fun i _ => eg_nameW (by decide)) (fun i _ => ev_op (ev_var rfl) (ev_var rfl) rd_I0)) (?_ : _ = PyData.list (whole_list ((idx L.marks).map (· + m))))) fun v2 B2 H2 x2 d2 st => ?_
  · unfold whole_list
    rw [List.map_map]
    rfl
  have hL2 := hL1.ex x2
  have rng : rangeD 0 ((L.period : Int)).toNat = (List.range L.period).map fun (i : Nat) => PyData.int (i : Int) := by
    unfold rangeD
    rw [Int.toNat_natCast]
    refine List.map_congr_left fun i _ => ?_
    rw [show (0 : Int) + (i : Int) = i by omega]
  refine q_asg st (ev_is (ev_lcT (List.range L.period) (fun (i : Nat) => .int (i : Int)) (fun i => L.cycle.getD (((i : Int) - m) % (L.period : Int)).toNat false) (fun (i : Nat) => .int (i : Int)) (fun i => _) ?_ (by rw [List.length_range]; omega) (fun i _ => eg_nameW (by decide)) (fun i hi => et_test (ev_op (f_cycle S (ev_ls rfl hL2)) (ev_is (ev_op (ev_op (ev_var rfl) (ev_var rfl) rd_I0) (f_period S (ev_ls rfl hL2)) (rd_I (by omega))) (?_ : _ = PyData.int (((((i : Int) - m) % (L.period : Int)).toNat : Nat) : Int))) (rd_ixT (at_bools ?_)))) (fun i _ _ => ev_var rfl)) (?_ : _ = PyData.list (whole_list (idx (turned L m))))) fun v3 B3 H3 x3 d3 st => ?_
  · rw [← rng]
    exact ei_range1 (ea_cons (f_period S (ev_ls rfl hL2)) ea_nil) (by omega)
  · congr 1
    have := Int.emod_nonneg ((i : Int) - m) (show (L.period : Int) ≠ 0 by omega)
    omega
  · rw [ok.c]
    have := Int.emod_lt_of_pos ((i : Int) - m) (show (0 : Int) < (L.period : Int) by omega)
    have := Int.emod_nonneg ((i : Int) - m) (show (L.period : Int) ≠ 0 by omega)
    omega
  · rw [idx_filter (bs := turned L m) turned_len _ fun i hi => ?_]
    exact (map_range_get (f := fun (r : Nat) => L.cycle.getD (((r : Int) - m) % (L.period : Int)).toNat false) hi).symm
  have hL3 := hL2.ex x3
  refine s_retMk (CN := CN) (CT := CT) (o := if 5000 < (L.start : Int) + m then .exc CT "limit" "start" else .ok (lsOf ((idx L.marks).map (· + m)) ((L.start : Int) + m) L.period (idx (turned L m)))) st (ea_cons (ev_var rfl) (ea_cons (ev_op (f_start S (ev_ls rfl hL3)) (ev_var rfl) rd_I0) (ea_cons (f_period S (ev_ls rfl hL3)) (ea_cons (ev_var rfl) ea_nil)))) ?_ ?_
  · split
    · rename_i hb
      exact .exc (by unfold mkErr; rw [size_big' (by omega) hb])
    · rename_i hb
      have l1 := idx_len (bs := L.marks)
      have l2 := idx_len (bs := turned L m)
      rw [turned_len] at l2
      have r1 := rise_up (rise_idx (bs := L.marks)) h1'
      rw [ok.m] at r1
      have r2 := rise_idx (bs := turned L m)
      rw [turned_len] at r2
      exact .ok ⟨⟨rfl, by omega, by omega⟩, ⟨rfl, by omega, by omega⟩, ⟨.inl rfl, rise_row r1, by rw [List.length_map, ]; have := ok.m; omega⟩, ⟨.inl rfl, rise_row r2, by omega⟩⟩
  · have xx := (x1.trans x2).trans x3
    split
    · rename_i hb
      rw [if_pos hb] at q
      exact fun pp B' H' e' w' hp => q pp B' H' (xx.trans e') w' hp
    · rename_i hb
      rw [if_neg hb] at q
      exact fun u B' H' e' w' hp => q u B' H' (xx.trans e') w' hp

end
end Toy
set_option Elab.async false
set_option linter.all false
set_option maxRecDepth 100000
set_option maxHeartbeats 4000000
namespace Toy
open PySem PySem.Spec PyProof.Rows L2 StX DL


/-- in, == and != of the class -/
structure OpsS (P : Program) (w : World) (K : PySem.W.Frag) (mg : Str → Option Value) (base : Heap) (C : Addr) : Prop where
  i : ∃ f fd, PySem.W.findIn K (.ref C) "__contains__" = some (some (.ref f)) ∧ PySem.W.isFn K (.ref f) = true ∧ FnOk P w K mg base CX0 6 f fd ["self", "x"] (SpHas K C) ∧ Binds K fd ["self", "x"] []
  e : ∃ f fd, PySem.W.findIn K (.ref C) "__eq__" = some (some (.ref f)) ∧ PySem.W.isFn K (.ref f) = true ∧ FnOk P w K mg base CX0 2 f fd ["self", "other"] (SpEqL K C) ∧ Binds K fd ["self", "other"] []
  n : PySem.W.findIn K (.ref C) "__ne__" = some (some (.builtin "object.__ne__"))
  m : PySem.W.mroIn K C (.type "object") = some true
def downs (L : LS) (m : Int) : List Bool := (List.range ((L.start : Int) - m).toNat).map fun (i : Nat) => hasL L (.int ((i : Int) + m))
def dnOut (CN : Addr) (L : LS) (m : Int) : MkOut := if m < 0 then .exc CN "place" "shift" else .ok (lsOf (idx (downs L m)) (((L.start : Int) - m).toNat : Int) L.period (idx (turned L (-m))))
def SpDown (K : PySem.W.Frag) (CN CS : Addr) : Sp := fun vs H Q E => ∃ (B O : Hp) (v : V) (L : LS) (m : Int), vs = [v, .int m] ∧ W B O H ∧ IsLS K CS L B v ∧ LOk L ∧ MkOkV K B O CS Q E (dnOut CN L m)
section
variable {K : PySem.W.Frag} {B O : Hp} {G : List SD} {ta tb : TE} {C : Addr} {L : LS} {d : PyData} {E : XK}
theorem ev_in (h : EvD K B O G ta d) (hs : EvP K B O G tb (IsLS K C L)) (ok : LOk L) : EvD K B O G (tOp (rInOwn C (SpHas K C) E) ta tb) (.bool (hasL L d)) := fun B1 O1 σ H e o s Q q =>
  h B1 O1 σ H e o s _ fun u B2 H2 e2 w2 d2 => hs B2 O1 σ H2 (e.trans e2) o (s.ex e2 w2) _ fun v B3 H3 e3 w3 p => by
    obtain ⟨x, dx, fs, cv, mv, ev, hx, _⟩ := id p
    subst ev
    exact ⟨x, dx, fs, rfl, w3.b _ _ hx, B3, O1, .ref x, u, L, d, rfl, w3, p, ok, dp_ex e3 _ _ d2, fun B' H' e' w' => ⟨hasL L d, rfl, q _ B' H' ((e2.trans e3).trans e') w' (.bl _)⟩⟩
theorem downs_len {m : Int} : (downs L m).length = ((L.start : Int) - m).toNat := by
  unfold downs
  rw [List.length_map, List.length_range]
end

section
variable {P : Program} {w : World} {K : PySem.W.Frag} {mg : Str → Option Value} {base : Heap}


theorem ok_lowered {f CN CT CS t0 t1 : Addr} {fd : FuncData} (T : Txt K mg) (S : SetC K mg CS) (Er_NoSet : ErrC P w K mg base "NoSet" CN "place") (M : MkS P w K mg base CN CT CS t0 t1) (Os : OpsS P w K mg base CS)
    (a : At K mg "lowered" s_lowered ["lengths", "many"] f fd) : FnOk P w K mg base (L2.CX P w) 10 f fd ["lengths", "many"] (SpDown K CN CS) := by
  obtain ⟨⟨fI, fdI, Mk_, Fi, B4, ⟨d0, V0, B0⟩, ⟨d2, V2, B2⟩, gk, Bk⟩, E0_, E1_⟩ := M
  obtain ⟨⟨fi, fdi, hin, hinf, Fin, Bin⟩, _, _, _⟩ := Os
  refine a.fn.okX sc_lowered (fun vs H Q E h => ?_) (fun cdv A outer s0 H vs Q E hr h => ?_)
  · obtain ⟨B, O, v, L, m, rfl, _⟩ := h
    rfl
  obtain ⟨B, O, v, L, m, rfl, hw, hL, ok, q⟩ := h
  refine ⟨_, (pss_cons (ps_if (pt_cmpR op_lt (pv 1) pe_int (nomark _)) (pss_one (ps_raiseE rfl Er_NoSet hr (by omega) (takes_of rfl rfl rfl rfl) pe_str (by rfl))) pss_nil)
    (pss_cons (ps_set (i := 2) sc_lowered.nd rfl (Or.inl rfl) (pe_ifExp (pt_cmpR op_lt (pv 1) (pe_fldK K (pv 0) rfl) (nomark _)) (pe_op op_sub (pe_fldK K (pv 0) rfl) (pv 1)) pe_int))
    (pss_cons (ps_setLc (i := 3) (own := [("number", 5)]) (by rfl) sc_lowered.nd rfl rfl (sw_true rfl rfl rfl (by decide +kernel)) (pi_range1 (by rfl) T.b_range (pa_cons (pv 2) pa_nil)) (blkOk_by (own := [("number", 5)]) (N := N_sc_lowered) (sc := defScope s_lowered) (by decide +kernel)) (fun _ _ _ _ _ => (pg_name (i := 5) sc_lowered.nd rfl (Or.inl rfl))) (fun _ _ _ _ _ => (pts_one (pt_cmpR (op_inOwn Fin Bin pass0 (Room.mono hr (by omega)) hin hinf) (pe_op op_add (pv 5) (pv 1)) (pv 0) (by rfl)))) (fun _ _ _ _ _ => (pv 5)))
    (pss_cons (ps_setLc (i := 4) (own := [("rest", 6)]) (by rfl) sc_lowered.nd rfl rfl (sw_true rfl rfl rfl (by decide +kernel)) (pi_range1 (by rfl) T.b_range (pa_cons (pe_fldK K (pv 0) rfl) pa_nil)) (blkOk_by (own := [("rest", 6)]) (N := N_sc_lowered) (sc := defScope s_lowered) (by decide +kernel)) (fun _ _ _ _ _ => (pg_name (i := 6) sc_lowered.nd rfl (Or.inl rfl))) (fun _ _ _ _ _ => (pts_one (pt_val (pe_ix (ix_tupK K) (pe_fldK K (pv 0) rfl) (pe_op op_mod (pe_op op_add (pv 6) (pv 1)) (pe_fldK K (pv 0) rfl)) (fun _ _ => rfl))))) (fun _ _ _ _ _ => (pv 6)))
    (pss_one (ps_ret (pe_make Mk_ Fi (hr.mono (by omega)) (by rfl) S.g B4 .nil (passes_call (takes_of rfl rfl rfl rfl) fun _ _ _ _ h => h) (pa_cons (pv 3) (pa_cons (pv 2) (pa_cons (pe_fldK K (pv 0) rfl) (pa_cons (pv 4) pa_nil))))))))))), ?_⟩
  have st : Sta K B O [.val v, .dat (.int m), .un, .un, .un, .un, .un] (L2.start N_sc_lowered [v, .int m]) H := ⟨hw, ⟨rfl, ⟨_, rfl, .int _⟩, trivial, trivial, trivial, trivial, trivial, trivial⟩⟩
  have hper := ok.p
  have hst := ok.s
  unfold dnOut at q
  refine q_when st (et_test (ev_op (ev_var rfl) ev_int rd_B0)) (fun h1 B1 H1 x1 st => ?_) (fun h1 B1 H1 x1 st => ?_)
  · rw [if_pos (by simpa using h1)] at q
    exact s_raise st ev_str fun pp B2 H2 x2 w2 hp => q pp B2 H2 (x1.trans x2) w2 hp
  have h1' : 0 ≤ m := by simpa using h1
  rw [if_neg (by omega)] at q
  have hL1 := hL.ex x1
  refine q_asg st (ev_if (b := decide (m < (L.start : Int))) (d := .int ((((L.start : Int) - m).toNat : Nat) : Int)) (et_test (ev_op (ev_var rfl) (f_start S (ev_ls rfl hL1)) rd_B0)) (fun hb => ev_is (ev_op (f_start S (ev_ls rfl hL1)) (ev_var rfl) rd_I0) ?_) (fun hb => ev_is ev_int ?_)) fun v2 B2 H2 x2 d2 st => ?_
  · have := of_decide_eq_true hb
    congr 1
    omega
  · have := of_decide_eq_false hb
    congr 1
    omega
  have hL2 := hL1.ex x2
  have rng : ∀ {n : Nat}, rangeD 0 ((n : Int)).toNat = (List.range n).map fun (i : Nat) => PyData.int (i : Int) := by
    intro n
    unfold rangeD
    rw [Int.toNat_natCast]
    refine List.map_congr_left fun i _ => ?_
    rw [show (0 : Int) + (i : Int) = i by omega]
  refine q_asg st (ev_is (ev_lcT (List.range ((L.start : Int) - m).toNat) (fun (i : Nat) => .int (i : Int)) (fun (i : Nat) => hasL L (.int ((i : Int) + m))) (fun (i : Nat) => .int (i : Int)) (fun i => _) ?_ (by rw [List.length_range]; omega) (fun i _ => eg_nameW (by decide)) (fun i hi => et_test (ev_in (ev_op (ev_var rfl) (ev_var rfl) rd_I0) (ev_ls rfl hL2) ok)) (fun i _ _ => ev_var rfl)) (?_ : _ = PyData.list (whole_list (idx (downs L m))))) fun v3 B3 H3 x3 d3 st => ?_
  · rw [← rng]
    exact ei_range1 (ea_cons (ev_var rfl) ea_nil) (by omega)
  · rw [idx_filter (bs := downs L m) downs_len _ fun i hi => ?_]
    exact (map_range_get (f := fun (i : Nat) => hasL L (.int ((i : Int) + m))) hi).symm
  have hL3 := hL2.ex x3
  refine q_asg st (ev_is (ev_lcT (List.range L.period) (fun (i : Nat) => .int (i : Int)) (fun i => L.cycle.getD (((i : Int) - -m) % (L.period : Int)).toNat false) (fun (i : Nat) => .int (i : Int)) (fun i => _) ?_ (by rw [List.length_range]; omega) (fun i _ => eg_nameW (by decide)) (fun i hi => et_test (ev_op (f_cycle S (ev_ls rfl hL3)) (ev_is (ev_op (ev_op (ev_var rfl) (ev_var rfl) rd_I0) (f_period S (ev_ls rfl hL3)) (rd_I (by omega))) (?_ : _ = PyData.int (((((i : Int) - -m) % (L.period : Int)).toNat : Nat) : Int))) (rd_ixT (at_bools ?_)))) (fun i _ _ => ev_var rfl)) (?_ : _ = PyData.list (whole_list (idx (turned L (-m)))))) fun v4 B4' H4 x4 d4 st => ?_
  · rw [← rng]
    exact ei_range1 (ea_cons (f_period S (ev_ls rfl hL3)) ea_nil) (by omega)
  · congr 1
    rw [show (i : Int) - -m = (i : Int) + m by omega]
    have := Int.emod_nonneg ((i : Int) + m) (show (L.period : Int) ≠ 0 by omega)
    omega
  · rw [ok.c]
    have := Int.emod_lt_of_pos ((i : Int) - -m) (show (0 : Int) < (L.period : Int) by omega)
    have := Int.emod_nonneg ((i : Int) - -m) (show (L.period : Int) ≠ 0 by omega)
    omega
  · rw [idx_filter (bs := turned L (-m)) turned_len _ fun i hi => ?_]
    exact (map_range_get (f := fun (r : Nat) => L.cycle.getD (((r : Int) - -m) % (L.period : Int)).toNat false) hi).symm
  have hL4 := hL3.ex x4
  refine s_retMk (CN := CN) (CT := CT) st (ea_cons (ev_var rfl) (ea_cons (ev_var rfl) (ea_cons (f_period S (ev_ls rfl hL4)) (ea_cons (ev_var rfl) ea_nil)))) (.ok (es := idx (downs L m)) (n := ((((L.start : Int) - m).toNat : Nat) : Int)) (k := (L.period : Int)) (rs := idx (turned L (-m))) ?_) ?_
  · have l1 := idx_len (bs := downs L m)
    have l2 := idx_len (bs := turned L (-m))
    have r1 := rise_idx (bs := downs L m)
    have r2 := rise_idx (bs := turned L (-m))
    rw [downs_len] at l1 r1
    rw [turned_len] at l2 r2
    exact ⟨⟨rfl, by omega, by omega⟩, ⟨rfl, by omega, by omega⟩, ⟨.inl rfl, rise_row r1, by omega⟩, ⟨.inl rfl, rise_row r2, by omega⟩⟩
  · have xx := ((x1.trans x2).trans x3).trans x4
    exact fun u B' H' e' w' hp => q u B' H' (xx.trans e') w' hp

end
end Toy
set_option Elab.async false
set_option linter.all false
set_option maxRecDepth 100000
set_option maxHeartbeats 4000000
namespace Toy
open PySem PySem.Spec PyProof.Rows L2 StX DL
/-- the set that such fields make -/
def Fld.ls (F : Fld) : LS := lsOf F.early F.first F.rhythm F.tails
theorem right_of {F : Fld} (h : F.Ok) (e r : PyData) (he : seqInts e F.early) (hr : seqInts r F.tails) : Right e (.int F.first) (.int F.rhythm) r F.early F.first F.rhythm F.tails := by
  refine ⟨⟨rfl, h.f0.1, by have := h.f0.2; omega⟩, ⟨rfl, h.r0.1, by have := h.r0.2; omega⟩, ⟨he, ?_, by have := h.le; omega⟩, ⟨hr, ?_, by have := h.lt; omega⟩⟩
  · rcases he with rfl | rfl <;> exact rise_row h.e
  · rcases hr with rfl | rfl <;> exact rise_row h.t
/-- membership by marks and cycle -/
def hasN (ms cs : List Bool) (n : Nat) : Bool := if n < ms.length then ms.getD n false else cs.getD (n % cs.length) false
theorem rep_get {xs : List Bool} : ∀ {k i : Nat}, i < k * xs.length → (List.replicate k xs).flatten.getD i false = xs.getD (i % xs.length) false
  | 0, i, h => by rw [Nat.zero_mul] at h; exact absurd h (Nat.not_lt_zero _)
  | k + 1, i, h => by
    rw [List.replicate_succ, List.flatten_cons]
    by_cases hi : i < xs.length
    · rw [List.getD_eq_getElem?_getD, List.getElem?_append_left hi, ← List.getD_eq_getElem?_getD, Nat.mod_eq_of_lt hi]
    · have hi' : xs.length ≤ i := by omega
      rw [List.getD_eq_getElem?_getD, List.getElem?_append_right hi', ← List.getD_eq_getElem?_getD, rep_get (k := k) (i := i - xs.length) (by rw [Nat.succ_mul] at h; omega)]
      rw [← Nat.mod_eq_sub_mod hi']
theorem leastP_per {cs : List Bool} (h : 1 ≤ cs.length) : leastP cs ∣ cs.length ∧ ∀ i, i < cs.length → cs.getD i false = (cs.take (leastP cs)).getD (i % leastP cs) false := by
  have hb := leastP_le h
  unfold leastP at hb ⊢
  cases hf : ((List.range (cs.length - 1)).map (· + 1)).find? (isPer cs) with
  | none =>
    refine ⟨Nat.dvd_refl _, fun i hi => ?_⟩
    simp only [Option.getD_none]
    rw [List.take_length, Nat.mod_eq_of_lt hi]
  | some p =>
    have hp := List.find?_some hf
    have hm := List.mem_of_find?_eq_some hf
    obtain ⟨j, hj, ej⟩ := List.mem_map.mp hm
    have hj' := List.mem_range.mp hj
    unfold isPer at hp
    rw [Bool.and_eq_true, beq_iff_eq, decide_eq_true_eq] at hp
    simp only [Option.getD_some]
    have hd : p ∣ cs.length := Nat.dvd_of_mod_eq_zero hp.1
    refine ⟨hd, fun i hi => ?_⟩
    have hl : (cs.take p).length = p := by rw [List.length_take]; omega
    have e := congrArg (fun l => l.getD i false) hp.2
    have hk : i < cs.length / p * (cs.take p).length := by rw [hl, Nat.div_mul_cancel hd]; exact hi
    have e2 := rep_get (xs := cs.take p) (k := cs.length / p) hk
    rw [hl] at e2
    exact e.trans e2
theorem cycle_same {cs : List Bool} (h : 1 ≤ cs.length) (n : Nat) : (cs.take (leastP cs)).getD (n % (cs.take (leastP cs)).length) false = cs.getD (n % cs.length) false := by
  obtain ⟨hd, hg⟩ := leastP_per h
  have hb := leastP_le h
  have hl : (cs.take (leastP cs)).length = leastP cs := by rw [List.length_take]; omega
  rw [hl, hg _ (Nat.mod_lt _ (by omega)), Nat.mod_mod_of_dvd _ hd]
theorem start_same {ms cs : List Bool} : ∀ {s : Nat} (m : Nat), leastS ms cs s ≤ m → m < s → ms.getD m false = cs.getD (m % cs.length) false
  | 0, m, _, h => absurd h (Nat.not_lt_zero _)
  | s + 1, m, h1, h2 => by
    rw [leastS] at h1
    split at h1
    · rename_i he
      by_cases e : m = s
      · subst e
        exact eq_of_beq he
      · exact start_same m h1 (by omega)
    · omega
theorem start_last {ms cs : List Bool} : ∀ {s : Nat}, leastS ms cs s = 0 ∨ ms.getD (leastS ms cs s - 1) false ≠ cs.getD ((leastS ms cs s - 1) % cs.length) false
  | 0 => .inl rfl
  | s + 1 => by
    rw [leastS]
    split
    · exact start_last
    · rename_i he
      refine .inr ?_
      rw [Nat.add_sub_cancel]
      exact fun z => he (by rw [z]; simp)
theorem take_get {bs : List Bool} {k n : Nat} (h : n < k) : (bs.take k).getD n false = bs.getD n false := by
  rw [List.getD_eq_getElem?_getD, List.getD_eq_getElem?_getD, List.getElem?_take, if_pos h]
theorem kept_same {ms cs : List Bool} (n : Nat) : hasN (ms.take (leastS ms cs ms.length)) cs n = hasN ms cs n := by
  have hs := leastS_le (ms := ms) (cs := cs) ms.length
  have hl : (ms.take (leastS ms cs ms.length)).length = leastS ms cs ms.length := by rw [List.length_take]; omega
  unfold hasN
  rw [hl]
  by_cases h1 : n < leastS ms cs ms.length
  · rw [if_pos h1, if_pos (by omega), take_get h1]
  · rw [if_neg h1]
    by_cases h2 : n < ms.length
    · rw [if_pos h2, start_same (ms := ms) (cs := cs) (s := ms.length) n (by omega) h2]
    · rw [if_neg h2]
theorem marks_get {es : List Int} {m : Int} {i : Nat} (h : i < m.toNat) : (marksOf es m).getD i false = es.contains (i : Int) := by
  unfold marksOf
  rw [List.getD_eq_getElem?_getD, List.getElem?_map, List.getElem?_range h]
  rfl
theorem fld_has {F : Fld} (h : F.Ok) (n : Nat) : F.has n = hasN (marksOf F.early F.first) (marksOf F.tails F.rhythm) n := by
  have h1 := h.f0
  have h2 := h.r0
  have l1 : (marksOf F.early F.first).length = F.first.toNat := marks_len
  have l2 : (marksOf F.tails F.rhythm).length = F.rhythm.toNat := marks_len
  unfold Fld.has hasN
  rw [l1, l2]
  by_cases hn : (n : Int) < F.first
  · rw [if_pos hn, if_pos (by omega), marks_get (by omega)]
  · have hm : n % F.rhythm.toNat < F.rhythm.toNat := Nat.mod_lt _ (by omega)
    rw [if_neg hn, if_neg (by omega), marks_get hm]
    have e : ((n % F.rhythm.toNat : Nat) : Int) = (n : Int) % F.rhythm := by
      rw [Int.natCast_emod, Int.toNat_of_nonneg (by omega)]
    rw [e]
theorem ls_ok {F : Fld} (h : F.Ok) : LOk F.ls := by
  have h1 := h.f0
  have h2 := h.r0
  have l1 : (marksOf F.early F.first).length = F.first.toNat := marks_len
  have l2 : (marksOf F.tails F.rhythm).length = F.rhythm.toNat := marks_len
  have hb := leastP_le (bs := marksOf F.tails F.rhythm) (by omega)
  have hs := leastS_le (ms := marksOf F.early F.first) (cs := (marksOf F.tails F.rhythm).take (leastP (marksOf F.tails F.rhythm))) (marksOf F.early F.first).length
  refine ⟨?_, ⟨hb.1, ?_⟩, ?_, ?_⟩
  · show ((marksOf F.tails F.rhythm).take (leastP (marksOf F.tails F.rhythm))).length = leastP (marksOf F.tails F.rhythm)
    rw [List.length_take]
    omega
  · show leastP (marksOf F.tails F.rhythm) ≤ 5000
    omega
  · show ((marksOf F.early F.first).take _).length = _
    rw [List.length_take]
    exact Nat.min_eq_left hs
  · show leastS _ _ (marksOf F.early F.first).length ≤ 5000
    omega
/-- what is kept has the same members -/
theorem ls_has {F : Fld} (h : F.Ok) (n : Nat) : hasN F.ls.marks F.ls.cycle n = F.has n := by
  have h2 := h.r0
  have l2 : (marksOf F.tails F.rhythm).length = F.rhythm.toNat := marks_len
  rw [fld_has h]
  show hasN ((marksOf F.early F.first).take (leastS (marksOf F.early F.first) ((marksOf F.tails F.rhythm).take (leastP (marksOf F.tails F.rhythm))) (marksOf F.early F.first).length)) ((marksOf F.tails F.rhythm).take (leastP (marksOf F.tails F.rhythm))) n = _
  rw [kept_same]
  unfold hasN
  rw [cycle_same (by omega)]
theorem hasL_nat {L : LS} (ok : LOk L) (n : Nat) : hasL L (.int (n : Int)) = hasN L.marks L.cycle n := by
  show (if (n : Int) < 0 then false else if (n : Int) < L.start then L.marks.getD ((n : Int)).toNat false else L.cycle.getD (((n : Int)).toNat % L.period) false) = _
  rw [if_neg (by omega)]
  unfold hasN
  rw [ok.m, ok.c, Int.toNat_natCast]
  by_cases h : n < L.start
  · rw [if_pos h, if_pos (by omega)]
  · rw [if_neg h, if_neg (by omega)]
theorem idx_mem {bs : List Bool} {i : Nat} (h : i < bs.length) : (idx bs).contains (i : Int) = bs.getD i false := by
  rw [Bool.eq_iff_iff, List.contains_iff_mem]
  unfold idx
  rw [List.mem_map]
  constructor
  · rintro ⟨j, hj, e⟩
    have ej : j = i := by omega
    subst ej
    simpa using (List.mem_filter.mp hj).2
  · intro hb
    exact ⟨i, List.mem_filter.mpr ⟨List.mem_range.mpr h, hb⟩, rfl⟩

/-- a set in its shortest form -/
structure Nrm (L : LS) : Prop where
  ok : LOk L
  per : ∀ q, 1 ≤ q → q < L.period → q ∣ L.period → ∃ i, i < L.period ∧ L.cycle.getD i false ≠ L.cycle.getD (i % q) false
  st : L.start = 0 ∨ L.marks.getD (L.start - 1) false ≠ L.cycle.getD ((L.start - 1) % L.cycle.length) false
theorem getD_ext {a b : List Bool} (hl : a.length = b.length) (h : ∀ i, i < a.length → a.getD i false = b.getD i false) : a = b := by
  apply List.ext_getElem hl
  intro i h1 h2
  have := h i h1
  rw [List.getD_eq_getElem?_getD, List.getD_eq_getElem?_getD, List.getElem?_eq_getElem h1, List.getElem?_eq_getElem h2] at this
  exact this
theorem isPer_of {cs : List Bool} {q : Nat} (hd : q ∣ cs.length) (h1 : 1 ≤ q) (hl : 1 ≤ cs.length) (h : ∀ i, i < cs.length → cs.getD i false = cs.getD (i % q) false) : isPer cs q = true := by
  unfold isPer
  rw [Bool.and_eq_true, beq_iff_eq, decide_eq_true_eq]
  have hq : q ≤ cs.length := Nat.le_of_dvd (by omega) hd
  have ht : (cs.take q).length = q := by rw [List.length_take]; omega
  refine ⟨Nat.mod_eq_zero_of_dvd hd, ?_⟩
  have hlen : ((List.replicate (cs.length / q) (cs.take q)).flatten).length = cs.length := by
    rw [list_rep, ht, Nat.mul_comm, Nat.div_mul_cancel hd]
  refine getD_ext hlen.symm fun i hi => ?_
  rw [rep_get (by rw [ht, Nat.div_mul_cancel hd]; exact hi), ht, take_get (Nat.mod_lt _ h1)]
  exact h i hi
theorem leastP_min {cs : List Bool} {q : Nat} (h1 : 1 ≤ q) (h2 : q < leastP cs) (hl : 1 ≤ cs.length) : isPer cs q = false := by
  have hb := leastP_le hl
  cases hq : isPer cs q with
  | false => rfl
  | true =>
    exfalso
    unfold leastP at h2 hb
    cases hf : ((List.range (cs.length - 1)).map (· + 1)).find? (isPer cs) with
    | none =>
      have := List.find?_eq_none.mp hf q (List.mem_map.mpr ⟨q - 1, List.mem_range.mpr (by rw [hf] at h2; simp only [Option.getD_none] at h2; omega), by omega⟩)
      exact this hq
    | some p =>
      rw [hf] at h2 hb
      simp only [Option.getD_some] at h2 hb
      rw [List.find?_eq_some_iff_getElem] at hf
      obtain ⟨_, i, hi, ei, hmin⟩ := hf
      have hi' : i < cs.length - 1 := by simpa using hi
      have ei' : i + 1 = p := by simpa using ei
      have := hmin (q - 1) (by omega)
      simp at this
      rw [show q - 1 + 1 = q by omega, hq] at this
      cases this
theorem nrm_of {es rs : List Int} {n k : Int} (n0 : 0 ≤ n) (n1 : n ≤ 5000) (k0 : 1 ≤ k) (k1 : k ≤ 5000) : Nrm (lsOf es n k rs) ∧ (lsOf es n k rs).start ≤ n.toNat ∧ (lsOf es n k rs).period ≤ k.toNat ∧ (lsOf es n k rs).period ∣ k.toNat ∧ ∀ m, hasN (lsOf es n k rs).marks (lsOf es n k rs).cycle m = hasN (marksOf es n) (marksOf rs k) m := by
  have l1 : (marksOf es n).length = n.toNat := marks_len
  have l2 : (marksOf rs k).length = k.toNat := marks_len
  have hb := leastP_le (bs := marksOf rs k) (by omega)
  have hd := leastP_per (cs := marksOf rs k) (by omega)
  have hs := leastS_le (ms := marksOf es n) (cs := (marksOf rs k).take (leastP (marksOf rs k))) (marksOf es n).length
  have hcl : ((marksOf rs k).take (leastP (marksOf rs k))).length = leastP (marksOf rs k) := by rw [List.length_take]; omega
  have hml : ((marksOf es n).take (leastS (marksOf es n) ((marksOf rs k).take (leastP (marksOf rs k))) (marksOf es n).length)).length = leastS (marksOf es n) ((marksOf rs k).take (leastP (marksOf rs k))) (marksOf es n).length := by rw [List.length_take]; exact Nat.min_eq_left hs
  have e1 : (lsOf es n k rs).period = leastP (marksOf rs k) := rfl
  have e2 : (lsOf es n k rs).start = leastS (marksOf es n) ((marksOf rs k).take (leastP (marksOf rs k))) (marksOf es n).length := rfl
  have e3 : (lsOf es n k rs).cycle = (marksOf rs k).take (leastP (marksOf rs k)) := rfl
  have e4 : (lsOf es n k rs).marks = (marksOf es n).take (leastS (marksOf es n) ((marksOf rs k).take (leastP (marksOf rs k))) (marksOf es n).length) := rfl
  refine ⟨⟨⟨by rw [e3, e1, hcl], ⟨by rw [e1]; exact hb.1, by rw [e1]; omega⟩, by rw [e4, e2, hml], by rw [e2]; omega⟩, fun q q1 q2 q3 => ?_, ?_⟩, by rw [e2]; omega, by rw [e1]; omega, by rw [e1, ← l2]; exact hd.1, fun m => ?_⟩
  · rw [e1] at q2 q3
    refine Classical.byContradiction fun no => ?_
    have all : ∀ i, i < leastP (marksOf rs k) → ((marksOf rs k).take (leastP (marksOf rs k))).getD i false = ((marksOf rs k).take (leastP (marksOf rs k))).getD (i % q) false := fun i hi => Classical.byContradiction fun ne => no ⟨i, by rw [e1]; exact hi, by rw [e3]; exact ne⟩
    have hp := leastP_min (cs := marksOf rs k) q1 q2 (by omega)
    have hq : isPer (marksOf rs k) q = true := isPer_of (Nat.dvd_trans q3 hd.1) q1 (by omega) fun i hi => by
      have m1 : i % q < (marksOf rs k).length := Nat.lt_of_lt_of_le (Nat.mod_lt _ q1) (by omega)
      rw [hd.2 i hi, hd.2 (i % q) m1, all _ (Nat.mod_lt _ (by omega)), Nat.mod_mod_of_dvd _ q3, Nat.mod_eq_of_lt (Nat.lt_trans (Nat.mod_lt i q1) q2)]
    rw [hq] at hp
    cases hp
  · rw [e2, e4, e3]
    rcases start_last (ms := marksOf es n) (cs := (marksOf rs k).take (leastP (marksOf rs k))) (s := (marksOf es n).length) with e | e
    · exact .inl e
    · by_cases h0 : leastS (marksOf es n) ((marksOf rs k).take (leastP (marksOf rs k))) (marksOf es n).length = 0
      · exact .inl h0
      · refine .inr ?_
        rw [take_get (by omega)]
        exact e
  · rw [e4, e3, kept_same]
    unfold hasN
    rw [cycle_same (by omega)]
/-- steps that change nothing from N on -/
def Stp (h : Nat → Bool) (N d : Nat) : Prop := ∀ n, N ≤ n → h (n + d) = h n
theorem Stp.mul {h : Nat → Bool} {N d : Nat} (s : Stp h N d) : ∀ k, Stp h N (k * d)
  | 0 => fun n _ => by rw [Nat.zero_mul, Nat.add_zero]
  | k + 1 => fun n hn => by rw [Nat.succ_mul, ← Nat.add_assoc, s _ (Nat.le_trans hn (Nat.le_add_right _ _)), s.mul k n hn]
theorem Stp.gcd {h : Nat → Bool} {N : Nat} (a b : Nat) : Stp h N a → Stp h N b → Stp h N (Nat.gcd a b) := by
  induction a, b using Nat.gcd.induction with
  | H0 n => intro _ s; rw [Nat.gcd_zero_left]; exact s
  | H1 m n hm ih =>
    intro s1 s2
    rw [Nat.gcd_rec]
    refine ih (fun k hk => ?_) s1
    have e : n % m + n / m * m = n := by rw [Nat.mul_comm]; exact Nat.mod_add_div n m
    rw [← s1.mul (n / m) (k + n % m) (Nat.le_trans hk (Nat.le_add_right _ _)), Nat.add_assoc, e, s2 k hk]
theorem has_late {L : LS} (ok : LOk L) {n : Nat} (h : L.start ≤ n) : hasN L.marks L.cycle n = L.cycle.getD (n % L.period) false := by
  unfold hasN
  rw [ok.m, ok.c, if_neg (by omega)]
theorem stp_of {L : LS} (ok : LOk L) {N : Nat} (h : L.start ≤ N) : Stp (hasN L.marks L.cycle) N L.period := fun n hn => by
  rw [has_late ok (by omega), has_late ok (by omega), Nat.add_mod_right]
theorem per_le {L : LS} (nL : Nrm L) {g N : Nat} (hN : L.start ≤ N) (g1 : 1 ≤ g) (gd : g ∣ L.period) (s : Stp (hasN L.marks L.cycle) N g) : g = L.period := by
  have ok := nL.ok
  have hp := ok.p
  refine Classical.byContradiction fun ne => ?_
  have hle := Nat.le_of_dvd (by omega) gd
  obtain ⟨i, hi, no⟩ := nL.per g g1 (by omega) gd
  refine no ?_
  have key : ∀ j, j < L.period → hasN L.marks L.cycle (j + N * L.period) = L.cycle.getD j false := fun j hj => by
    have : N ≤ N * L.period := Nat.le_mul_of_pos_right _ (by omega)
    rw [has_late ok (by omega), Nat.add_mul_mod_self_right, Nat.mod_eq_of_lt hj]
  have hN' : N ≤ N * L.period := Nat.le_mul_of_pos_right _ (by omega)
  rw [← key i hi, ← key (i % g) (Nat.lt_of_le_of_lt (Nat.mod_le _ _) hi), ← s.mul (i / g) (i % g + N * L.period) (by omega)]
  congr 1
  have : i % g + i / g * g = i := by rw [Nat.mul_comm]; exact Nat.mod_add_div i g
  omega
theorem nrm_same {L M : LS} (nL : Nrm L) (nM : Nrm M) (h : ∀ n, hasN L.marks L.cycle n = hasN M.marks M.cycle n) : L.marks = M.marks ∧ L.cycle = M.cycle := by
  have okL := nL.ok
  have okM := nM.ok
  have pL := okL.p
  have pM := okM.p
  have eh : hasN M.marks M.cycle = hasN L.marks L.cycle := funext fun n => (h n).symm
  have sL : Stp (hasN L.marks L.cycle) (L.start + M.start) L.period := stp_of okL (by omega)
  have sM : Stp (hasN L.marks L.cycle) (L.start + M.start) M.period := by
    have := stp_of okM (N := L.start + M.start) (by omega)
    rw [eh] at this
    exact this
  have sg := Stp.gcd _ _ sL sM
  have g0 : 1 ≤ Nat.gcd L.period M.period := Nat.gcd_pos_of_pos_left _ (by omega)
  have gL := per_le nL (N := L.start + M.start) (by omega) g0 (Nat.gcd_dvd_left _ _) sg
  have gM := per_le nM (N := L.start + M.start) (by omega) g0 (Nat.gcd_dvd_right _ _) (by rw [eh]; exact sg)
  have ep : L.period = M.period := gL.symm.trans gM
  have ec : L.cycle = M.cycle := by
    refine getD_ext (by rw [okL.c, okM.c, ep]) fun i hi => ?_
    rw [okL.c] at hi
    have hN' : L.start + M.start ≤ (L.start + M.start) * L.period := Nat.le_mul_of_pos_right _ (by omega)
    have := h (i + (L.start + M.start) * L.period)
    rw [has_late okL (by omega), has_late okM (by omega), ← ep, Nat.add_mul_mod_self_right, Nat.mod_eq_of_lt hi] at this
    exact this
  have es : L.start = M.start := by
    rcases Nat.lt_trichotomy L.start M.start with hlt | he | hlt
    · exfalso
      rcases nM.st with z | z
      · omega
      · refine z ?_
        have h1 := h (M.start - 1)
        rw [has_late okL (by omega), ec] at h1
        unfold hasN at h1
        rw [okM.m, if_pos (by omega)] at h1
        rw [okM.c, ← ep]
        exact h1.symm
    · exact he
    · exfalso
      rcases nL.st with z | z
      · omega
      · refine z ?_
        have h1 := h (L.start - 1)
        rw [has_late okM (by omega), ← ec] at h1
        unfold hasN at h1
        rw [okL.m, if_pos (by omega)] at h1
        rw [okL.c, ep]
        exact h1
  refine ⟨getD_ext (by rw [okL.m, okM.m, es]) fun i hi => ?_, ec⟩
  have h1 := h i
  unfold hasN at h1
  rw [if_pos hi, if_pos (by rw [okM.m, ← es, ← okL.m]; exact hi)] at h1
  exact h1
theorem marks_idx {bs : List Bool} {n : Int} (h : n = (bs.length : Int)) : marksOf (idx bs) n = bs := by
  subst h
  refine getD_ext (by rw [marks_len]; rfl) fun i hi => ?_
  have hi' : i < bs.length := by rw [marks_len] at hi; exact hi
  rw [marks_get (by exact hi'), idx_mem hi']
/-- L has the members that h says, its start and period are within bounds -/
structure Is (h : Nat → Bool) (s p : Nat) (L : LS) : Prop where
  n : Nrm L
  m : ∀ i, hasN L.marks L.cycle i = h i
  s : L.start ≤ s
  p : L.period ≤ p
theorem Is.eq {h : Nat → Bool} {s p s' p' : Nat} {L M : LS} (a : Is h s p L) (b : Is h s' p' M) : L.marks = M.marks ∧ L.cycle = M.cycle := nrm_same a.n b.n fun i => (a.m i).trans (b.m i).symm
theorem is_fld {F : Fld} (h : F.Ok) : Is (fun i => F.has i) 5 4 F.ls := by
  have h1 := h.f0
  have h2 := h.r0
  obtain ⟨a, b, c, _, d⟩ := nrm_of (es := F.early) (rs := F.tails) (n := F.first) (k := F.rhythm) (by omega) (by omega) (by omega) (by omega)
  exact ⟨a, fun i => (d i).trans (fld_has h i).symm, by show (lsOf F.early F.first F.rhythm F.tails).start ≤ 5; omega, by show (lsOf F.early F.first F.rhythm F.tails).period ≤ 4; omega⟩
theorem is_B {ms cs : List Bool} (h1 : ms.length ≤ 5000) (h2 : 1 ≤ cs.length) (h3 : cs.length ≤ 5000) : Is (hasN ms cs) ms.length cs.length (lsB ms cs) := by
  obtain ⟨a, b, c, _, d⟩ := nrm_of (es := idx ms) (rs := idx cs) (n := (ms.length : Int)) (k := (cs.length : Int)) (by omega) (by omega) (by omega) (by omega)
  refine ⟨a, fun i => ?_, b, c⟩
  rw [show lsB ms cs = lsOf (idx ms) ms.length cs.length (idx cs) from rfl, d i, marks_idx rfl, marks_idx rfl]
/-- the marks below s and one round of p, for p a multiple of the period -/
theorem to_parts {L : LS} (ok : LOk L) {s p : Nat} (hs : L.start ≤ s) (hd : L.period ∣ p) : ∃ ms cs, marksTo L s p = ms ++ cs ∧ ms.length = s ∧ cs.length = p ∧ ∀ i, 1 ≤ p → hasN ms cs i = hasN L.marks L.cycle i := by
  have hp := ok.p
  refine ⟨_, _, rfl, ?_, ?_, fun i h1 => ?_⟩
  · rw [List.length_append, ok.m, List.length_map, List.length_range]
    omega
  · rw [list_rep, ok.c, Nat.mul_comm, Nat.div_mul_cancel hd]
  · have l1 : (L.marks ++ (List.range (s - L.start)).map fun (i : Nat) => L.cycle.getD ((L.start + i) % L.period) false).length = s := by
      rw [List.length_append, ok.m, List.length_map, List.length_range]
      omega
    have l2 : ((List.replicate (p / L.period) L.cycle).flatten).length = p := by rw [list_rep, ok.c, Nat.mul_comm, Nat.div_mul_cancel hd]
    have hlt := Nat.mod_lt i (show 0 < p by omega)
    unfold hasN
    rw [l1, l2, ok.m, ok.c]
    by_cases a : i < L.start
    · rw [if_pos (by omega), if_pos a, List.getD_eq_getElem?_getD, List.getElem?_append_left (by rw [ok.m]; exact a), ← List.getD_eq_getElem?_getD]
    · rw [if_neg a]
      by_cases b : i < s
      · rw [if_pos b, List.getD_eq_getElem?_getD, List.getElem?_append_right (by rw [ok.m]; omega), ← List.getD_eq_getElem?_getD, map_range_get (f := fun j => L.cycle.getD ((L.start + j) % L.period) false) (by rw [ok.m]; omega), ok.m]
        congr 2
        omega
      · rw [if_neg b, rep_get (by rw [ok.c, Nat.div_mul_cancel hd]; exact hlt), ok.c, Nat.mod_mod_of_dvd _ hd]
theorem zw_get {f : Bool → Bool → Bool} {a b : List Bool} {i : Nat} (h : i < a.length) (hl : a.length = b.length) : (List.zipWith f a b).getD i false = f (a.getD i false) (b.getD i false) := by
  rw [List.getD_eq_getElem?_getD, List.getD_eq_getElem?_getD, List.getD_eq_getElem?_getD, List.getElem?_zipWith, List.getElem?_eq_getElem h, List.getElem?_eq_getElem (by rw [← hl]; exact h)]
  rfl
theorem has_zip {f : Bool → Bool → Bool} {ms cs ms' cs' : List Bool} (h1 : ms.length = ms'.length) (h2 : cs.length = cs'.length) (h3 : 1 ≤ cs.length) (i : Nat) : hasN (List.zipWith f ms ms') (List.zipWith f cs cs') i = f (hasN ms cs i) (hasN ms' cs' i) := by
  have hlt := Nat.mod_lt i (show 0 < cs.length by omega)
  unfold hasN
  rw [List.length_zipWith, List.length_zipWith, ← h1, ← h2, Nat.min_self, Nat.min_self]
  by_cases a : i < ms.length
  · rw [if_pos a, if_pos a, if_pos a, zw_get a h1]
  · rw [if_neg a, if_neg a, if_neg a, zw_get hlt h2]
theorem map_get {f : Bool → Bool} {a : List Bool} {i : Nat} (h : i < a.length) : (a.map f).getD i false = f (a.getD i false) := by
  rw [List.getD_eq_getElem?_getD, List.getD_eq_getElem?_getD, List.getElem?_map, List.getElem?_eq_getElem h]
  rfl
theorem has_not {ms cs : List Bool} (h3 : 1 ≤ cs.length) (i : Nat) : hasN (ms.map not) (cs.map not) i = !hasN ms cs i := by
  have hlt := Nat.mod_lt i (show 0 < cs.length by omega)
  unfold hasN
  rw [List.length_map, List.length_map]
  by_cases a : i < ms.length
  · rw [if_pos a, if_pos a, map_get a]
  · rw [if_neg a, if_neg a, map_get hlt]
end Toy
set_option Elab.async false
set_option linter.all false
set_option maxRecDepth 100000
set_option maxHeartbeats 2000000
/-! list(zip(a, b)) of two lists. -/
namespace LZ
open PySem PySem.Spec PyProof.Rows PySem
theorem away {a S b : Addr} (h1 : a < S) (h2 : S < b) : b ≠ a := Nat.ne_of_gt (Nat.lt_trans h1 h2)
/-- the zip at z after i pairs; what it gave last is still in use, and is not S -/
structure ZSt (z TI TO i1 i2 l1 l2 S : Addr) (xs ys : Array Value) (i : Nat) (h : Heap) : Prop where
  zp : IsZip h z TI TO .none ∨ ∃ T f oT, IsZipHeld h z TI TO T f ∧ h.get? T = some oT ∧ T ≠ S
  ti : IsPair h TI (.ref i1) (.ref i2)
  to : ∃ a b, IsPair h TO a b
  a : h.IsListIter i1 l1 i
  b : h.IsListIter i2 l2 i
  c : h.IsList l1 xs
  d : h.IsList l2 ys
structure Off (z TI TO i1 i2 l1 l2 S : Addr) : Prop where
  z : z ≠ S
  ti : TI ≠ S
  to : TO ≠ S
  i1 : i1 ≠ S
  i2 : i2 ≠ S
  l1 : l1 ≠ S
  l2 : l2 ≠ S
section
variable {prog : Program} {w : World} {A : Around} {E : Value → Shared → Prop} {s : Shared} {z TI TO i1 i2 l1 l2 S : Addr} {xs ys : Array Value} {i n : Nat} {x y : Value}
theorem ZSt.but {h h' : Heap} (o : Off z TI TO i1 i2 l1 l2 S) (st : ZSt z TI TO i1 i2 l1 l2 S xs ys i h) (k : ∀ b u, b ≠ S → h.get? b = some u → h'.get? b = some u) : ZSt z TI TO i1 i2 l1 l2 S xs ys i h' where
  zp := by
    rcases st.zp with q | ⟨T, f, oT, q1, q2, q3⟩
    · exact .inl (k _ _ o.z q)
    · exact .inr ⟨T, f, oT, k _ _ o.z q1, k _ _ q3 q2, q3⟩
  ti := k _ _ o.ti st.ti
  to := let ⟨a, b, q⟩ := st.to; ⟨a, b, k _ _ o.to q⟩
  a := st.a.at fun u e => k _ u o.i1 e
  b := st.b.at fun u e => k _ u o.i2 e
  c := st.c.at fun u e => k _ u o.l1 e
  d := st.d.at fun u e => k _ u o.l2 e
theorem zst_item {Q : Option Value → Shared → Prop} (D : ZipApart z TI TO i1 i2 l1 l2) (hS : S < s.heap.objs.size) (st : ZSt z TI TO i1 i2 l1 l2 S xs ys i s.heap) (hx : xs[i]? = some x) (hy : ys[i]? = some y)
    (q : ∀ h', ZSt z TI TO i1 i2 l1 l2 S xs ys (i + 1) h' → IsPair h' s.heap.objs.size x y → h'.objs.size = s.heap.objs.size + 1 → (∀ c o, c ≠ z → c ≠ TO → c ≠ i1 → c ≠ i2 → s.heap.get? c = some o → h'.get? c = some o) → Q (some (.ref s.heap.objs.size)) { s with heap := h' }) :
    wpAny (model prog w) A (pyNext (.ref z)) Q E s := by
  obtain ⟨pa, pb, hto⟩ := st.to
  rcases st.zp with hz | ⟨T, f, oT, hz, hT, hTS⟩
  · refine wpAny_pyNext_zip_item D hz st.ti hto st.a st.b st.c st.d hx hy fun h' b1 b2 b3 b4 b5 b6 hk => ?_
    exact q h' ⟨.inr ⟨_, _, _, b1, b5, Nat.ne_of_gt hS⟩, hk _ _ D.TIz D.TITO D.TIi1 D.TIi2 st.ti, ⟨_, _, b2⟩, b3, b4, st.c.at fun o e => hk _ o D.l1z D.l1TO D.l1i1 D.l1i2 e, st.d.at fun o e => hk _ o D.l2z D.l2TO D.l2i1 D.l2i2 e⟩ b5 b6 hk
  · refine wpAny_pyNext_zip_item_held D hz hT st.ti st.a st.b st.c st.d hx hy fun h' b1 b3 b4 b5 b6 hk => ?_
    have hTz : T ≠ z ∧ T ≠ i1 ∧ T ≠ i2 ∨ ∃ o, h'.get? T = some o := by
      by_cases e1 : T = z
      · exact .inr ⟨_, by rw [e1]; exact b1⟩
      · by_cases e2 : T = i1
        · obtain ⟨o, e, _⟩ := b3
          exact .inr ⟨o, e2 ▸ e⟩
        · by_cases e3 : T = i2
          · obtain ⟨o, e, _⟩ := b4
            exact .inr ⟨o, e3 ▸ e⟩
          · exact .inl ⟨e1, e2, e3⟩
    have hT' : ∃ o, h'.get? T = some o := by
      rcases hTz with ⟨e1, e2, e3⟩ | q
      · exact ⟨oT, hk _ _ e1 e2 e3 hT⟩
      · exact q
    obtain ⟨o', ho'⟩ := hT'
    exact q h' ⟨.inr ⟨T, true, o', b1, ho', hTS⟩, hk _ _ D.TIz D.TIi1 D.TIi2 st.ti, ⟨_, _, hk _ _ D.TOz D.TOi1 D.TOi2 hto⟩, b3, b4, st.c.at fun o e => hk _ o D.l1z D.l1i1 D.l1i2 e, st.d.at fun o e => hk _ o D.l2z D.l2i1 D.l2i2 e⟩ b5 b6 fun c o c1 _ c3 c4 e => hk c o c1 c3 c4 e
theorem zst_end {Q : Option Value → Shared → Prop} (hh : A.handled = none) (D : ZipApart z TI TO i1 i2 l1 l2) (st : ZSt z TI TO i1 i2 l1 l2 S xs ys i s.heap) (hx : xs[i]? = none)
    (q : ∀ h', (∀ c o, c ≠ z → c ≠ TO → c ≠ i1 → c ≠ i2 → s.heap.get? c = some o → h'.get? c = some o) → Q none { s with heap := h' }) : wpAny (model prog w) A (pyNext (.ref z)) Q E s := by
  obtain ⟨pa, pb, hto⟩ := st.to
  rcases st.zp with hz | ⟨T, f, oT, hz, hT, hTS⟩
  · exact wpAny_pyNext_zip_end hh D hz st.ti hto st.a st.b st.c st.d (.inl hx) fun h' hk => q h' hk
  · exact wpAny_pyNext_zip_end_held hh D hz hT st.ti st.a st.b st.c st.d (.inl hx) fun h' hk => q h' fun c o c1 _ c3 c4 e => hk c o c1 c3 c4 e
/-- the tuples at as hold the first pairs -/
structure Prs (xs ys : Array Value) (S : Addr) (h : Heap) (as : List Addr) : Prop where
  up : as.Pairwise (· < ·)
  lo : ∀ a ∈ as, S < a
  at_ : ∀ (j : Nat) (a : Addr), as[j]? = some a → ∃ x y, xs[j]? = some x ∧ ys[j]? = some y ∧ IsPair h a x y
theorem Prs.lt {h : Heap} {as : List Addr} (g : Prs xs ys S h as) {a : Addr} (ha : a ∈ as) : a < h.objs.size := by
  obtain ⟨j, hj⟩ := List.mem_iff_getElem?.mp ha
  obtain ⟨x, y, _, _, e⟩ := g.at_ j a hj
  exact Heap.lt_size e
abbrev lst (acc : Array Value) (c : Nat) : Obj := { cls := .type "list", dict := none, data := .seq acc c, slots := #[] }
theorem zloop {R : Result → Shared → Prop} {h0 : Heap} (hh : A.handled = none) (D : ZipApart z TI TO i1 i2 l1 l2) (off : Off z TI TO i1 i2 l1 l2 S) (low : z < S ∧ TO < S ∧ i1 < S ∧ i2 < S) (n1 : xs.size = n) (n2 : ys.size = n) (hn : n ≤ sizeLine) (res : Value)
    (hR : ∀ h' tk acc c as, (∀ b o, b ≠ S → b ≠ z → b ≠ TO → b ≠ i1 → b ≠ i2 → h0.get? b = some o → h'.get? b = some o) → h'.get? S = some (lst acc c) → as.length = n → Prs xs ys S h' as → acc.toList = as.map Value.ref → R (.ok (.ret res)) { s with heap := h', toks := tk }) :
    ∀ (k i : Nat) (h : Heap) (tk c : Nat) (acc : Array Value) (as : List Addr), n - i = k → i ≤ n → ZSt z TI TO i1 i2 l1 l2 S xs ys i h → (∀ b o, b ≠ S → b ≠ z → b ≠ TO → b ≠ i1 → b ≠ i2 → h0.get? b = some o → h.get? b = some o) →
      h.get? S = some (lst acc c) → acc.toList = as.map Value.ref → as.length = i → Prs xs ys S h as → codeAny (model prog w) A (.builtin "list.extend.loop" ⟨[.ref S, .ref z, res], []⟩) R { s with heap := h, toks := tk } := by
  intro k
  induction k with
  | zero =>
    intro i h tk c acc as hk hi st kept hS ea el g
    have ei : i = n := by omega
    refine codeAny_builtin F.entry_extend_loop (?_)
    rw [Around.under_plainId F.plain_extend_loop (_)]
    show wpAny (model prog w) A.in1 (pyNext (.ref z) >>= _) _ _ _
    refine wpAny_bind (zst_end (s := { s with heap := h, toks := tk }) (A := A.in1) hh D st (Array.getElem?_eq_none (by omega)) fun h' kp => wpAny_pure ?_)
    refine hR h' tk acc c as (fun b o c0 c1 c2 c3 c4 e => kp b o c1 c2 c3 c4 (kept b o c0 c1 c2 c3 c4 e)) (kp S _ off.z.symm off.to.symm off.i1.symm off.i2.symm hS) (by omega) ⟨g.up, g.lo, fun j a hj => ?_⟩ ea
    obtain ⟨x, y, ex, ey, e⟩ := g.at_ j a hj
    have hlo := g.lo a (List.mem_of_getElem? hj)
    exact ⟨x, y, ex, ey, kp a _ (away low.1 hlo) (away low.2.1 hlo) (away low.2.2.1 hlo) (away low.2.2.2 hlo) e⟩
  | succ k ih =>
    intro i h tk c acc as hk hi st kept hS ea el g
    have hlt : i < n := by omega
    have sz : acc.size = i := by rw [← Array.length_toList, ea, List.length_map, el]
    have hSl : S < h.objs.size := Heap.lt_size hS
    refine codeAny_builtin F.entry_extend_loop (?_)
    rw [Around.under_plainId F.plain_extend_loop (_)]
    show wpAny (model prog w) A.in1 (pyNext (.ref z) >>= _) _ _ _
    refine wpAny_bind (zst_item (s := { s with heap := h, toks := tk }) (A := A.in1) D hSl st (Array.getElem?_eq_getElem (by omega)) (Array.getElem?_eq_getElem (by omega)) fun h' st' hT hz' kp => ?_)
    dsimp only at hT hz' kp ⊢
    have hS' := kp S _ off.z.symm off.to.symm off.i1.symm off.i2.symm hS
    have wr : ∀ b o, b ≠ S → h'.get? b = some o → (h'.update S (Obj.mapSeq (·.push (Value.ref h.objs.size)))).get? b = some o := fun b o hb e => (Heap.get?_update_other _ _ (Ne.symm hb)).trans e
    show wpAny (model prog w) A.in1 (updateSeq S (·.push (Value.ref h.objs.size)) >>= _) _ _ _
    refine wpAny_bind (wpAny_updateSeq hS' rfl (wpAny_pure ⟨plainId_quiet F.plain_extend_loop _, ih (i + 1) _ tk _ (acc.push (Value.ref h.objs.size)) (as ++ [h.objs.size]) (by omega) hlt (st'.but off wr) ?_ (Heap.get?_update_self _ hS' rfl) ?_ ?_ ⟨?_, ?_, ?_⟩⟩) (by rw [sz]; omega) (by show (acc.push (Value.ref h.objs.size)).size ≤ sizeLine + 1; rw [Array.size_push, sz]; omega))
    · exact fun b o c0 c1 c2 c3 c4 e => wr b o c0 (kp b o c1 c2 c3 c4 (kept b o c0 c1 c2 c3 c4 e))
    · rw [Array.toList_push, ea, List.map_append]
      rfl
    · rw [List.length_append, el]
      rfl
    · refine List.pairwise_append.mpr ⟨g.up, List.pairwise_singleton _ _, fun a ha b hb => ?_⟩
      rw [List.mem_singleton.mp hb]
      exact g.lt ha
    · intro a ha
      rcases List.mem_append.mp ha with ha | ha
      · exact g.lo a ha
      · rw [List.mem_singleton.mp ha]
        exact hSl
    · intro j b hj
      rcases Nat.lt_or_ge j as.length with h1 | h1
      · rw [List.getElem?_append_left h1] at hj
        obtain ⟨x, y, ex, ey, e⟩ := g.at_ j b hj
        have hb := g.lo b (List.mem_of_getElem? hj)
        exact ⟨x, y, ex, ey, wr b _ (Nat.ne_of_gt hb) (kp b _ (away low.1 hb) (away low.2.1 hb) (away low.2.2.1 hb) (away low.2.2.2 hb) e)⟩
      · rw [List.getElem?_append_right h1] at hj
        have ej : j - as.length = 0 := by
          by_cases e : j - as.length = 0
          · exact e
          · rw [List.getElem?_eq_none (by simp; omega)] at hj
            cases hj
        rw [ej] at hj
        cases hj
        have ej' : j = i := by omega
        subst ej'
        exact ⟨_, _, Array.getElem?_eq_getElem (by omega), Array.getElem?_eq_getElem (by omega), wr _ _ (Nat.ne_of_gt hSl) hT⟩
theorem zip_nolen : typeLookup (.type "zip") "__len__" = pure none := by rw [typeLookup_type, builtinLookup_eq_fast]; kernel_rfl
theorem zip_nohint : typeLookup (.type "zip") "__length_hint__" = pure none := by rw [typeLookup_type, builtinLookup_eq_fast]; kernel_rfl
theorem zip_hint {Q : Bool → Shared → Prop} (hT : s.TypeIs (.ref z) "zip") (q : Q true s) : wpAny (model prog w) A (Builtin.List.listLengthHint (.ref z)) Q E s := by
  unfold Builtin.List.listLengthHint
  refine wpAny_bind (wpAny_specialOf hT zip_nolen ?_)
  show wpAny (model prog w) A (specialOf (Value.ref z) (Str.ofString "__length_hint__") >>= _) _ _ _
  refine wpAny_bind (wpAny_specialOf hT zip_nohint (?_))
  exact wpAny_pure q
/-- a new list takes what the zip gives -/
theorem zext {R : Result → Shared → Prop} (hh : A.handled = none) (D : ZipApart z TI TO i1 i2 l1 l2) (off : Off z TI TO i1 i2 l1 l2 S) (low : z < S ∧ TO < S ∧ i1 < S ∧ i2 < S) (n1 : xs.size = n) (n2 : ys.size = n) (hn : n ≤ sizeLine) (res : Value) (c0 : Nat)
    (hS : s.heap.get? S = some (lst #[] c0)) (hz : IsZip s.heap z TI TO .none) (st : ZSt z TI TO i1 i2 l1 l2 S xs ys 0 s.heap)
    (hR : ∀ h' tk acc c as, (∀ b o, b ≠ S → b ≠ z → b ≠ TO → b ≠ i1 → b ≠ i2 → s.heap.get? b = some o → h'.get? b = some o) → h'.get? S = some (lst acc c) → as.length = n → Prs xs ys S h' as → acc.toList = as.map Value.ref → R (.ok (.ret res)) { s with heap := h', toks := tk }) :
    wpAny (model prog w) A.in1 (Builtin.List.listExtendWith (.ref S) (.ref z) res) (fun fin s' => match fin with | .done f => R (.ok f) s' | .again c' => c'.quiet = true ∧ codeAny (model prog w) A c' R s') (fun e s' => R (.error e) s') s := by
  unfold Builtin.List.listExtendWith
  refine wpAny_bind (wpAny_typeOf (T := "zip") ⟨_, hz, rfl⟩ ?_)
  have b1 : Builtin.List.listSameRef (.ref S) (.ref z) = false := by simp [Builtin.List.listSameRef, off.z.symm]
  have b2 : (Value.type "zip" == Value.type "list") = false := by decide
  have b3 : (Value.type "zip" == Value.type "tuple") = false := by decide
  simp only [b1, b2, b3, Bool.or_false, Bool.false_eq_true, if_false]
  refine wpAny_bind (wpAny_pyIter_zip hz (wpAny_bind (wpAny_holding (zip_hint ⟨_, hz, rfl⟩ ?_))))
  refine wpAny_bind (wpAny_rule (wpAny_bind ?_))
  show wpAny (model prog w) A.in1 (updateSeq S (·.push .none) >>= fun _ => updateSeq S (·.pop)) _ _ _
  refine wpAny_bind (wpAny_updateSeq hS rfl ?_)
  have g1 := Heap.get?_update_self (Obj.mapSeq (·.push Value.none)) hS rfl
  refine wpAny_updateSeq (hz := by seq_fits) g1 rfl ?_
  have g2 := Heap.get?_update_self (Obj.mapSeq (·.pop)) g1 rfl
  have kp : ∀ b o, b ≠ S → s.heap.get? b = some o → ((s.heap.update S (Obj.mapSeq (·.push Value.none))).update S (Obj.mapSeq (·.pop))).get? b = some o := fun b o hb e => (Heap.get?_update_other _ _ (Ne.symm hb)).trans ((Heap.get?_update_other _ _ (Ne.symm hb)).trans e)
  refine wpAny_pure ⟨plainId_quiet F.plain_extend_loop _, ?_⟩
  exact zloop (s := s) (h0 := s.heap) hh D off low n1 n2 hn res hR n 0 _ s.toks _ #[] [] (Nat.sub_zero _) (Nat.zero_le _) (st.but off kp) (fun b o c0 _ _ _ _ e => kp b o c0 e) g2 rfl rfl ⟨List.Pairwise.nil, (fun _ q => nomatch q), fun j a q => by simp at q⟩
/-- list(z) -/
theorem zlist {Q : Value → Shared → Prop} (hh : A.handled = none) (D : ZipApart z TI TO i1 i2 l1 l2) (n1 : xs.size = n) (n2 : ys.size = n) (hn : n ≤ sizeLine) (hz : IsZip s.heap z TI TO .none) (ti : IsPair s.heap TI (.ref i1) (.ref i2)) (to : ∃ a b, IsPair s.heap TO a b)
    (ha : s.heap.IsListIter i1 l1 0) (hb : s.heap.IsListIter i2 l2 0) (hc : s.heap.IsList l1 xs) (hd : s.heap.IsList l2 ys)
    (hQ : ∀ h' tk acc c as, (∀ b o, b ≠ z → b ≠ TO → b ≠ i1 → b ≠ i2 → s.heap.get? b = some o → h'.get? b = some o) → h'.get? s.heap.objs.size = some (lst acc c) → as.length = n → Prs xs ys s.heap.objs.size h' as → acc.toList = as.map Value.ref → Q (.ref s.heap.objs.size) { s with heap := h', toks := tk }) :
    wpAny (model prog w) A (call (.type "list") [.ref z]) Q E s := by
  have lz := Heap.lt_size hz
  have lti := Heap.lt_size ti
  obtain ⟨pa, pb, hto⟩ := id to
  have lto := Heap.lt_size hto
  have la : i1 < s.heap.objs.size := by obtain ⟨_, e, _⟩ := ha; exact Heap.lt_size e
  have lb : i2 < s.heap.objs.size := by obtain ⟨_, e, _⟩ := hb; exact Heap.lt_size e
  have lc : l1 < s.heap.objs.size := by obtain ⟨_, e, _⟩ := hc; exact Heap.lt_size e
  have ld : l2 < s.heap.objs.size := by obtain ⟨_, e, _⟩ := hd; exact Heap.lt_size e
  refine callType_codes (Q₁ := fun v s₁ => v = .ref s.heap.objs.size ∧ s₁ = { s with heap := s.heap.push { cls := .type "list", data := .seq #[] } }) F.called_list (F.typeCall_list_1 _) F.entry_list_init (code_list_new _ ⟨rfl, rfl⟩) fun v s₁ e => ?_
  obtain ⟨rfl, rfl⟩ := e
  have g0 : (s.heap.push { cls := .type "list", data := .seq #[] }).get? s.heap.objs.size = some (lst #[] 0) := Heap.get?_push_size _ rfl
  refine ⟨⟨_, g0, rfl⟩, F.args_list_init_2 _ _, ?_⟩
  show wpAny (model prog w) A.in1.in1 (do let old ← Builtin.List.listItems (.ref s.heap.objs.size); Builtin.List.listUpdate (.ref s.heap.objs.size) (fun _ => #[]); letGo old.toList.reverse; Builtin.List.listExtendWith (.ref s.heap.objs.size) (.ref z) .none) _ _ _
  refine wpAny_bind ?_
  unfold Builtin.List.listItems
  refine wpAny_bind (wpAny_seqItems g0 rfl (wpAny_pure (?_)))
  show wpAny (model prog w) A.in1.in1 (updateSeq s.heap.objs.size (fun _ => #[]) >>= fun _ => letGo (#[] : Array Value).toList.reverse >>= fun _ => Builtin.List.listExtendWith (.ref s.heap.objs.size) (.ref z) .none) _ _ _
  refine wpAny_bind (wpAny_updateSeq g0 rfl ?_)
  have g1 := Heap.get?_update_self (Obj.mapSeq (fun _ => (#[] : Array Value))) g0 rfl
  have kp : ∀ b o, b ≠ s.heap.objs.size → s.heap.get? b = some o → ((s.heap.push { cls := .type "list", data := .seq #[] }).update s.heap.objs.size (Obj.mapSeq (fun _ => (#[] : Array Value)))).get? b = some o :=
    fun b o hb e => (Heap.get?_update_other _ _ (Ne.symm hb)).trans (Heap.get?_push_of_some _ e)
  refine wpAny_bind (wpAny_letGo ?_)
  have hz' := kp _ _ (Nat.ne_of_lt lz) hz
  refine zext (A := A.in1) hh D ⟨Nat.ne_of_lt lz, Nat.ne_of_lt lti, Nat.ne_of_lt lto, Nat.ne_of_lt la, Nat.ne_of_lt lb, Nat.ne_of_lt lc, Nat.ne_of_lt ld⟩ ⟨lz, lto, la, lb⟩ n1 n2 hn .none _ g1 hz'
    ⟨.inl hz', kp _ _ (Nat.ne_of_lt lti) ti, ⟨pa, pb, kp _ _ (Nat.ne_of_lt lto) hto⟩, ha.at fun o e => kp _ o (Nat.ne_of_lt la) e, hb.at fun o e => kp _ o (Nat.ne_of_lt lb) e, hc.at fun o e => kp _ o (Nat.ne_of_lt lc) e, hd.at fun o e => kp _ o (Nat.ne_of_lt ld) e⟩ fun h' tk acc c as k2 hS' hl g ea => ?_
  exact ⟨rfl, hQ h' tk acc c as (fun b o c1 c2 c3 c4 e => k2 b o (Nat.ne_of_lt (Heap.lt_size e)) c1 c2 c3 c4 (kp b o (Nat.ne_of_lt (Heap.lt_size e)) e)) hS' hl g ea⟩
end
end LZ

set_option Elab.async false
set_option linter.all false
set_option maxRecDepth 100000
set_option maxHeartbeats 2000000
namespace L2
open PySem PySem.Spec PyProof.Rows
/-- the pairs laid at the addresses -/
def addT : Hp → List (V × V) → List Addr → Hp
  | H, z :: zs, a :: as => addT (upd H a (.tup [z.1, z.2])) zs as
  | H, _, _ => H
theorem addT_off : ∀ {zs : List (V × V)} {as : List Addr} {H : Hp} {b : Addr}, b ∉ as → addT H zs as b = H b
  | [], [], _, _, _ => rfl
  | [], _ :: _, _, _, _ => rfl
  | _ :: _, [], _, _, _ => rfl
  | z :: zs, a :: as, H, b, h => by
    rw [addT, addT_off (fun q => h (List.mem_cons_of_mem _ q)), upd_ne (fun q => h (by rw [q]; exact List.mem_cons_self))]
inductive Ps (h : Heap) : List (V × V) → List Addr → Prop
  | nil : Ps h [] []
  | cons {z : V × V} {zs : List (V × V)} {a : Addr} {as : List Addr} {u v : Value} : IsPair h a u v → RelV z.1 u → RelV z.2 v → Ps h zs as → Ps h (z :: zs) (a :: as)
theorem ps_of {h : Heap} : ∀ {xs ys : List V} {us vs : List Value} {as : List Addr}, Vals xs us → Vals ys vs → ys.length = xs.length → as.length = xs.length → (∀ (j : Nat) (a : Addr), as[j]? = some a → ∃ x y, us[j]? = some x ∧ vs[j]? = some y ∧ IsPair h a x y) → Ps h (xs.zip ys) as
  | [], ys, us, vs, as, r1, r2, e1, e2, _ => by
    have : as = [] := List.eq_nil_of_length_eq_zero e2
    subst this
    exact .nil
  | x :: xs, ys, us, vs, as, r1, r2, e1, e2, g => by
    cases r1 with
    | cons a1 a2 =>
    cases r2 with
    | nil => cases e1
    | cons b1 b2 =>
    cases as with
    | nil => cases e2
    | cons a as =>
      obtain ⟨u, v, eu, ev, ip⟩ := g 0 a rfl
      cases eu
      cases ev
      exact .cons ip a1 b1 (ps_of a2 b2 (by simpa using e1) (by simpa using e2) fun j c hj => g (j + 1) c (by simpa using hj))
theorem hok_addT {P : Program} {w : World} {h : Heap} : ∀ {zs : List (V × V)} {as : List Addr} {H : Hp}, Ps h zs as → HOk P w H h → as.Nodup → (∀ a ∈ as, H a = none) → HOk P w (addT H zs as) h
  | _, _, H, .nil, ok, _, _ => ok
  | _, _, H, .cons (z := z) (a := a) (u := u) (v := v) ip r1 r2 t, ok, nd, fr => by
    rw [addT]
    refine hok_addT t (ok.laidN (fun _ _ e => e) (fr a List.mem_cons_self) ⟨by show 2 ≤ sizeLine; decide, [u, v], .cons r1 (.cons r2 .nil), ⟨_, ip, rfl, _, rfl⟩⟩) (List.nodup_cons.mp nd).2 fun b hb => ?_
    rw [upd_ne (fun q => (List.nodup_cons.mp nd).1 (by rw [← q]; exact hb))]
    exact fr b (List.mem_cons_of_mem _ hb)
/-- list(zip(a, b)) of two lists of one length -/
def tLZ (K : PySem.W.Frag) (ta : TA) : TE := fun σ H Q => ta σ H fun vs H1 => ∃ a b xs ys, vs = [.ref a, .ref b] ∧ SqL K H1 a xs ∧ SqL K H1 b ys ∧ ys.length = xs.length ∧
  ∀ as p, as.length = xs.length → as.Nodup → (∀ c ∈ as, H1 c = none) → H1 p = none → p ∉ as → Q (.ref p) (upd (addT H1 (xs.zip ys) as) p (.lst (as.map V.ref)))
theorem vals_rf : ∀ as : List Addr, Vals (as.map V.ref) (as.map Value.ref)
  | [] => .nil
  | a :: as => .cons rfl (vals_rf as)
theorem pe_lz {X : Cx} {e e2 : Expr} {ta : TA} {p p2 pos pos2 : Pos} (hh : X.A.handled = none) (hl : Gl X "list") (ml : X.mg "list" = none) (hg : Gl X "zip") (hm : X.mg "zip" = none) (ha : PA X [e, e2] ta)
    (hs : starEach [e, e2] X.env = (false, eval e X.env) :: starEach [e2] X.env := by rfl) (hpl : (backTo pos2 (starEach [e2] X.env)).any (·.1) = false := by rfl)
    (hs2 : starEach [.Call (.Name "zip" p2) [e, e2] [] pos2] X.env = (false, eval (.Call (.Name "zip" p2) [e, e2] [] pos2) X.env) :: starEach [] X.env := by rfl) (hpl2 : (backTo pos (starEach [] X.env)).any (·.1) = false := by rfl) :
    PE X (.Call (.Name "list" p) [.Call (.Name "zip" p2) [e, e2] [] pos2] [] pos) (tLZ X.K ta) := by
  refine ⟨fun pins s σ H Q I h => ?_⟩
  refine Call_ (ld_blt I hl ml (show bootBuiltins "list" = some (.type "list") by decide +kernel) (PyProof.Rows.callWith_type1 ?_ hs2 hpl2))
  rw [hs2]
  show wpAny (model X.prog X.w) X.A (spliced ((false, eval (.Call (.Name "zip" p2) [e, e2] [] pos2) X.env) :: backTo pos (starEach [] X.env))) _ _ s
  refine Calls.spliced_cons ?_
  refine Call_ (ld_blt I hg hm PyProof.Rows.boot_zip (PyProof.Rows.callWith_type1 (thn (ha.run pos2 pins s σ H _ I h) fun us s1 ⟨vs, H1, I1, r1, q1⟩ => ?_) hs hpl))
  obtain ⟨a, b, xs, ys, ex, hqx, hqy, hlen, q⟩ := q1
  subst ex
  cases r1 with
  | cons r rr =>
  cases rr with
  | cons r' rr =>
  cases rr
  cases r
  cases r'
  obtain ⟨its, rv, p1, hz1⟩ := I1.list hqx
  obtain ⟨its2, rv2, p2', hz2⟩ := I1.list hqy
  have l1 := rv.length
  have l2 := rv2.length
  refine call_zip_2 p1.isList p2'.isList fun h' hz hTI hTO h1 h2 hsz hk => ?_
  refine Calls.spliced_nil ?_
  have D := PySem.W.ktu_apart s1.heap.objs.size a b p1.lt p2'.lt
  refine LZ.zlist (s := { s1 with heap := h' }) hh D (n := xs.length) (by simp [l1]) (by simp [← l2, hlen]) hz1 hz hTI ⟨_, _, hTO⟩ h1 h2 (p1.isList.at fun o e => hk _ o e) (p2'.isList.at fun o e => hk _ o e) fun h2' tk acc c as kp hS hal g ea => ?_
  have kept : ∀ c o, s1.heap.get? c = some o → h2'.get? c = some o := fun c o e => kp c o (Nat.ne_of_lt (Nat.lt_of_lt_of_le (Heap.lt_size e) (Nat.le_add_right _ _))) (Nat.ne_of_lt (Nat.lt_of_lt_of_le (Heap.lt_size e) (Nat.le_add_right _ _))) (Nat.ne_of_lt (Heap.lt_size e)) (Nat.ne_of_lt (Nat.lt_of_lt_of_le (Heap.lt_size e) (Nat.le_add_right _ _))) (hk c o e)
  have big : s1.heap.objs.size ≤ h'.objs.size := by rw [hsz]; exact Nat.le_add_right _ _
  have bigA : ∀ c ∈ as, s1.heap.objs.size ≤ c := fun c hc => Nat.le_trans big (Nat.le_of_lt (g.lo c hc))
  have nd : as.Nodup := g.up.imp fun h => Nat.ne_of_lt h
  have frA : ∀ c ∈ as, H1 c = none := fun c hc => I1.hok.fresh (bigA c hc)
  have pS : h'.objs.size ∉ as := fun hc => Nat.lt_irrefl _ (g.lo _ hc)
  have fS : H1 h'.objs.size = none := I1.hok.fresh big
  have ps : Ps h2' (xs.zip ys) as := ps_of rv rv2 hlen hal fun j c hj => by
    obtain ⟨x, y, ex, ey, ip⟩ := g.at_ j c hj
    exact ⟨x, y, by simpa using ex, by simpa using ey, ip⟩
  have hok1 := hok_addT (P := X.prog) (w := X.w) ps (I1.hok.kept kept) nd frA
  have hok2 : HOk X.prog X.w (upd (addT H1 (xs.zip ys) as) h'.objs.size (.lst (as.map V.ref))) h2' := hok1.laidN (fun _ _ e => e) ((addT_off pS).trans fS) ⟨by rw [List.length_map, hal]; exact hz1, as.map Value.ref, c, vals_rf as, by rw [hS]; show some (LZ.lst acc c) = _; rw [← ea]⟩
  have old : ∀ c o, s1.heap.get? c = some o → upd (addT H1 (xs.zip ys) as) h'.objs.size (.lst (as.map V.ref)) c = H1 c := fun c o e => by
    rw [upd_ne (Nat.ne_of_lt (Nat.lt_of_lt_of_le (Heap.lt_size e) big)), addT_off (fun hc => absurd (Nat.lt_of_lt_of_le (Heap.lt_size e) (bigA c hc)) (Nat.lt_irrefl _))]
  have oldH : ∀ c o, H1 c = some o → upd (addT H1 (xs.zip ys) as) h'.objs.size (.lst (as.map V.ref)) c = some o := fun c o e => by
    rw [upd_ne (fun q => by rw [q, fS] at e; cases e), addT_off (fun hc => by rw [frA c hc] at e; cases e), e]
  refine ⟨.ref h'.objs.size, _, I1.un (h' := h2') (t' := tk) ⟨fun c o e _ _ _ => kept c o e, fun c o e _ _ _ => ⟨o.slots, kept c o e⟩, fun c o e n _ => (old c o e).trans n, fun c o e _ => ⟨o, kept c o e⟩, fun c zs e => oldH c _ e, fun c o u e => oldH c _ e, fun c ps e => ⟨#[], by rw [Array.append_empty]; exact oldH c _ e⟩⟩ hok2, rfl, q as h'.objs.size hal nd frA fS pS⟩
end L2

namespace DL
open PySem PySem.Spec PyProof.Rows L2 StX
section
variable {K : PySem.W.Frag} {B O : Hp} {G : List SD} {ta : TA}
def pairD (p : PyData × PyData) : PyData := .tuple [p.1, p.2]
theorem w_addT : ∀ {xs ys : List V} {ds es : List PyData} {as : List Addr} {B H : Hp}, W B O H → DtAll K B xs ds → DtAll K B ys es → ys.length = xs.length → as.length = xs.length → as.Nodup → (∀ c ∈ as, H c = none) →
    ∃ B', Ex B B' ∧ W B' O (addT H (xs.zip ys) as) ∧ DtAll K B' (as.map V.ref) ((ds.zip es).map pairD)
  | [], ys, ds, es, as, B, H, w, h1, h2, e1, e2, nd, fr => by
    have ea : as = [] := List.eq_nil_of_length_eq_zero e2
    subst ea
    cases h1
    exact ⟨B, Ex.refl _, w, .nil⟩
  | x :: xs, ys, ds, es, as, B, H, w, h1, h2, e1, e2, nd, fr => by
    cases h1 with
    | cons a1 a2 =>
    cases h2 with
    | nil => cases e1
    | cons b1 b2 =>
    cases as with
    | nil => cases e2
    | cons a as =>
      have ha := fr a List.mem_cons_self
      obtain ⟨q1, q2, q3⟩ := pair_new w ha a1 b1
      obtain ⟨B', e', w', d'⟩ := w_addT (as := as) q2 (dps_ex q1 _ _ a2) (dps_ex q1 _ _ b2) (by simpa using e1) (by simpa using e2) (List.nodup_cons.mp nd).2 fun c hc => by
        rw [upd_ne (fun q => (List.nodup_cons.mp nd).1 (by rw [← q]; exact hc))]
        exact fr c (List.mem_cons_of_mem _ hc)
      exact ⟨B', q1.trans e', w', .cons (dp_ex e' _ _ q3) d'⟩
theorem ev_lz {ds es : List PyData} (h : EvA K B O G ta [.list ds, .list es]) (hl : es.length = ds.length) : EvD K B O G (tLZ K ta) (.list ((ds.zip es).map pairD)) := fun B1 O1 σ H e o s Q q =>
  h B1 O1 σ H e o s _ fun vs B2 H2 e2 w2 d2 => by
    cases d2 with
    | cons d3 d4 =>
    cases d4 with
    | cons d5 d6 =>
    cases d6
    obtain ⟨a, xs, rfl, k1, k2⟩ := dp_lst d3
    obtain ⟨b, ys, rfl, k3, k4⟩ := dp_lst d5
    refine ⟨a, b, xs, ys, rfl, .inl (.inl (w2.b _ _ k1)), .inl (.inl (w2.b _ _ k3)), by rw [dps_len k2, dps_len k4, hl], fun as p hal nd fr hp hpn => ?_⟩
    obtain ⟨B', e', w', d'⟩ := w_addT w2 k2 k4 (by rw [dps_len k2, dps_len k4, hl]) hal nd fr
    have hp' : addT H2 (xs.zip ys) as p = none := (addT_off hpn).trans hp
    exact q _ (upd B' p _) _ ((e2.trans e').trans (Ex.new (w'.fb hp'))) (w'.newB hp') (.lst upd_same (dps_ex (Ex.new (w'.fb hp')) _ _ d'))
end
end DL

set_option Elab.async false
set_option linter.all false
set_option maxRecDepth 100000
set_option maxHeartbeats 2000000
/-! any(a tuple of bools); statements that are never reached. -/
namespace L2
open PySem PySem.Spec PyProof.Rows
def rAnyT (K : PySem.W.Frag) : List V → Hp → VK → Prop := fun vs H Q => ∃ (a : Addr) (bs : List Bool), vs = [V.ref a] ∧ SqT K H a (bs.map V.bl) ∧ Q (.bl (bs.any id)) H
theorem cr_anyT (K : PySem.W.Frag) {X : Cx} (hc : X.calm = true) (hK : X.K = K := by rfl) : CallR X (.builtin "any") (rAnyT K) := by
  subst hK
  intro pins s σ H vs us Q I r h
  obtain ⟨a, bs, rfl, hs, q⟩ := h
  obtain ⟨its, rv, tp, _⟩ := I.tuple hs
  rw [Vals.ref1 r]
  have hb := rv.bls
  have ht : s.heap.IsTuple a its.toArray := tp
  have hlt : a < s.heap.objs.size := by obtain ⟨_, e, _⟩ := ht; exact Heap.lt_size e
  refine call_any_walk (wpAny_pyIter_tuple ht ?_)
  refine ⟨_, _, _, _, _, _, _, rfl, Walks.tuple (A := X.A.in1) (I.ok.hd hc) _ a (Nat.ne_of_lt hlt) its.toArray, ⟨⟨_, Heap.get?_push_size _ rfl, rfl, rfl⟩, ht.push _⟩, truth_bools hb, fun h' tk hk => ?_⟩
  have back : ∀ b o, s.heap.get? b = some o → h'.get? b = some o := fun b o e => hk b o (by simpa using Nat.ne_of_lt (Heap.lt_size e)) (Heap.get?_push_of_some _ e)
  have same : ((List.range its.toArray.size).any fun i => bs.getD i false) = bs.any id := by
    rw [← any_range, hb]
    simp
  exact ⟨.bl (bs.any id), H, I.kept back, congrArg Value.bool same, q⟩
/-- what is never reached -/
theorem ps_no {X : Cx} {st : Stmt} : PS X st (fun _ _ _ => False) := ⟨fun _ _ _ _ _ _ h => h.elim⟩
end L2
namespace DL
open PySem PySem.Spec PyProof.Rows L2 StX
theorem rc_anyT {K : PySem.W.Frag} {bs : List Bool} : RC K (rAnyT K) [.tuple (bs.map .bool)] (.bool (bs.any id)) := fun B1 O1 H vs w h Q q => by
  cases h with
  | cons h1 h2 =>
    cases h2
    obtain ⟨a, xs, rfl, k1, k2⟩ := dp_tup h1
    have e := dps_bools k2
    subst e
    exact ⟨a, bs, rfl, st_ex w.b k1, q _ B1 H (Ex.refl _) w (.bl _)⟩
end DL

set_option Elab.async false
set_option linter.all false
set_option maxRecDepth 100000
set_option maxHeartbeats 4000000
namespace Toy
open PySem PySem.Spec PyProof.Rows L2 StX DL

abbrev s_LengthSet_le : Stmt := clsS 23 8
abbrev N_sc_LengthSet_le : List Str := ["self", "other", "ours", "theirs"]
theorem sc_LengthSet_le : FnScope N_sc_LengthSet_le ["self", "other"] (defScope s_LengthSet_le) := ⟨rfl, rfl, rfl, by decide +kernel, rfl, by decide +kernel, by decide +kernel⟩
abbrev s_LengthSet_or : Stmt := clsS 23 9
abbrev N_sc_LengthSet_or : List Str := ["self", "other", "start", "pairs", "ours", "theirs"]
theorem sc_LengthSet_or : FnScope N_sc_LengthSet_or ["self", "other"] (defScope s_LengthSet_or) := ⟨rfl, rfl, rfl, by decide +kernel, rfl, by decide +kernel, by decide +kernel⟩
abbrev s_LengthSet_and : Stmt := clsS 23 10
abbrev N_sc_LengthSet_and : List Str := ["self", "other", "start", "pairs", "ours", "theirs"]
theorem sc_LengthSet_and : FnScope N_sc_LengthSet_and ["self", "other"] (defScope s_LengthSet_and) := ⟨rfl, rfl, rfl, by decide +kernel, rfl, by decide +kernel, by decide +kernel⟩
abbrev s_LengthSet_sub : Stmt := clsS 23 11
abbrev N_sc_LengthSet_sub : List Str := ["self", "other", "start", "pairs", "ours", "theirs"]
theorem sc_LengthSet_sub : FnScope N_sc_LengthSet_sub ["self", "other"] (defScope s_LengthSet_sub) := ⟨rfl, rfl, rfl, by decide +kernel, rfl, by decide +kernel, by decide +kernel⟩
abbrev s_LengthSet_add : Stmt := clsS 23 12
abbrev N_sc_LengthSet_add : List Str := ["self", "other"]
theorem sc_LengthSet_add : FnScope N_sc_LengthSet_add ["self", "other"] (defScope s_LengthSet_add) := ⟨rfl, rfl, rfl, by decide +kernel, rfl, by decide +kernel, by decide +kernel⟩
abbrev s_LengthSet_radd : Stmt := clsS 23 13
abbrev N_sc_LengthSet_radd : List Str := ["self", "other"]
theorem sc_LengthSet_radd : FnScope N_sc_LengthSet_radd ["self", "other"] (defScope s_LengthSet_radd) := ⟨rfl, rfl, rfl, by decide +kernel, rfl, by decide +kernel, by decide +kernel⟩
abbrev s_LengthSet_invert : Stmt := clsS 23 14
abbrev N_sc_LengthSet_invert : List Str := ["self", "mark"]
theorem sc_LengthSet_invert : FnScope N_sc_LengthSet_invert ["self"] (defScope s_LengthSet_invert) := ⟨rfl, rfl, rfl, by decide +kernel, rfl, by decide +kernel, by decide +kernel⟩
abbrev s_LengthSet_bool : Stmt := clsS 23 6
abbrev N_sc_LengthSet_bool : List Str := ["self"]
theorem sc_LengthSet_bool : FnScope N_sc_LengthSet_bool ["self"] (defScope s_LengthSet_bool) := ⟨rfl, rfl, rfl, by decide +kernel, rfl, by decide +kernel, by decide +kernel⟩

def sMax (L M : LS) : Nat := if M.start < L.start then L.start else M.start
def lcmP (L M : LS) : Nat := Nat.lcm L.period M.period
/-- the marks of both, side by side -/
def pairsD (L M : LS) : PyData := .list (((bools (marksTo L (sMax L M) (lcmP L M))).zip (bools (marksTo M (sMax L M) (lcmP L M)))).map DL.pairD)
def pairOut (CT : Addr) (L M : LS) : Out := if 5000 < lcmP L M then .exc CT "limit" "period" else .ret (.tuple [.int (sMax L M : Nat), pairsD L M])
def SpPair (K : PySem.W.Frag) (CT CS : Addr) : Sp := fun vs H Q E => ∃ (B O : Hp) (v u : V) (L M : LS), vs = [v, u] ∧ W B O H ∧ IsLS K CS L B v ∧ IsLS K CS M B u ∧ LOk L ∧ LOk M ∧ OutOk K B O Q E (pairOut CT L M)
theorem sMax_le {L M : LS} : L.start ≤ sMax L M ∧ M.start ≤ sMax L M ∧ (sMax L M = L.start ∨ sMax L M = M.start) := by
  unfold sMax
  split <;> omega
theorem to_len {L : LS} (ok : LOk L) {s p : Nat} (hs : L.start ≤ s) (hd : L.period ∣ p) : (marksTo L s p).length = s + p := by
  obtain ⟨ms, cs, e, h1, h2, _⟩ := to_parts ok hs hd
  rw [e, List.length_append, h1, h2]
section
variable {K : PySem.W.Frag} {B O : Hp} {G : List SD} {ta tb tc : TE} {C CT : Addr} {L M : LS} {E : XK} {σ : L2.St} {H : Hp} {D : Ends} {tz : TS}
theorem ev_marks {s p : Nat} (h1 : EvP K B O G ta (IsLS K C L)) (ok : LOk L) (h2 : EvD K B O G tb (.int (s : Int))) (h3 : EvD K B O G tc (.int (p : Int))) (hs : L.start ≤ s) (s1 : s ≤ 5000) (p1 : p ≤ 5000) :
    EvD K B O G (tCall (SpMarks K C) [] E (tCons ta (tCons tb (tCons tc tNil)))) (.list (bools (marksTo L s p))) := fun B1 O1 σ H e o st Q q =>
  h1 B1 O1 σ H e o st _ fun v B2 H2 e2 w2 i2 => h2 B2 O1 σ H2 (e.trans e2) o (st.ex e2 w2) _ fun v2 B3 H3 e3 w3 d3 => h3 B3 O1 σ H3 ((e.trans e2).trans e3) o (st.ex (e2.trans e3) w3) _ fun v3 B4 H4 e4 w4 d4 => by
    rw [dp_int d3, dp_int d4]
    exact ⟨B4, O1, v, L, s, p, rfl, w4, i2.ex (e3.trans e4), ok, hs, s1, p1, fun u B' H' e' w' d' => q u B' H' (((e2.trans e3).trans e4).trans e') w' d'⟩
/-- a call of a def of two sets that may raise, as a value of data -/
theorem ev_paired (h1 : EvP K B O G ta (IsLS K C L)) (h2 : EvP K B O G tb (IsLS K C M)) (okL : LOk L) (okM : LOk M) (hp : lcmP L M ≤ 5000) :
    EvD K B O G (tCall (SpPair K CT C) [] E (tCons ta (tCons tb tNil))) (.tuple [.int (sMax L M : Nat), pairsD L M]) := fun B1 O1 σ H e o st Q q =>
  h1 B1 O1 σ H e o st _ fun v B2 H2 e2 w2 i2 => h2 B2 O1 σ H2 (e.trans e2) o (st.ex e2 w2) _ fun u B3 H3 e3 w3 i3 => by
    refine ⟨B3, O1, v, u, L, M, rfl, w3, i2.ex e3, i3, okL, okM, ?_⟩
    unfold pairOut
    rw [if_neg (by omega)]
    exact fun z B' H' e' w' d' => q z B' H' ((e2.trans e3).trans e') w' d'
/-- i, j = paired(..) -/
theorem q_paired {i j : Nat} (st : Sta K B O G σ H) (h1 : EvP K B O G ta (IsLS K C L)) (h2 : EvP K B O G tb (IsLS K C M)) (okL : LOk L) (okM : LOk M)
    (k1 : ¬ 5000 < lcmP L M → ∀ σ' B' H', Ex B B' → Sta K B' O ((G.set i (.dat (.int (sMax L M : Nat)))).set j (.dat (pairsD L M))) σ' H' → tz D σ' H')
    (k2 : 5000 < lcmP L M → ∀ p B' H', Ex B B' → W B' O H' → B' p = some (.xd [("limit", .str "period")]) → E (.ref CT) (some p) H') :
    tSeq (tAsg (tCall (SpPair K CT C) [] E (tCons ta (tCons tb tNil))) (gTup K 2 (gCons (gName i) (gCons (gName j) gNil)))) tz D σ H :=
  h1 B O σ H (Ex.refl _) (Ex.refl _) st _ fun v B2 H2 e2 w2 i2 => h2 B2 O σ H2 e2 (Ex.refl _) (st.ex e2 w2) _ fun u B3 H3 e3 w3 i3 => by
    refine ⟨B3, O, v, u, L, M, rfl, w3, i2.ex e3, i3, okL, okM, ?_⟩
    unfold pairOut
    by_cases hb : 5000 < lcmP L M
    · rw [if_pos hb]
      exact fun p B' H' e' w' d' => k2 hb p B' H' ((e2.trans e3).trans e') w' d'
    · rw [if_neg hb]
      intro z B' H' e' w' d'
      exact eg_pair (a := .int (sMax L M : Nat)) (b := pairsD L M) B' O σ H' z (st.ex ((e2.trans e3).trans e') w') d' _ fun σ' s' _ => k1 hb σ' B' H' ((e2.trans e3).trans e') s'
theorem ev_setof {ms cs : List Bool} (h1 : EvD K B O G ta (.list (bools (ms ++ cs)))) (h2 : EvD K B O G tb (.int (ms.length : Int))) (l1 : ms.length ≤ 5000) (l2 : 1 ≤ cs.length) (l3 : cs.length ≤ 5000) :
    EvP K B O G (tCall (SpSetOf K C) [] E (tCons ta (tCons tb tNil))) (IsLS K C (lsB ms cs)) := fun B1 O1 σ H e o st Q q =>
  h1 B1 O1 σ H e o st _ fun v B2 H2 e2 w2 d2 => h2 B2 O1 σ H2 (e.trans e2) o (st.ex e2 w2) _ fun v2 B3 H3 e3 w3 d3 => by
    rw [dp_int d3]
    exact ⟨B3, O1, v, ms, cs, rfl, w3, dp_ex e3 _ _ d2, l1, l2, l3, fun u B' H' e' w' p' => q u B' H' ((e2.trans e3).trans e') w' p'⟩
/-- a comprehension over the pairs -/
theorem ev_two {f : Bool → Bool → Bool} {te : TE} {wi : TI} {i j : Nat} {a b : List Bool} (hij : i ≠ j) (hI : EvI K B O G wi (((bools a).zip (bools b)).map DL.pairD)) (hl : a.length ≤ 100000) (he : ∀ x y : Bool, EvD K B O (((wipeG G [i, j]).set i (.dat (.bool x))).set j (.dat (.bool y))) te (.bool (f x y))) :
    EvD K B O G (tLc wi (gTup K 2 (gCons (gName i) (gCons (gName j) gNil))) tYes te [i, j]) (.list (bools (List.zipWith f a b))) := by
  have e1 : ((bools a).zip (bools b)).map DL.pairD = (a.zip b).map fun p => PyData.tuple [.bool p.1, .bool p.2] := by
    unfold bools
    rw [List.zip_map, List.map_map]
    rfl
  have e2 : bools (List.zipWith f a b) = (a.zip b).map fun p => PyData.bool (f p.1 p.2) := by
    unfold bools
    rw [← List.map_uncurry_zip_eq_zipWith, List.map_map]
    rfl
  rw [e1] at hI
  rw [e2]
  exact ev_map (a.zip b) _ (fun p => PyData.bool (f p.1 p.2)) (fun p => ((wipeG G [i, j]).set i (.dat (.bool p.1))).set j (.dat (.bool p.2))) hI (by rw [List.length_zip]; omega) (fun p _ => eg_pairW (by simp) (by simp)) (fun p _ => he p.1 p.2)
theorem ev_isiNot (S : SetC K mg C) (I : SetI K C) (hn : PySem.W.subIn K (.ref C) (.type "int") = some false) (h : EvP K B O G ta (IsLS K C L)) : EvD K B O G (tCB (rIsi K) (tCons ta (tCons (tC (.ty "int")) tNil))) (.bool false) := fun B1 O1 σ H e1 o s Q q =>
  h B1 O1 σ H e1 o s _ fun v B2 H2 e2 w2 ⟨x, dx, fs, cv, mv, ev, h2, _⟩ => by
    subst ev
    refine ⟨.ref x, .ty "int", .ref C, .type "int", false, rfl, .ty _, .base (.ins (w2.b _ _ h2) S.cls I.ca I.cn I.ct I.cm), ?_, q _ B2 H2 e2 w2 (.bl false)⟩
    unfold PySem.W.kitOne
    rw [if_neg (by simp)]
    show (if PySem.W.kitMeta "int" = true then PySem.W.subIn K (.ref C) (.type "int") else none) = some false
    rw [if_pos (by decide +kernel)]
    exact hn
end

section
variable {P : Program} {w : World} {K : PySem.W.Frag} {mg : Str → Option Value} {base : Heap}


theorem ok_paired {f CT CS : Addr} {fd : FuncData} (T : Txt K mg) (Tz : mg "zip" = none) (S : SetC K mg CS) (Er_TooLarge : ErrC P w K mg base "TooLarge" CT "limit")
    (C_common_multiple : Cal P w K mg base 2 "common_multiple" ["one", "two"] (SpR K R_cm)) (C_marks_of : Cal P w K mg base 2 "marks_of" ["lengths", "start", "period"] (SpMarks K CS))
    (a : At K mg "paired" s_paired ["one", "two"] f fd) : FnOk P w K mg base (L2.CX P w) 6 f fd ["one", "two"] (SpPair K CT CS) := by
  refine a.fn.okX sc_paired (fun vs H Q E h => ?_) (fun cdv A outer s0 H vs Q E hr h => ?_)
  · obtain ⟨B, O, v, u, L, M, rfl, _⟩ := h
    rfl
  obtain ⟨B, O, v, u, L, M, rfl, hw, hL, hM, okL, okM, q⟩ := h
  obtain ⟨tkM, gM⟩ := T.g_MOST
  refine ⟨_, (pss_cons (ps_set (i := 2) sc_paired.nd rfl (Or.inl rfl) (pe_cal C_common_multiple hr (by omega) (by rfl) (pa_cons (pe_fldK K (pv 0) rfl) (pa_cons (pe_fldK K (pv 1) rfl) pa_nil))))
    (pss_cons (ps_if (pt_cmpR op_gt (pv 2) (pe_glob (v := .int 5000) (by rfl) gM ⟨_, rfl⟩) (nomark _)) (pss_one (ps_raiseE rfl Er_TooLarge hr (by omega) (takes_of rfl rfl rfl rfl) pe_str (by rfl))) pss_nil)
    (pss_cons (ps_set (i := 3) sc_paired.nd rfl (Or.inl rfl) (pe_ifExp (pt_cmpR op_gt (pe_fldK K (pv 0) rfl) (pe_fldK K (pv 1) rfl) (nomark _)) (pe_fldK K (pv 0) rfl) (pe_fldK K (pv 1) rfl)))
    (pss_one (ps_ret (pe_tup (pa_cons (pv 3) (pa_cons (pe_lz hr.hd (by rfl) T.b_list (by rfl) Tz (pa_cons (pe_cal C_marks_of hr (by omega) (by rfl) (pa_cons (pv 0) (pa_cons (pv 3) (pa_cons (pv 2) pa_nil)))) (pa_cons (pe_cal C_marks_of hr (by omega) (by rfl) (pa_cons (pv 1) (pa_cons (pv 3) (pa_cons (pv 2) pa_nil)))) pa_nil))) pa_nil)))))))), ?_⟩
  have st : Sta K B O [.val v, .val u, .un, .un] (L2.start N_sc_paired [v, u]) H := ⟨hw, ⟨rfl, rfl, trivial, trivial, trivial⟩⟩
  have pL := okL.p
  have pM := okM.p
  have sL := okL.s
  have sM := okM.s
  have l1 : 1 ≤ lcmP L M := Nat.lcm_pos (by omega) (by omega)
  refine q_asg st (d := .int (lcmP L M : Nat)) (ev_call (ea_cons (f_period S (ev_ls rfl hL)) (ea_cons (f_period S (ev_ls rfl hM)) ea_nil)) ⟨L.period, M.period, by omega, by omega, by omega, by omega, rfl, rfl⟩) fun v2 B2 H2 x2 d2 st => ?_
  have hL2 := hL.ex x2
  have hM2 := hM.ex x2
  unfold pairOut at q
  refine q_when st (et_test (ev_op (ev_var rfl) ev_int rd_B0)) (fun h1 B3 H3 x3 st => ?_) (fun h1 B3 H3 x3 st => ?_)
  · have h1' : 5000 < lcmP L M := by have := of_decide_eq_true h1; omega
    rw [if_pos h1'] at q
    exact s_raise st ev_str fun pp B4 H4 x4 w4 hp => q pp B4 H4 ((x2.trans x3).trans x4) w4 hp
  have h1' : ¬ 5000 < lcmP L M := by have := of_decide_eq_false h1; omega
  rw [if_neg h1'] at q
  have hL3 := hL2.ex x3
  have hM3 := hM2.ex x3
  obtain ⟨m1, m2, m3⟩ := sMax_le (L := L) (M := M)
  refine q_asg st (d := .int (sMax L M : Nat)) (ev_if (b := decide ((M.start : Int) < (L.start : Int))) (et_test (ev_op (f_start S (ev_ls rfl hL3)) (f_start S (ev_ls rfl hM3)) rd_B0)) (fun hb => ev_is (f_start S (ev_ls rfl hL3)) ?_) (fun hb => ev_is (f_start S (ev_ls rfl hM3)) ?_)) fun v4 B4 H4 x4 d4 st => ?_
  · have := of_decide_eq_true hb
    unfold sMax
    rw [if_pos (by omega)]
  · have := of_decide_eq_false hb
    unfold sMax
    rw [if_neg (by omega)]
  have hL4 := hL3.ex x4
  have hM4 := hM3.ex x4
  refine s_ret st (ev_tup (ea_cons (ev_var rfl) (ea_cons (ev_lz (ea_cons (ev_marks (s := sMax L M) (p := lcmP L M) (ev_ls rfl hL4) okL (ev_var rfl) (ev_var rfl) m1 (by omega) (by omega)) (ea_cons (ev_marks (s := sMax L M) (p := lcmP L M) (ev_ls rfl hM4) okM (ev_var rfl) (ev_var rfl) m2 (by omega) (by omega)) ea_nil)) ?_) ea_nil)) (by simp)) fun v5 B5 H5 x5 w5 d5 => ?_
  · rw [bools_len, bools_len, to_len okL m1 (show L.period ∣ lcmP L M from Nat.dvd_lcm_left _ _), to_len okM m2 (show M.period ∣ lcmP L M from Nat.dvd_lcm_right _ _)]
  · exact q v5 B5 H5 (((x2.trans x3).trans x4).trans x5) w5 d5
end

end Toy
set_option Elab.async false
set_option linter.all false
set_option maxRecDepth 100000
set_option maxHeartbeats 4000000
namespace Toy
open PySem PySem.Spec PyProof.Rows L2 StX DL


theorem MkOkV.imp {K : PySem.W.Frag} {B B1 O : Hp} {CS : Addr} {Q : VK} {E : XK} {o : MkOut} (h : MkOkV K B O CS Q E o) (e : Ex B B1) : MkOkV K B1 O CS Q E o := by
  cases o with
  | ok L => exact fun v B' H' e' => h v B' H' (e.trans e')
  | exc C f y => exact fun p B' H' e' => h p B' H' (e.trans e')
/-- what a set operator makes of two sets -/
def binL (f : Bool → Bool → Bool) (L M : LS) : LS := lsB (List.zipWith f ((marksTo L (sMax L M) (lcmP L M)).take (sMax L M)) ((marksTo M (sMax L M) (lcmP L M)).take (sMax L M))) (List.zipWith f ((marksTo L (sMax L M) (lcmP L M)).drop (sMax L M)) ((marksTo M (sMax L M) (lcmP L M)).drop (sMax L M)))
def binOut (CT : Addr) (f : Bool → Bool → Bool) (L M : LS) : MkOut := if 5000 < lcmP L M then .exc CT "limit" "period" else .ok (binL f L M)
def SpBin (K : PySem.W.Frag) (CT CS : Addr) (f : Bool → Bool → Bool) : Sp := fun vs H Q E => ∃ (B O : Hp) (v u : V) (L M : LS), vs = [v, u] ∧ W B O H ∧ IsLS K CS L B v ∧ IsLS K CS M B u ∧ LOk L ∧ LOk M ∧ MkOkV K B O CS Q E (binOut CT f L M)
/-- the marks of both in two halves -/
theorem halves {L M : LS} (okL : LOk L) (okM : LOk M) : ∃ ms cs ms' cs', marksTo L (sMax L M) (lcmP L M) = ms ++ cs ∧ marksTo M (sMax L M) (lcmP L M) = ms' ++ cs' ∧ ms.length = sMax L M ∧ ms'.length = sMax L M ∧ cs.length = lcmP L M ∧ cs'.length = lcmP L M ∧
    (∀ f, binL f L M = lsB (List.zipWith f ms ms') (List.zipWith f cs cs')) ∧ (∀ i, hasN ms cs i = hasN L.marks L.cycle i) ∧ ∀ i, hasN ms' cs' i = hasN M.marks M.cycle i := by
  have pL := okL.p
  have pM := okM.p
  have l1 : 1 ≤ lcmP L M := Nat.lcm_pos (by omega) (by omega)
  obtain ⟨m1, m2, m3⟩ := sMax_le (L := L) (M := M)
  obtain ⟨ms, cs, e, a1, a2, a3⟩ := to_parts okL m1 (show L.period ∣ lcmP L M from Nat.dvd_lcm_left _ _)
  obtain ⟨ms', cs', e', b1, b2, b3⟩ := to_parts okM m2 (show M.period ∣ lcmP L M from Nat.dvd_lcm_right _ _)
  refine ⟨ms, cs, ms', cs', e, e', a1, b1, a2, b2, fun f => ?_, fun i => a3 i l1, fun i => b3 i l1⟩
  unfold binL
  rw [e, e', ← a1]
  rw [show ms.length = ms'.length by omega, List.take_left' (by omega), List.take_left' rfl, List.drop_left' (by omega), List.drop_left' rfl]
theorem lcm_le {a b : Nat} : Nat.lcm a b ≤ a * b := by
  unfold Nat.lcm
  exact Nat.div_le_self _ _
theorem is_bin {f : Bool → Bool → Bool} {h h' : Nat → Bool} {s p s' p' : Nat} {L M : LS} (a : Is h s p L) (b : Is h' s' p' M) (hp : p * p' ≤ 5000) (hs : s ≤ 5000) (hs' : s' ≤ 5000) : lcmP L M ≤ 5000 ∧ Is (fun i => f (h i) (h' i)) (max s s') (p * p') (binL f L M) := by
  have okL := a.n.ok
  have okM := b.n.ok
  have pL := okL.p
  have pM := okM.p
  have l0 : lcmP L M ≤ p * p' := Nat.le_trans lcm_le (Nat.mul_le_mul a.p b.p)
  have l1 : 1 ≤ lcmP L M := Nat.lcm_pos (by omega) (by omega)
  obtain ⟨m1, m2, m3⟩ := sMax_le (L := L) (M := M)
  have sL := a.s
  have sM := b.s
  obtain ⟨ms, cs, ms', cs', _, _, a1, b1, a2, b2, e, k1, k2⟩ := halves okL okM
  have z := is_B (ms := List.zipWith f ms ms') (cs := List.zipWith f cs cs') (by rw [List.length_zipWith]; omega) (by rw [List.length_zipWith]; omega) (by rw [List.length_zipWith]; omega)
  refine ⟨by omega, ?_⟩
  rw [e f]
  refine ⟨z.n, fun i => ?_, ?_, ?_⟩
  · rw [z.m i, has_zip (by omega) (by omega) (by omega), k1, k2, a.m i, b.m i]
  · have := z.s
    rw [List.length_zipWith] at this
    omega
  · have := z.p
    rw [List.length_zipWith] at this
    omega
/-- is the one a part of the other -/
def leB (L M : LS) : Bool := (List.zipWith (fun a b => b || !a) (marksTo L (sMax L M) (lcmP L M)) (marksTo M (sMax L M) (lcmP L M))).all id
theorem all_get : ∀ {l : List Bool}, l.all id = true ↔ ∀ i, i < l.length → l.getD i false = true := fun {l} => by
  rw [List.all_eq_true]
  constructor
  · intro h i hi
    rw [List.getD_eq_getElem?_getD, List.getElem?_eq_getElem hi]
    exact h _ (List.getElem_mem hi)
  · intro h x hx
    obtain ⟨i, hi, e⟩ := List.getElem_of_mem hx
    have := h i hi
    rw [List.getD_eq_getElem?_getD, List.getElem?_eq_getElem hi] at this
    rw [← e]
    exact this
theorem le_iff {h h' : Nat → Bool} {s p s' p' : Nat} {L M : LS} (a : Is h s p L) (b : Is h' s' p' M) (hs : max s s' + p * p' ≤ 60) : leB L M = true ↔ ∀ i, i < 60 → h i = true → h' i = true := by
  have okL := a.n.ok
  have okM := b.n.ok
  have pL := okL.p
  have pM := okM.p
  have l0 : lcmP L M ≤ p * p' := Nat.le_trans lcm_le (Nat.mul_le_mul a.p b.p)
  have l1 : 1 ≤ lcmP L M := Nat.lcm_pos (by omega) (by omega)
  obtain ⟨m1, m2, m3⟩ := sMax_le (L := L) (M := M)
  have sL := a.s
  have sM := b.s
  obtain ⟨ms, cs, ms', cs', e1, e2, a1, b1, a2, b2, _, k1, k2⟩ := halves okL okM
  unfold leB
  rw [e1, e2, List.zipWith_append (by omega), all_get, List.length_append, List.length_zipWith, List.length_zipWith]
  have zl : (List.zipWith (fun a b => b || !a) ms ms').length = sMax L M := by rw [List.length_zipWith]; omega
  constructor
  · intro hall i hi hh
    rw [← a.m i, ← k1 i] at hh
    rw [← b.m i, ← k2 i]
    unfold hasN at hh ⊢
    by_cases hlt : i < sMax L M
    · rw [if_pos (by omega)] at hh ⊢
      have := hall i (by omega)
      rw [List.getD_eq_getElem?_getD, List.getElem?_append_left (by omega), ← List.getD_eq_getElem?_getD, zw_get (by omega) (by omega), hh] at this
      simpa using this
    · rw [if_neg (by omega)] at hh ⊢
      have hm : i % cs.length < cs.length := Nat.mod_lt _ (by omega)
      have := hall (sMax L M + i % cs.length) (by omega)
      rw [List.getD_eq_getElem?_getD, List.getElem?_append_right (by omega), zl, Nat.add_sub_cancel_left, ← List.getD_eq_getElem?_getD, zw_get hm (by omega), hh] at this
      rw [show cs'.length = cs.length by omega]
      simpa using this
  · intro hall j hj
    by_cases hlt : j < sMax L M
    · rw [List.getD_eq_getElem?_getD, List.getElem?_append_left (by omega), ← List.getD_eq_getElem?_getD, zw_get (by omega) (by omega)]
      have q := hall j (by omega)
      rw [← a.m j, ← k1 j, ← b.m j, ← k2 j] at q
      unfold hasN at q
      rw [if_pos (by omega), if_pos (by omega)] at q
      cases hm : ms.getD j false with
      | false => simp
      | true => rw [q hm]; rfl
    · rw [List.getD_eq_getElem?_getD, List.getElem?_append_right (by omega), zl, ← List.getD_eq_getElem?_getD, zw_get (by omega) (by omega)]
      -- a number at or above the start with this rest
      obtain ⟨n, n1, n2, n3⟩ : ∃ n, sMax L M ≤ n ∧ n < sMax L M + lcmP L M ∧ n % lcmP L M = j - sMax L M := by
        have hr : j - sMax L M < lcmP L M := by omega
        have hd := Nat.mod_add_div (sMax L M) (lcmP L M)
        have hm := Nat.mod_lt (sMax L M) (show 0 < lcmP L M by omega)
        by_cases hc : sMax L M % lcmP L M ≤ j - sMax L M
        · refine ⟨(j - sMax L M) + lcmP L M * (sMax L M / lcmP L M), by omega, by omega, ?_⟩
          rw [Nat.add_mul_mod_self_left, Nat.mod_eq_of_lt hr]
        · refine ⟨(j - sMax L M) + lcmP L M * (sMax L M / lcmP L M + 1), ?_, ?_, ?_⟩
          · rw [Nat.mul_add, Nat.mul_one]
            omega
          · rw [Nat.mul_add, Nat.mul_one]
            omega
          · rw [Nat.add_mul_mod_self_left, Nat.mod_eq_of_lt hr]
      have q := hall n (by omega)
      rw [← a.m n, ← k1 n, ← b.m n, ← k2 n] at q
      unfold hasN at q
      rw [if_neg (by omega), if_neg (by omega), a2, b2, n3] at q
      cases hm : cs.getD (j - sMax L M) false with
      | false => simp
      | true => rw [q hm]; rfl
/-- the others -/
def notL (L : LS) : LS := lsB (L.marks.map not) (L.cycle.map not)
theorem is_not {h : Nat → Bool} {s p : Nat} {L : LS} (a : Is h s p L) : Is (fun i => !h i) s p (notL L) := by
  have ok := a.n.ok
  have hp := ok.p
  have hs := ok.s
  have z := is_B (ms := L.marks.map not) (cs := L.cycle.map not) (by rw [List.length_map, ok.m]; omega) (by rw [List.length_map, ok.c]; omega) (by rw [List.length_map, ok.c]; omega)
  refine ⟨z.n, fun i => ?_, ?_, ?_⟩
  · rw [show notL L = lsB (L.marks.map not) (L.cycle.map not) from rfl, z.m i, has_not (by rw [ok.c]; omega), a.m i]
  · have := z.s
    rw [List.length_map, ok.m] at this
    exact Nat.le_trans this a.s
  · have := z.p
    rw [List.length_map, ok.c] at this
    exact Nat.le_trans this a.p
/-- has it a member -/
def anyB (L : LS) : Bool := L.marks.any id || L.cycle.any id
theorem any_get {l : List Bool} : l.any id = true ↔ ∃ i, i < l.length ∧ l.getD i false = true := by
  rw [List.any_eq_true]
  constructor
  · rintro ⟨x, hx, e⟩
    obtain ⟨i, hi, e2⟩ := List.getElem_of_mem hx
    refine ⟨i, hi, ?_⟩
    rw [List.getD_eq_getElem?_getD, List.getElem?_eq_getElem hi]
    show l[i] = true
    rw [e2]
    exact e
  · rintro ⟨i, hi, e⟩
    rw [List.getD_eq_getElem?_getD, List.getElem?_eq_getElem hi] at e
    exact ⟨l[i], List.getElem_mem hi, e⟩
theorem any_iff {h : Nat → Bool} {s p : Nat} {L : LS} (a : Is h s p L) (hs : s + p ≤ 60) : anyB L = true ↔ ∃ i, i < 60 ∧ h i = true := by
  have ok := a.n.ok
  have hp := ok.p
  have as := a.s
  have ap := a.p
  unfold anyB
  rw [Bool.or_eq_true, any_get, any_get, ok.m, ok.c]
  constructor
  · rintro (⟨i, hi, e⟩ | ⟨r, hr, e⟩)
    · refine ⟨i, by omega, ?_⟩
      rw [← a.m i]
      unfold hasN
      rw [if_pos (by rw [ok.m]; exact hi)]
      exact e
    · obtain ⟨n, n1, n2, n3⟩ : ∃ n, L.start ≤ n ∧ n < L.start + L.period ∧ n % L.period = r := by
        have hd := Nat.mod_add_div L.start L.period
        have hm := Nat.mod_lt L.start (show 0 < L.period by omega)
        by_cases hc : L.start % L.period ≤ r
        · refine ⟨r + L.period * (L.start / L.period), by omega, by omega, ?_⟩
          rw [Nat.add_mul_mod_self_left, Nat.mod_eq_of_lt hr]
        · refine ⟨r + L.period * (L.start / L.period + 1), ?_, ?_, ?_⟩
          · rw [Nat.mul_add, Nat.mul_one]
            omega
          · rw [Nat.mul_add, Nat.mul_one]
            omega
          · rw [Nat.add_mul_mod_self_left, Nat.mod_eq_of_lt hr]
      refine ⟨n, by omega, ?_⟩
      rw [← a.m n, has_late ok n1, n3]
      exact e
  · rintro ⟨i, hi, e⟩
    rw [← a.m i] at e
    unfold hasN at e
    rw [ok.m, ok.c] at e
    split at e
    · exact .inl ⟨i, by assumption, e⟩
    · exact .inr ⟨i % L.period, Nat.mod_lt _ (by omega), e⟩
theorem contains_up {es : List Int} {m i : Nat} : (es.map (· + (m : Int))).contains (i : Int) = es.contains ((i : Int) - m) := by
  rw [Bool.eq_iff_iff, List.contains_iff_mem, List.contains_iff_mem, List.mem_map]
  constructor
  · rintro ⟨x, hx, e⟩
    have : x = (i : Int) - m := by omega
    rw [← this]
    exact hx
  · intro hx
    exact ⟨_, hx, by omega⟩
theorem turned_get {L : LS} {m : Int} {r : Nat} (hr : r < L.period) : (turned L m).getD r false = L.cycle.getD (((r : Int) - m) % (L.period : Int)).toNat false := map_range_get (f := fun r => L.cycle.getD (((r : Int) - m) % (L.period : Int)).toNat false) hr
theorem is_up {h : Nat → Bool} {s p m : Nat} {L : LS} (a : Is h s p L) (hm : L.start + m ≤ 5000) : Is (fun i => decide (m ≤ i) && h (i - m)) (s + m) p (lsOf ((idx L.marks).map (· + (m : Int))) ((L.start : Int) + m) L.period (idx (turned L m))) := by
  have ok := a.n.ok
  have hp := ok.p
  have as := a.s
  have ap := a.p
  obtain ⟨z1, z2, z3, _, z4⟩ := nrm_of (es := (idx L.marks).map (· + (m : Int))) (rs := idx (turned L m)) (n := (L.start : Int) + m) (k := L.period) (by omega) (by omega) (by omega) (by omega)
  refine ⟨z1, fun i => ?_, by omega, by omega⟩
  rw [z4 i, marks_idx (bs := turned L m) (by rw [turned_len])]
  unfold hasN
  rw [marks_len, turned_len, show (((L.start : Int) + m).toNat) = L.start + m by omega]
  by_cases hlt : i < L.start + m
  · rw [if_pos hlt, marks_get (by omega), contains_up]
    by_cases hm' : m ≤ i
    · have e : (i : Int) - m = ((i - m : Nat) : Int) := by omega
      rw [e, idx_mem (by rw [ok.m]; omega), decide_eq_true hm', Bool.true_and, ← a.m (i - m)]
      unfold hasN
      rw [if_pos (by rw [ok.m]; omega)]
    · rw [decide_eq_false hm', Bool.false_and, Bool.eq_false_iff]
      intro hc
      have := (rise_idx (bs := L.marks)).2 _ (List.contains_iff_mem.mp hc)
      omega
  · have hlt' := Nat.mod_lt i (show 0 < L.period by omega)
    rw [if_neg hlt, turned_get hlt', decide_eq_true (show m ≤ i by omega), Bool.true_and, ← a.m (i - m), has_late ok (by omega)]
    congr 1
    have e : ((i % L.period : Nat) : Int) - m = (i : Int) % L.period - m := by rw [Int.natCast_emod]
    rw [e, Int.emod_sub_emod]
    have e2 : (i : Int) - m = ((i - m : Nat) : Int) := by omega
    rw [e2, ← Int.natCast_emod, Int.toNat_natCast]
theorem is_down {h : Nat → Bool} {s p m : Nat} {L : LS} (a : Is h s p L) : Is (fun i => h (i + m)) s p (lsOf (idx (downs L m)) ((((L.start : Int) - m).toNat : Nat) : Int) L.period (idx (turned L (-(m : Int))))) := by
  have ok := a.n.ok
  have hp := ok.p
  have as := a.s
  have ap := a.p
  have hs := ok.s
  obtain ⟨z1, z2, z3, _, z4⟩ := nrm_of (es := idx (downs L m)) (rs := idx (turned L (-(m : Int)))) (n := ((((L.start : Int) - m).toNat : Nat) : Int)) (k := L.period) (by omega) (by omega) (by omega) (by omega)
  refine ⟨z1, fun i => ?_, by omega, by omega⟩
  rw [z4 i, marks_idx (bs := turned L (-(m : Int))) (by rw [turned_len]), marks_idx (bs := downs L m) (by rw [downs_len])]
  unfold hasN
  rw [downs_len, turned_len, ← a.m (i + m)]
  by_cases hlt : i < ((L.start : Int) - m).toNat
  · rw [if_pos hlt]
    unfold downs
    rw [map_range_get (f := fun i => hasL L (.int ((i : Int) + m))) hlt, show ((i : Int) + m) = ((i + m : Nat) : Int) by omega, hasL_nat ok]
  · have hlt' := Nat.mod_lt i (show 0 < L.period by omega)
    rw [if_neg hlt, turned_get hlt', has_late ok (by omega)]
    congr 1
    have e : ((i % L.period : Nat) : Int) - -(m : Int) = (i : Int) % L.period - -(m : Int) := by rw [Int.natCast_emod]
    rw [e, Int.emod_sub_emod]
    have e2 : (i : Int) - -(m : Int) = ((i + m : Nat) : Int) := by omega
    rw [e2, ← Int.natCast_emod, Int.toNat_natCast]

end Toy
set_option Elab.async false
set_option linter.all false
set_option maxRecDepth 100000
set_option maxHeartbeats 4000000
namespace Toy
open PySem PySem.Spec PyProof.Rows L2 StX DL


def SpIsI (K : PySem.W.Frag) (C : Addr) : Sp := fun vs H Q _ => ∃ (B O : Hp) (v : V) (L : LS), vs = [v] ∧ W B O H ∧ IsLS K C L B v ∧ ∀ B' H', Ex B B' → W B' O H' → Q (.bl false) H'
/-- a def of a set and a whole number that may raise -/
def SpOp1 (K : PySem.W.Frag) (CS : Addr) (out : LS → Int → MkOut) : Sp := fun vs H Q E => ∃ (B O : Hp) (v : V) (L : LS) (m : Int), vs = [v, .int m] ∧ W B O H ∧ IsLS K CS L B v ∧ LOk L ∧ MkOkV K B O CS Q E (out L m)
def SpLe (K : PySem.W.Frag) (CS : Addr) : Sp := fun vs H Q _ => ∃ (B O : Hp) (v u : V) (L M : LS), vs = [v, u] ∧ W B O H ∧ IsLS K CS L B v ∧ IsLS K CS M B u ∧ LOk L ∧ LOk M ∧ lcmP L M ≤ 5000 ∧ ∀ B' H', Ex B B' → W B' O H' → Q (.bl (leB L M)) H'
def SpNot (K : PySem.W.Frag) (CS : Addr) : Sp := fun vs H Q _ => ∃ (B O : Hp) (v : V) (L : LS), vs = [v] ∧ W B O H ∧ IsLS K CS L B v ∧ LOk L ∧ ∀ u B' H', Ex B B' → W B' O H' → IsLS K CS (notL L) B' u → Q u H'
def SpAny (K : PySem.W.Frag) (CS : Addr) : Sp := fun vs H Q _ => ∃ (B O : Hp) (v : V) (L : LS), vs = [v] ∧ W B O H ∧ IsLS K CS L B v ∧ LOk L ∧ ∀ B' H', Ex B B' → W B' O H' → Q (.bl (anyB L)) H'
section
variable {K : PySem.W.Frag} {B O : Hp} {G : List SD} {ta tb tc : TE} {C CT : Addr} {L M : LS} {E : XK} {σ : L2.St} {H : Hp} {D : Ends} {tz : TS} {out : LS → Int → MkOut} {m : Int}
theorem s_retOp (st : Sta K B O G σ H) (h1 : EvP K B O G ta (IsLS K C L)) (ok : LOk L) (h2 : EvD K B O G tb (.int m)) (q : MkOkV K B O C D.rt E (out L m)) : tRet (tCall (SpOp1 K C out) [] E (tCons ta (tCons tb tNil))) D σ H :=
  h1 B O σ H (Ex.refl _) (Ex.refl _) st _ fun v B2 H2 e2 w2 i2 => h2 B2 O σ H2 e2 (Ex.refl _) (st.ex e2 w2) _ fun u B3 H3 e3 w3 d3 => by
    rw [dp_int d3]
    exact ⟨B3, O, v, L, m, rfl, w3, i2.ex e3, ok, q.imp (e2.trans e3)⟩
theorem ev_isS (h1 : EvP K B O G ta (IsLS K C L)) : EvD K B O G (tCall (SpIsI K C) [] E (tCons ta tNil)) (.bool false) := fun B1 O1 σ H e o st Q q =>
  h1 B1 O1 σ H e o st _ fun v B2 H2 e2 w2 i2 => ⟨B2, O1, v, L, rfl, w2, i2, fun B' H' e' w' => q _ B' H' (e2.trans e') w' (.bl _)⟩
end

section
variable {P : Program} {w : World} {K : PySem.W.Frag} {mg : Str → Option Value} {base : Heap}


theorem ok_or {f CT CS : Addr} {fd : FuncData} (T : Txt K mg) (S : SetC K mg CS) (I : SetI K CS)
    (C_paired : CalE P w K mg base 6 "paired" ["one", "two"] (SpPair K CT CS)) (C_set_of : Cal P w K mg base 10 "set_of" ["marks", "start"] (SpSetOf K CS))
    (F : Fun K "__or__" "LengthSet.__or__" s_LengthSet_or f fd) : FnOk P w K mg base (L2.CX P w) 12 f fd ["self", "other"] (SpBin K CT CS (· || ·)) := by
  refine F.okX sc_LengthSet_or (fun vs H Q E h => ?_) (fun cdv A outer s0 H vs Q E hr h => ?_)
  · obtain ⟨B, O, v, u, L, M, rfl, _⟩ := h
    rfl
  obtain ⟨B, O, v, u, L, M, rfl, hw, hL, hM, okL, okM, q⟩ := h
  refine ⟨_, (pss_cons (ps_if (pt_not (pt_val (pe_callB (call_isiK' K) (by rfl) T.b_isinstance (by decide +kernel) (pa_cons (pv 1) (pa_cons (pe_glob (v := .ref CS) (by rfl) S.g rfl) pa_nil))))) (pss_one ps_no) pss_nil)
    (pss_cons (ps_asg (pe_calE C_paired hr (by omega) (by rfl) (takes_of rfl rfl rfl rfl) (pa_cons (pv 0) (pa_cons (pv 1) pa_nil))) (pg_tupK K (n := 2) (by rfl) (pgs_cons (pg_name (i := 2) sc_LengthSet_or.nd rfl (Or.inl rfl)) (pgs_cons (pg_name (i := 3) sc_LengthSet_or.nd rfl (Or.inl rfl)) pgs_nil))))
    (pss_one (ps_ret (pe_cal C_set_of hr (by omega) (by rfl) (pa_cons (pe_lc (own := [("ours", 4), ("theirs", 5)]) (by rfl) sc_LengthSet_or.nd (pi_listK K (pv 3)) (blkOk_by (own := [("ours", 4), ("theirs", 5)]) (N := N_sc_LengthSet_or) (sc := defScope s_LengthSet_or) (by decide +kernel)) (fun _ _ _ _ _ => (pg_tupK K (n := 2) (by rfl) (pgs_cons (pg_name (i := 4) sc_LengthSet_or.nd rfl (Or.inl rfl)) (pgs_cons (pg_name (i := 5) sc_LengthSet_or.nd rfl (Or.inl rfl)) pgs_nil)))) (fun _ _ _ _ _ => pts_nil) (fun _ _ _ _ _ => (pe_or (pv 4) (pe_one (pv 5))))) (pa_cons (pv 2) pa_nil))))))), ?_⟩
  have st : Sta K B O [.val v, .val u, .un, .un, .un, .un] (L2.start N_sc_LengthSet_or [v, u]) H := ⟨hw, ⟨rfl, rfl, trivial, trivial, trivial, trivial, trivial⟩⟩
  obtain ⟨m1, m2, m3⟩ := sMax_le (L := L) (M := M)
  have sL := okL.s
  have sM := okM.s
  unfold binOut at q
  refine q_whenF st (et_is (et_not (et_test (ev_isiOwn S I (ev_ls rfl hM)))) rfl) fun B1 H1 x1 st => ?_
  have hL1 := hL.ex x1
  have hM1 := hM.ex x1
  refine q_paired st (ev_ls rfl hL1) (ev_ls rfl hM1) okL okM (fun hb σ' B2 H2 x2 st => ?_) (fun hb p B2 H2 x2 w2 hp => ?_)
  · rw [if_neg hb] at q
    obtain ⟨ms, cs, ms', cs', e1, e2, a1, b1, a2, b2, e, _, _⟩ := halves okL okM
    have pL := okL.p
    have pM := okM.p
    have l1 : 1 ≤ lcmP L M := Nat.lcm_pos (by omega) (by omega)
    have zl : (List.zipWith (· || ·) ms ms').length = sMax L M := by rw [List.length_zipWith]; omega
    have zc : (List.zipWith (· || ·) cs cs').length = lcmP L M := by rw [List.length_zipWith]; omega
    refine s_retP st (ev_setof (ms := List.zipWith (· || ·) ms ms') (cs := List.zipWith (· || ·) cs cs') (ev_is (ev_two (f := (· || ·)) (a := marksTo L (sMax L M) (lcmP L M)) (b := marksTo M (sMax L M) (lcmP L M)) (by decide) (ei_list (ev_var rfl)) ?_ (fun x y => ev_orV (ev_var rfl) fun _ => ev_var rfl)) ?_) (ev_is (ev_var rfl) (by rw [zl])) (by omega) (by omega) (by omega)) fun z B3 H3 x3 w3 p3 => ?_
    · rw [e1, List.length_append]
      omega
    · rw [e1, e2, List.zipWith_append (by omega)]
    · rw [← e (· || ·)] at p3
      exact q z B3 H3 ((x1.trans x2).trans x3) w3 p3
  · rw [if_pos hb] at q
    exact q p B2 H2 (x1.trans x2) w2 hp


theorem ok_and {f CT CS : Addr} {fd : FuncData} (T : Txt K mg) (S : SetC K mg CS) (I : SetI K CS)
    (C_paired : CalE P w K mg base 6 "paired" ["one", "two"] (SpPair K CT CS)) (C_set_of : Cal P w K mg base 10 "set_of" ["marks", "start"] (SpSetOf K CS))
    (F : Fun K "__and__" "LengthSet.__and__" s_LengthSet_and f fd) : FnOk P w K mg base (L2.CX P w) 12 f fd ["self", "other"] (SpBin K CT CS (· && ·)) := by
  refine F.okX sc_LengthSet_and (fun vs H Q E h => ?_) (fun cdv A outer s0 H vs Q E hr h => ?_)
  · obtain ⟨B, O, v, u, L, M, rfl, _⟩ := h
    rfl
  obtain ⟨B, O, v, u, L, M, rfl, hw, hL, hM, okL, okM, q⟩ := h
  refine ⟨_, (pss_cons (ps_if (pt_not (pt_val (pe_callB (call_isiK' K) (by rfl) T.b_isinstance (by decide +kernel) (pa_cons (pv 1) (pa_cons (pe_glob (v := .ref CS) (by rfl) S.g rfl) pa_nil))))) (pss_one ps_no) pss_nil)
    (pss_cons (ps_asg (pe_calE C_paired hr (by omega) (by rfl) (takes_of rfl rfl rfl rfl) (pa_cons (pv 0) (pa_cons (pv 1) pa_nil))) (pg_tupK K (n := 2) (by rfl) (pgs_cons (pg_name (i := 2) sc_LengthSet_and.nd rfl (Or.inl rfl)) (pgs_cons (pg_name (i := 3) sc_LengthSet_and.nd rfl (Or.inl rfl)) pgs_nil))))
    (pss_one (ps_ret (pe_cal C_set_of hr (by omega) (by rfl) (pa_cons (pe_lc (own := [("ours", 4), ("theirs", 5)]) (by rfl) sc_LengthSet_and.nd (pi_listK K (pv 3)) (blkOk_by (own := [("ours", 4), ("theirs", 5)]) (N := N_sc_LengthSet_and) (sc := defScope s_LengthSet_and) (by decide +kernel)) (fun _ _ _ _ _ => (pg_tupK K (n := 2) (by rfl) (pgs_cons (pg_name (i := 4) sc_LengthSet_and.nd rfl (Or.inl rfl)) (pgs_cons (pg_name (i := 5) sc_LengthSet_and.nd rfl (Or.inl rfl)) pgs_nil)))) (fun _ _ _ _ _ => pts_nil) (fun _ _ _ _ _ => (pe_and (pv 4) (pe_one (pv 5))))) (pa_cons (pv 2) pa_nil))))))), ?_⟩
  have st : Sta K B O [.val v, .val u, .un, .un, .un, .un] (L2.start N_sc_LengthSet_and [v, u]) H := ⟨hw, ⟨rfl, rfl, trivial, trivial, trivial, trivial, trivial⟩⟩
  obtain ⟨m1, m2, m3⟩ := sMax_le (L := L) (M := M)
  have sL := okL.s
  have sM := okM.s
  unfold binOut at q
  refine q_whenF st (et_is (et_not (et_test (ev_isiOwn S I (ev_ls rfl hM)))) rfl) fun B1 H1 x1 st => ?_
  have hL1 := hL.ex x1
  have hM1 := hM.ex x1
  refine q_paired st (ev_ls rfl hL1) (ev_ls rfl hM1) okL okM (fun hb σ' B2 H2 x2 st => ?_) (fun hb p B2 H2 x2 w2 hp => ?_)
  · rw [if_neg hb] at q
    obtain ⟨ms, cs, ms', cs', e1, e2, a1, b1, a2, b2, e, _, _⟩ := halves okL okM
    have pL := okL.p
    have pM := okM.p
    have l1 : 1 ≤ lcmP L M := Nat.lcm_pos (by omega) (by omega)
    have zl : (List.zipWith (· && ·) ms ms').length = sMax L M := by rw [List.length_zipWith]; omega
    have zc : (List.zipWith (· && ·) cs cs').length = lcmP L M := by rw [List.length_zipWith]; omega
    refine s_retP st (ev_setof (ms := List.zipWith (· && ·) ms ms') (cs := List.zipWith (· && ·) cs cs') (ev_is (ev_two (f := (· && ·)) (a := marksTo L (sMax L M) (lcmP L M)) (b := marksTo M (sMax L M) (lcmP L M)) (by decide) (ei_list (ev_var rfl)) ?_ (fun x y => ev_andV (ev_var rfl) fun _ => ev_var rfl)) ?_) (ev_is (ev_var rfl) (by rw [zl])) (by omega) (by omega) (by omega)) fun z B3 H3 x3 w3 p3 => ?_
    · rw [e1, List.length_append]
      omega
    · rw [e1, e2, List.zipWith_append (by omega)]
    · rw [← e (· && ·)] at p3
      exact q z B3 H3 ((x1.trans x2).trans x3) w3 p3
  · rw [if_pos hb] at q
    exact q p B2 H2 (x1.trans x2) w2 hp


theorem ok_sub {f CN CT CS : Addr} {fd : FuncData} (T : Txt K mg) (S : SetC K mg CS) (I : SetI K CS) (C_lowered : CalE P w K mg base 10 "lowered" ["lengths", "many"] (SpDown K CN CS)) (C_is_integer : Cal P w K mg base 2 "is_integer" ["value"] (SpIsI K CS))
    (C_paired : CalE P w K mg base 6 "paired" ["one", "two"] (SpPair K CT CS)) (C_set_of : Cal P w K mg base 10 "set_of" ["marks", "start"] (SpSetOf K CS))
    (F : Fun K "__sub__" "LengthSet.__sub__" s_LengthSet_sub f fd) : FnOk P w K mg base (L2.CX P w) 12 f fd ["self", "other"] (SpBin K CT CS (fun a b => a && !b)) := by
  refine F.okX sc_LengthSet_sub (fun vs H Q E h => ?_) (fun cdv A outer s0 H vs Q E hr h => ?_)
  · obtain ⟨B, O, v, u, L, M, rfl, _⟩ := h
    rfl
  obtain ⟨B, O, v, u, L, M, rfl, hw, hL, hM, okL, okM, q⟩ := h
  refine ⟨_, (pss_cons (ps_if (pt_val (pe_cal C_is_integer hr (by omega) (by rfl) (pa_cons (pv 1) pa_nil))) (pss_one (ps_ret (pe_calE C_lowered hr (by omega) (by rfl) (takes_of rfl rfl rfl rfl) (pa_cons (pv 0) (pa_cons (pv 1) pa_nil))))) pss_nil)
    (pss_cons (ps_if (pt_not (pt_val (pe_callB (call_isiK' K) (by rfl) T.b_isinstance (by decide +kernel) (pa_cons (pv 1) (pa_cons (pe_glob (v := .ref CS) (by rfl) S.g rfl) pa_nil))))) (pss_one ps_no) pss_nil)
    (pss_cons (ps_asg (pe_calE C_paired hr (by omega) (by rfl) (takes_of rfl rfl rfl rfl) (pa_cons (pv 0) (pa_cons (pv 1) pa_nil))) (pg_tupK K (n := 2) (by rfl) (pgs_cons (pg_name (i := 2) sc_LengthSet_sub.nd rfl (Or.inl rfl)) (pgs_cons (pg_name (i := 3) sc_LengthSet_sub.nd rfl (Or.inl rfl)) pgs_nil))))
    (pss_one (ps_ret (pe_cal C_set_of hr (by omega) (by rfl) (pa_cons (pe_lc (own := [("ours", 4), ("theirs", 5)]) (by rfl) sc_LengthSet_sub.nd (pi_listK K (pv 3)) (blkOk_by (own := [("ours", 4), ("theirs", 5)]) (N := N_sc_LengthSet_sub) (sc := defScope s_LengthSet_sub) (by decide +kernel)) (fun _ _ _ _ _ => (pg_tupK K (n := 2) (by rfl) (pgs_cons (pg_name (i := 4) sc_LengthSet_sub.nd rfl (Or.inl rfl)) (pgs_cons (pg_name (i := 5) sc_LengthSet_sub.nd rfl (Or.inl rfl)) pgs_nil)))) (fun _ _ _ _ _ => pts_nil) (fun _ _ _ _ _ => (pe_and (pv 4) (pe_one (pe_not (pv 5)))))) (pa_cons (pv 2) pa_nil)))))))), ?_⟩
  have st : Sta K B O [.val v, .val u, .un, .un, .un, .un] (L2.start N_sc_LengthSet_sub [v, u]) H := ⟨hw, ⟨rfl, rfl, trivial, trivial, trivial, trivial, trivial⟩⟩
  obtain ⟨m1, m2, m3⟩ := sMax_le (L := L) (M := M)
  have sL := okL.s
  have sM := okM.s
  unfold binOut at q
  refine q_whenF st (et_test (ev_isS (ev_ls rfl hM))) fun B0 H0 x0 st => ?_
  refine q_whenF st (et_is (et_not (et_test (ev_isiOwn S I (ev_ls rfl (hM.ex x0))))) rfl) fun B1 H1 x1 st => ?_
  have hL1 := hL.ex (x0.trans x1)
  have hM1 := hM.ex (x0.trans x1)
  refine q_paired st (ev_ls rfl hL1) (ev_ls rfl hM1) okL okM (fun hb σ' B2 H2 x2 st => ?_) (fun hb p B2 H2 x2 w2 hp => ?_)
  · rw [if_neg hb] at q
    obtain ⟨ms, cs, ms', cs', e1, e2, a1, b1, a2, b2, e, _, _⟩ := halves okL okM
    have pL := okL.p
    have pM := okM.p
    have l1 : 1 ≤ lcmP L M := Nat.lcm_pos (by omega) (by omega)
    have zl : (List.zipWith (fun a b => a && !b) ms ms').length = sMax L M := by rw [List.length_zipWith]; omega
    have zc : (List.zipWith (fun a b => a && !b) cs cs').length = lcmP L M := by rw [List.length_zipWith]; omega
    refine s_retP st (ev_setof (ms := List.zipWith (fun a b => a && !b) ms ms') (cs := List.zipWith (fun a b => a && !b) cs cs') (ev_is (ev_two (f := (fun a b => a && !b)) (a := marksTo L (sMax L M) (lcmP L M)) (b := marksTo M (sMax L M) (lcmP L M)) (by decide) (ei_list (ev_var rfl)) ?_ (fun x y => ev_andV (ev_var rfl) fun _ => ev_notV (ev_var rfl))) ?_) (ev_is (ev_var rfl) (by rw [zl])) (by omega) (by omega) (by omega)) fun z B3 H3 x3 w3 p3 => ?_
    · rw [e1, List.length_append]
      omega
    · rw [e1, e2, List.zipWith_append (by omega)]
    · rw [← e (fun a b => a && !b)] at p3
      exact q z B3 H3 ((x0.trans x1).trans (x2.trans x3)) w3 p3
  · rw [if_pos hb] at q
    exact q p B2 H2 (x0.trans (x1.trans x2)) w2 hp


theorem ok_is_integerS {f CS : Addr} {fd : FuncData} (T : Txt K mg) (S : SetC K mg CS) (I : SetI K CS) (hn : PySem.W.subIn K (.ref CS) (.type "int") = some false) (a : At K mg "is_integer" s_is_integer ["value"] f fd) : FnOk P w K mg base CX0 2 f fd ["value"] (SpIsI K CS) := by
  refine a.fn.ok sc_is_integer (fun vs H Q E h => ?_) (fun cdv A outer s0 H vs Q E hr h => ?_)
  · obtain ⟨B, O, v, L, rfl, _⟩ := h
    rfl
  obtain ⟨B, O, v, L, rfl, hw, hL, q⟩ := h
  refine ⟨_, (pss_one (ps_ret (pe_and (pe_callB (call_isiK' K) (by rfl) T.b_isinstance (by decide +kernel) (pa_cons (pv 0) (pa_cons (pe_bltn (v := .ty "int") (by rfl) T.b_int (by decide +kernel) rfl) pa_nil))) (pe_one (pe_not (pe_callB (call_isiK' K) (by rfl) T.b_isinstance (by decide +kernel) (pa_cons (pv 0) (pa_cons (pe_bltn (v := .ty "bool") (by rfl) T.b_bool (by decide +kernel) rfl) pa_nil)))))))), ?_⟩
  have st : Sta K B O [.val v] (L2.start N_sc_is_integer [v]) H := ⟨hw, ⟨rfl, trivial⟩⟩
  refine s_ret st (ev_andV (a := false) (b := false) (ev_isiNot S I hn (ev_ls rfl hL)) (fun z => Bool.noConfusion z)) fun z B2 H2 x2 w2 d2 => ?_
  rw [dp_bool d2]
  exact q B2 H2 x2 w2
theorem ok_subI {f CN CT CS : Addr} {fd : FuncData} (T : Txt K mg) (S : SetC K mg CS)
    (C_paired : CalE P w K mg base 6 "paired" ["one", "two"] (SpPair K CT CS)) (C_set_of : Cal P w K mg base 10 "set_of" ["marks", "start"] (SpSetOf K CS))
    (C_lowered : CalE P w K mg base 10 "lowered" ["lengths", "many"] (SpDown K CN CS)) (C_is_integer : Cal P w K mg base 2 "is_integer" ["value"] (SpR K R_isint))
    (F : Fun K "__sub__" "LengthSet.__sub__" s_LengthSet_sub f fd) : FnOk P w K mg base (L2.CX P w) 12 f fd ["self", "other"] (SpOp1 K CS (dnOut CN)) := by
  refine F.okX sc_LengthSet_sub (fun vs H Q E h => ?_) (fun cdv A outer s0 H vs Q E hr h => ?_)
  · obtain ⟨B, O, v, L, m, rfl, _⟩ := h
    rfl
  obtain ⟨B, O, v, L, m, rfl, hw, hL, ok, q⟩ := h
  refine ⟨_, (pss_cons (ps_if (pt_val (pe_cal C_is_integer hr (by omega) (by rfl) (pa_cons (pv 1) pa_nil))) (pss_one (ps_ret (pe_calE C_lowered hr (by omega) (by rfl) (takes_of rfl rfl rfl rfl) (pa_cons (pv 0) (pa_cons (pv 1) pa_nil))))) pss_nil)
    (pss_cons (ps_if (pt_not (pt_val (pe_callB (call_isiK' K) (by rfl) T.b_isinstance (by decide +kernel) (pa_cons (pv 1) (pa_cons (pe_glob (v := .ref CS) (by rfl) S.g rfl) pa_nil))))) (pss_one ps_no) pss_nil)
    (pss_cons (ps_asg (pe_calE C_paired hr (by omega) (by rfl) (takes_of rfl rfl rfl rfl) (pa_cons (pv 0) (pa_cons (pv 1) pa_nil))) (pg_tupK K (n := 2) (by rfl) (pgs_cons (pg_name (i := 2) sc_LengthSet_sub.nd rfl (Or.inl rfl)) (pgs_cons (pg_name (i := 3) sc_LengthSet_sub.nd rfl (Or.inl rfl)) pgs_nil))))
    (pss_one (ps_ret (pe_cal C_set_of hr (by omega) (by rfl) (pa_cons (pe_lc (own := [("ours", 4), ("theirs", 5)]) (by rfl) sc_LengthSet_sub.nd (pi_listK K (pv 3)) (blkOk_by (own := [("ours", 4), ("theirs", 5)]) (N := N_sc_LengthSet_sub) (sc := defScope s_LengthSet_sub) (by decide +kernel)) (fun _ _ _ _ _ => (pg_tupK K (n := 2) (by rfl) (pgs_cons (pg_name (i := 4) sc_LengthSet_sub.nd rfl (Or.inl rfl)) (pgs_cons (pg_name (i := 5) sc_LengthSet_sub.nd rfl (Or.inl rfl)) pgs_nil)))) (fun _ _ _ _ _ => pts_nil) (fun _ _ _ _ _ => (pe_and (pv 4) (pe_one (pe_not (pv 5)))))) (pa_cons (pv 2) pa_nil)))))))), ?_⟩
  have st : Sta K B O [.val v, .dat (.int m), .un, .un, .un, .un] (L2.start N_sc_LengthSet_sub [v, .int m]) H := ⟨hw, ⟨rfl, ⟨_, rfl, .int _⟩, trivial, trivial, trivial, trivial, trivial⟩⟩
  refine q_whenT st (et_test (ev_call (d := .bool true) (ea_cons (ev_var rfl) ea_nil) ⟨.int m, rfl, rfl⟩)) fun B1 H1 x1 st => ?_
  exact s_retOp (out := dnOut CN) st (ev_ls rfl (hL.ex x1)) ok (ev_var rfl) (q.imp x1)


theorem ok_add {f CN CT CS : Addr} {fd : FuncData} (T : Txt K mg) (S : SetC K mg CS)
    (C_raised : CalE P w K mg base 10 "raised" ["lengths", "many"] (SpUp K CN CT CS)) (C_is_integer : Cal P w K mg base 2 "is_integer" ["value"] (SpR K R_isint))
    (F : Fun K "__add__" "LengthSet.__add__" s_LengthSet_add f fd) : FnOk P w K mg base (L2.CX P w) 12 f fd ["self", "other"] (SpOp1 K CS (upOut CN CT)) := by
  refine F.okX sc_LengthSet_add (fun vs H Q E h => ?_) (fun cdv A outer s0 H vs Q E hr h => ?_)
  · obtain ⟨B, O, v, L, m, rfl, _⟩ := h
    rfl
  obtain ⟨B, O, v, L, m, rfl, hw, hL, ok, q⟩ := h
  refine ⟨_, (pss_cons (ps_if (pt_not (pt_val (pe_cal C_is_integer hr (by omega) (by rfl) (pa_cons (pv 1) pa_nil)))) (pss_one ps_no) pss_nil)
    (pss_one (ps_ret (pe_calE C_raised hr (by omega) (by rfl) (takes_of rfl rfl rfl rfl) (pa_cons (pv 0) (pa_cons (pv 1) pa_nil)))))), ?_⟩
  have st : Sta K B O [.val v, .dat (.int m)] (L2.start N_sc_LengthSet_add [v, .int m]) H := ⟨hw, ⟨rfl, ⟨_, rfl, .int _⟩, trivial⟩⟩
  refine q_whenF st (et_is (et_not (et_test (ev_call (d := .bool true) (ea_cons (ev_var rfl) ea_nil) ⟨.int m, rfl, rfl⟩))) rfl) fun B1 H1 x1 st => ?_
  exact s_retOp (out := upOut CN CT) st (ev_ls rfl (hL.ex x1)) ok (ev_var rfl) (q.imp x1)


theorem ok_radd {f CN CT CS : Addr} {fd : FuncData} (T : Txt K mg) (S : SetC K mg CS)
    (C_raised : CalE P w K mg base 10 "raised" ["lengths", "many"] (SpUp K CN CT CS)) (C_is_integer : Cal P w K mg base 2 "is_integer" ["value"] (SpR K R_isint))
    (F : Fun K "__radd__" "LengthSet.__radd__" s_LengthSet_radd f fd) : FnOk P w K mg base (L2.CX P w) 12 f fd ["self", "other"] (SpOp1 K CS (upOut CN CT)) := by
  refine F.okX sc_LengthSet_radd (fun vs H Q E h => ?_) (fun cdv A outer s0 H vs Q E hr h => ?_)
  · obtain ⟨B, O, v, L, m, rfl, _⟩ := h
    rfl
  obtain ⟨B, O, v, L, m, rfl, hw, hL, ok, q⟩ := h
  refine ⟨_, (pss_cons (ps_if (pt_not (pt_val (pe_cal C_is_integer hr (by omega) (by rfl) (pa_cons (pv 1) pa_nil)))) (pss_one ps_no) pss_nil)
    (pss_one (ps_ret (pe_calE C_raised hr (by omega) (by rfl) (takes_of rfl rfl rfl rfl) (pa_cons (pv 0) (pa_cons (pv 1) pa_nil)))))), ?_⟩
  have st : Sta K B O [.val v, .dat (.int m)] (L2.start N_sc_LengthSet_radd [v, .int m]) H := ⟨hw, ⟨rfl, ⟨_, rfl, .int _⟩, trivial⟩⟩
  refine q_whenF st (et_is (et_not (et_test (ev_call (d := .bool true) (ea_cons (ev_var rfl) ea_nil) ⟨.int m, rfl, rfl⟩))) rfl) fun B1 H1 x1 st => ?_
  exact s_retOp (out := upOut CN CT) st (ev_ls rfl (hL.ex x1)) ok (ev_var rfl) (q.imp x1)


theorem ok_le {f CT CS : Addr} {fd : FuncData} (T : Txt K mg) (Tall : mg "all" = none) (S : SetC K mg CS) (I : SetI K CS)
    (C_paired : CalE P w K mg base 6 "paired" ["one", "two"] (SpPair K CT CS))
    (F : Fun K "__le__" "LengthSet.__le__" s_LengthSet_le f fd) : FnOk P w K mg base (L2.CX P w) 12 f fd ["self", "other"] (SpLe K CS) := by
  refine F.okX sc_LengthSet_le (fun vs H Q E h => ?_) (fun cdv A outer s0 H vs Q E hr h => ?_)
  · obtain ⟨B, O, v, u, L, M, rfl, _⟩ := h
    rfl
  obtain ⟨B, O, v, u, L, M, rfl, hw, hL, hM, okL, okM, hp, q⟩ := h
  refine ⟨_, (pss_cons (ps_if (pt_not (pt_val (pe_callB (call_isiK' K) (by rfl) T.b_isinstance (by decide +kernel) (pa_cons (pv 1) (pa_cons (pe_glob (v := .ref CS) (by rfl) S.g rfl) pa_nil))))) (pss_one ps_no) pss_nil)
    (pss_one (ps_ret (pe_callB (cr_allK K rfl) (by rfl) Tall (by decide +kernel) (pa_cons (pe_lc (own := [("ours", 2), ("theirs", 3)]) (by rfl) sc_LengthSet_le.nd (pi_listK K (pe_ix (ix_tupK K) (pe_calE C_paired hr (by omega) (by rfl) (takes_of rfl rfl rfl rfl) (pa_cons (pv 0) (pa_cons (pv 1) pa_nil))) pe_int (fun _ _ => rfl))) (blkOk_by (own := [("ours", 2), ("theirs", 3)]) (N := N_sc_LengthSet_le) (sc := defScope s_LengthSet_le) (by decide +kernel)) (fun _ _ _ _ _ => (pg_tupK K (n := 2) (by rfl) (pgs_cons (pg_name (i := 2) sc_LengthSet_le.nd rfl (Or.inl rfl)) (pgs_cons (pg_name (i := 3) sc_LengthSet_le.nd rfl (Or.inl rfl)) pgs_nil)))) (fun _ _ _ _ _ => pts_nil) (fun _ _ _ _ _ => (pe_or (pv 3) (pe_one (pe_not (pv 2)))))) pa_nil))))), ?_⟩
  have st : Sta K B O [.val v, .val u, .un, .un] (L2.start N_sc_LengthSet_le [v, u]) H := ⟨hw, ⟨rfl, rfl, trivial, trivial, trivial⟩⟩
  obtain ⟨m1, m2, m3⟩ := sMax_le (L := L) (M := M)
  have sL := okL.s
  have sM := okM.s
  refine q_whenF st (et_is (et_not (et_test (ev_isiOwn S I (ev_ls rfl hM)))) rfl) fun B1 H1 x1 st => ?_
  have hL1 := hL.ex x1
  have hM1 := hM.ex x1
  refine s_ret st (d := .bool (leB L M)) (ev_cb (ea_cons (ev_two (f := fun a b => b || !a) (a := marksTo L (sMax L M) (lcmP L M)) (b := marksTo M (sMax L M) (lcmP L M)) (by decide) (ei_list (ev_op (ev_paired (ev_ls rfl hL1) (ev_ls rfl hM1) okL okM hp) ev_int (rd_ixT at1))) ?_ (fun x y => ev_orV (ev_var rfl) fun _ => ev_notV (ev_var rfl))) ea_nil) rc_all) fun z B2 H2 x2 w2 d2 => ?_
  · rw [to_len okL m1 (show L.period ∣ lcmP L M from Nat.dvd_lcm_left _ _)]
    omega
  · rw [dp_bool d2]
    exact q B2 H2 (x1.trans x2) w2
theorem ok_invert {f CS : Addr} {fd : FuncData} (T : Txt K mg) (S : SetC K mg CS) (C_set_of : Cal P w K mg base 10 "set_of" ["marks", "start"] (SpSetOf K CS))
    (F : Fun K "__invert__" "LengthSet.__invert__" s_LengthSet_invert f fd) : FnOk P w K mg base CX0 12 f fd ["self"] (SpNot K CS) := by
  refine F.ok sc_LengthSet_invert (fun vs H Q E h => ?_) (fun cdv A outer s0 H vs Q E hr h => ?_)
  · obtain ⟨B, O, v, L, rfl, _⟩ := h
    rfl
  obtain ⟨B, O, v, L, rfl, hw, hL, ok, q⟩ := h
  refine ⟨_, (pss_one (ps_ret (pe_cal C_set_of hr (by omega) (by rfl) (pa_cons (pe_lc (own := [("mark", 1)]) (by rfl) sc_LengthSet_invert.nd (pi_tupK K (pe_op (op_catAK K) (pe_fldK K (pv 0) rfl) (pe_fldK K (pv 0) rfl))) (blkOk_by (own := [("mark", 1)]) (N := N_sc_LengthSet_invert) (sc := defScope s_LengthSet_invert) (by decide +kernel)) (fun _ _ _ _ _ => (pg_name (i := 1) sc_LengthSet_invert.nd rfl (Or.inl rfl))) (fun _ _ _ _ _ => pts_nil) (fun _ _ _ _ _ => (pe_not (pv 1)))) (pa_cons (pe_fldK K (pv 0) rfl) pa_nil))))), ?_⟩
  have st : Sta K B O [.val v, .un] (L2.start N_sc_LengthSet_invert [v]) H := ⟨hw, ⟨rfl, trivial, trivial⟩⟩
  have hp := ok.p
  have hs := ok.s
  have e2 : ((L.marks ++ L.cycle).map fun b => PyData.bool (!b)) = bools (L.marks.map not ++ L.cycle.map not) := by
    unfold bools
    rw [← List.map_append, List.map_map]
    rfl
  refine s_retP st (ev_setof (ms := L.marks.map not) (cs := L.cycle.map not) (ev_is (ev_map (L.marks ++ L.cycle) (fun b => .bool b) (fun b => .bool (!b)) (fun b => _) (ei_tup (ev_is (ev_op (f_marks S (ev_ls rfl hL)) (f_cycle S (ev_ls rfl hL)) (rd_catT ?_)) ?_)) ?_ (fun b _ => eg_nameW (by decide)) (fun b _ => ev_notV (ev_var rfl))) (by rw [e2])) (ev_is (f_start S (ev_ls rfl hL)) ?_) ?_ ?_ ?_) fun z B2 H2 x2 w2 p2 => q z B2 H2 x2 w2 p2
  · rw [bools_len, bools_len, ok.m, ok.c]
    omega
  · unfold bools
    rw [List.map_append]
  · rw [List.length_append, ok.m, ok.c]
    omega
  · rw [List.length_map, ok.m]
  · rw [List.length_map, ok.m]
    omega
  · rw [List.length_map, ok.c]
    omega
  · rw [List.length_map, ok.c]
    omega
theorem ok_bool {f CS : Addr} {fd : FuncData} (T : Txt K mg) (Tany : mg "any" = none) (S : SetC K mg CS)
    (F : Fun K "__bool__" "LengthSet.__bool__" s_LengthSet_bool f fd) : FnOk P w K mg base CX0 4 f fd ["self"] (SpAny K CS) := by
  refine F.ok sc_LengthSet_bool (fun vs H Q E h => ?_) (fun cdv A outer s0 H vs Q E hr h => ?_)
  · obtain ⟨B, O, v, L, rfl, _⟩ := h
    rfl
  obtain ⟨B, O, v, L, rfl, hw, hL, ok, q⟩ := h
  refine ⟨_, (pss_one (ps_ret (pe_or (pe_callB (cr_anyT K rfl) (by rfl) Tany (by decide +kernel) (pa_cons (pe_fldK K (pv 0) rfl) pa_nil)) (pe_one (pe_callB (cr_anyT K rfl) (by rfl) Tany (by decide +kernel) (pa_cons (pe_fldK K (pv 0) rfl) pa_nil)))))), ?_⟩
  have st : Sta K B O [.val v] (L2.start N_sc_LengthSet_bool [v]) H := ⟨hw, ⟨rfl, trivial⟩⟩
  refine s_ret st (ev_orV (a := L.marks.any id) (b := L.cycle.any id) (ev_cb (ea_cons (f_marks S (ev_ls rfl hL)) ea_nil) rc_anyT) fun _ => ev_cb (ea_cons (f_cycle S (ev_ls rfl hL)) ea_nil) rc_anyT) fun z B2 H2 x2 w2 d2 => ?_
  rw [dp_bool d2]
  exact q B2 H2 x2 w2
end

end Toy
set_option Elab.async false
set_option linter.all false
set_option maxRecDepth 100000
set_option maxHeartbeats 2000000
/-! ~x of an own class; x op n with a whole number. -/
namespace L2
open PySem PySem.Spec PyProof.Rows
section
variable {X : Cx} {CX : CXT} {n : Nat} {C f : Addr} {fd : FuncData} {ps : List Str} {sp : Sp} {E : XK}
/-- ~x -/
def rInvOwn (C : Addr) (sp : Sp) (E : XK) : V → Hp → VK → Prop := fun x H Q => ∃ a dx fs, x = .ref a ∧ H a = some (.ins C dx fs) ∧ sp [x] H Q E
theorem un_invOwn (F : FnOk X.prog X.w X.K X.mg X.base CX n f fd ps sp) (hb : Binds X.K fd ps []) (hx : Passes CX X E) (hr : Room n X.A) (hs : PySem.W.findIn X.K (.ref C) "__invert__" = some (some (.ref f))) (hf : PySem.W.isFn X.K (.ref f) = true) :
    UnR X (unaryOp .Invert) (rInvOwn C sp E) := by
  rintro pins s σ H x v Q I rx ⟨a, dx, fs, rfl, ha, q⟩
  cases (show v = Value.ref a from rx)
  obtain ⟨mA, obj, _⟩ := ins_get I.hok ha
  obtain ⟨od, at_, _⟩ := obj.look
  obtain ⟨m, hF⟩ := I.fr
  exact PySem.W.ksp_inv hF I.ok.mod.kin at_ hs hf (run_own F hb hx hr rfl I (us := [.ref a]) (vs := [.ref a]) (.cons rfl .nil) q)
/-- x op i, i a whole number -/
def rBinInt (C : Addr) (sp : Sp) (E : XK) : R2 := fun x y H Q => ∃ a dx fs i, x = .ref a ∧ y = .int i ∧ H a = some (.ins C dx fs) ∧ sp [x, y] H Q E
theorem op_binInt {op : Operator} {fo ro rc : Option Value} (hc : PySem.W.selfFirst X.K C = true) (hs : PySem.W.findIn X.K (.ref C) (PySem.dunder op.info.2) = some (some (.ref f))) (hf : PySem.W.isFn X.K (.ref f) = true)
    (hrr : PySem.W.findIn X.K (.ref C) (dunderR op.info.2) = some rc) (hp : rc = none ∨ ∃ g : Addr, rc = some (.ref g)) (h1 : PySem.W.findIn X.K (.type "int") (PySem.dunder op.info.2) = some fo) (h2 : PySem.W.findIn X.K (.type "int") (dunderR op.info.2) = some ro)
    (hsub : PySem.W.subIn X.K (.type "int") (.ref C) = some false) (F : FnOk X.prog X.w X.K X.mg X.base CX n f fd ps sp) (hb : Binds X.K fd ps []) (hr : Room n X.A) (hx : Passes CX X E) : OpR X (binaryOp op) (rBinInt C sp E) := by
  rintro pins s σ H x y v u Q I rx ry ⟨a, dx, fs, i, rfl, rfl, ha, q⟩
  cases (show v = Value.ref a from rx)
  obtain ⟨t, rfl⟩ := (show ∃ t, u = Value.int i t from ry)
  obtain ⟨mA, obj, _⟩ := ins_get I.hok ha
  obtain ⟨od, at_, _⟩ := obj.look
  obtain ⟨m, hF⟩ := I.fr
  refine PySem.W.ksp_binT hF I.ok.mod.kin at_ (T := "int") rfl hc hs hf hrr hp h1 h2 hsub ?_
  refine wpAny_mono (run_own F hb hx hr rfl I (us := [.ref a, .int i t]) (vs := [.ref a, .int i]) (.cons rfl (.cons ⟨t, rfl⟩ .nil)) q) (fun w s' got => ?_) fun _ _ err => err
  obtain ⟨z, H', I', rz, qz⟩ := got
  exact SlX.cmpback rz ⟨z, H', I', rz, qz⟩
end
end L2

set_option Elab.async false
set_option linter.all false
set_option maxRecDepth 100000
set_option maxHeartbeats 2000000
/-! n + x with a whole number and an own class; x += n by the own __add__; bool(x) by the own __bool__. -/
namespace OWN
open PySem PySem.Spec PyProof.Rows PySem.W
open AutoSeq1 (wpAny_loadPart')
section
variable {M : Model} {prog : Program} {w : World} {A : Around} {E : Value → Shared → Prop} {s : Shared} {K : PySem.W.Frag} {x C f g dx L : Addr} {ox : Obj} {od : Option Obj} {h₀ : Heap} {m : Str → Option Value} {nm T : String}
/-- int.__add__ does not know an instance -/
theorem int_add_own {i : Int} {t : Tok} {Q : Value → Shared → Prop} (there : s.heap.get? x = some (PySem.W.instObj C dx)) (q : Q .notImplemented s) :
    wpAny M A (Builtin.«int.__add__» ⟨[.int i t, .ref x], []⟩) (fun r s' => ∃ v, r = .done (.ret v) ∧ Q v s') E s := by
  obtain ⟨hp, gn, dr, tk, os⟩ := s
  wp_walk using wpAny_load' there, wpAny_loadPart' there
  exact ⟨_, rfl, q⟩
/-- the own in-place slot is empty -/
theorem no_iown {hp : Heap} {cd : ClassData} {add : Bool} (X : K.In hp) (hc : PySem.W.clsIn K C = some cd) (hm : cd.mro = [.ref C, .type "object"]) (h1 : PySem.W.findIn K (.ref C) (dunderI nm) = some none) (h2 : PySem.W.findIn K (.type "object") (dunderI nm) = some none) :
    PySem.W.Looks M hp (fillsInplaceSlot (.ref C) nm add) false := by
  intro A Q E s k q
  have along : PySem.W.Looks M hp (mroOf (.ref C)) cd.mro := (PySem.W.looks_clsIn X hc).andThen (f := fun c => pure c.mro) .now
  have along' := along.keeps k
  obtain ⟨hh, gn, dr, tk, os⟩ := s
  have X' : K.In hh := X.keeps k
  have own : PySem.W.Looks M hh (typeLookup (.ref C) (dunderI nm)) none := PySem.W.looks_findIn X' h1
  have obj : PySem.W.Looks M hh (typeLookup (.type "object") (dunderI nm)) none := PySem.W.looks_findIn X' h2
  unfold fillsInplaceSlot
  refine wpAny_bind (along'.at ?_)
  rw [hm, List.anyM_cons]
  repeat lk
  exact q
/-- x op b, b of a type that is none of the text's: the left method answers -/
theorem bin1 {op : Operator} {b : Value} {fo ro rc : Option Value} {Q : Value → Shared → Prop} (X : K.In s.heap) (I : PySem.W.InstAt s.heap x ox C od) (hb : typeOf b = pure (.type T)) (hc : PySem.W.selfFirst K C = true)
    (hs : PySem.W.findIn K (.ref C) (PySem.dunder nm) = some (some (.ref f))) (hf : PySem.W.isFn K (.ref f) = true) (hr : PySem.W.findIn K (.ref C) (dunderR nm) = some rc) (hp : rc = none ∨ ∃ g : Addr, rc = some (.ref g))
    (h1 : PySem.W.findIn K (.type T) (PySem.dunder nm) = some fo) (h2 : PySem.W.findIn K (.type T) (dunderR nm) = some ro) (hsub : PySem.W.subIn K (.type T) (.ref C) = some false)
    (hcall : wpAny (model prog w) A (call (.ref f) [.ref x, b]) (PySem.W.CmpBack Q) E s) : wpAny (model prog w) A (binaryOp1 nm (.ref x) b) (fun r s' => ∃ v, r = some v ∧ Q v s') E s := by
  obtain ⟨cd, rest, hcd, hm⟩ := PySem.W.ksp_first hc
  have one := PySem.W.ksp_try X I hs hf hcall
  obtain ⟨hh, gn, dr, tk, os⟩ := s
  have a1 : PySem.W.Looks (model prog w) hh (typeOf (.ref x)) (.ref C) := I.type
  have a2 : PySem.W.Looks (model prog w) hh (typeOf b) (.type T) := PySem.W.Looks.of_pure hb
  have a3 := PySem.W.fills_K (M := model prog w) X hcd hm hs
  have a4 := PySem.W.ksp_fillsT (M := model prog w) X h1 h2
  have a5 := PySem.W.looks_subIn (M := model prog w) X hsub
  have a6 := PySem.W.ksp_inPy (M := model prog w) X hs hr hp
  have a7 : PySem.W.Looks (model prog w) hh (numberSlotInPython (.type T) nm) false := PySem.W.Looks.of_pure rfl
  have a8 := PySem.W.looks_findIn (M := model prog w) X h2
  have differ : (Value.ref C == Value.type T) = false := Bool.eq_false_iff.mpr fun z => by cases beq_iff_eq.mp z
  unfold binaryOp1
  refine wpAny_bind (a1.at (wpAny_bind (a2.at (wpAny_bind (a3.at ?_)))))
  simp only [differ, Bool.false_eq_true, if_false]
  generalize ((fo.isSome && !isSeqSlot fo) || (ro.isSome && !isSeqSlot ro)) = right at a4
  cases right <;>
  · ksp_lk
    refine wpAny_mono one (fun r s' got => ?_) fun _ _ err => err
    obtain ⟨v, rfl, hq⟩ := got
    ksp_lk
    exact ⟨v, rfl, hq⟩
/-- x op= b by the own method of op -/
theorem inp1 {op : Operator} {cd : ClassData} {b : Value} {Q : Value → Shared → Prop} (X : K.In s.heap) (I : PySem.W.InstAt s.heap x ox C od) (hc : PySem.W.clsIn K C = some cd) (hm : cd.mro = [.ref C, .type "object"]) (h1 : PySem.W.findIn K (.ref C) (dunderI op.info.2) = some none) (h2 : PySem.W.findIn K (.type "object") (dunderI op.info.2) = some none)
    (one : wpAny (model prog w) A (binaryOp1 op.info.2 (.ref x) b) (fun r s' => ∃ v, r = some v ∧ Q v s') E s) : wpAny (model prog w) A (inplaceOp op (.ref x) b) Q E s := by
  obtain ⟨hh, gn, dr, tk, os⟩ := s
  have a1 : PySem.W.Looks (model prog w) hh (typeOf (.ref x)) (.ref C) := I.type
  have a2 := no_iown (M := model prog w) (add := op == .Add) X hc hm h1 h2
  unfold inplaceOp
  refine wpAny_holding ?_
  refine wpAny_bind (a1.at (wpAny_bind (a2.at ?_)))
  simp only [Bool.false_eq_true, if_false]
  refine wpAny_bind (wpAny_mono one (fun r s' got => ?_) fun _ _ err => err)
  obtain ⟨v, rfl, hq⟩ := got
  exact wpAny_pure hq
/-- n + x by the own __radd__ -/
theorem radd1 {i : Int} {t : Tok} {Q : Value → Shared → Prop} (X : K.In s.heap) (I : PySem.W.InstAt s.heap x ox C od) (there : s.heap.get? x = some (PySem.W.instObj C dx)) (hc : PySem.W.selfFirst K C = true)
    (hs : PySem.W.findIn K (.ref C) (PySem.dunder "add") = some (some (.ref g))) (hr : PySem.W.findIn K (.ref C) (dunderR "add") = some (some (.ref f))) (hf : PySem.W.isFn K (.ref f) = true)
    (hsub : PySem.W.subIn K (.ref C) (.type "int") = some false)
    (hcall : wpAny (model prog w) A (call (.ref f) [.ref x, .int i t]) (PySem.W.CmpBack Q) E s) : wpAny (model prog w) A (binaryOp .Add (.int i t) (.ref x)) Q E s := by
  obtain ⟨cd, rest, hcd, hm⟩ := PySem.W.ksp_first hc
  have one := PySem.W.ksp_try X I hr hf hcall
  have a1 : PySem.W.Looks (model prog w) s.heap (typeOf (.ref x)) (.ref C) := I.type
  have a3 := PySem.W.fills_K (M := model prog w) (nm := "add") X hcd hm hs
  have a5 := PySem.W.looks_subIn (M := model prog w) X hsub
  have differ : (Value.type "int" == Value.ref C) = false := Bool.eq_false_iff.mpr fun z => by cases beq_iff_eq.mp z
  have declines : ∀ {Q' : Option Value → Shared → Prop}, Q' none s → wpAny (model prog w) A (tryMethod (.int i t) (dunder "add") (.ref x)) Q' E s := fun q =>
    wpAny_tryMethod_declines (typeIs_int s i t) F.slot_int_add (wpAny_call_entry F.slot_int_add (typeIs_int s i t) F.entry_int_add (int_add_own there ⟨rfl, q⟩) (F.args_int_add_2 _ _))
  unfold binaryOp
  refine wpAny_holding (wpAny_bind ?_)
  show wpAny (model prog w) A (binaryOp1 "add" (.int i t) (.ref x)) _ _ _
  unfold binaryOp1
  refine wpAny_bind (wpAny_typeOf (typeIs_int s i t) (wpAny_bind (a1.here (wpAny_bind (wpAny_of_eq F.fills_int_add ?_)))))
  simp only [differ, Bool.false_eq_true, if_false]
  refine wpAny_bind (a3.here ?_)
  simp only [Bool.and_self, if_true]
  refine wpAny_bind (a5.here ?_)
  have hpy : numberSlotInPython (.type "int") "add" = pure false := rfl
  simp only [Bool.false_eq_true, if_false, pure_bind, Bool.not_false, Bool.and_self, if_true, hpy]
  refine wpAny_bind (declines ?_)
  simp only
  refine wpAny_bind (wpAny_mono one (fun r s' got => ?_) fun _ _ err => err)
  obtain ⟨v, rfl, hq⟩ := got
  exact wpAny_bind (wpAny_rule (wpAny_pure (wpAny_pure hq)))
/-- bool(x) by the own __bool__ -/
theorem bool_own : MeetsIn prog w (Builtin.«bool.__new__» ⟨[.type "bool", .ref x], []⟩) (fun A R s => wpAny (model prog w) A.in1 (truthy (.ref x)) (fun b s' => R (.ok (.ret (.bool b))) s') (fun e s' => R (.error e) s') s) :=
  MeetsIn.of_wp fun A R s hs => by
    have f1 := F.conv_sub_bool
    obtain ⟨hp, gn, dr, tk, os⟩ := s
    repeat (any_goals (first | assumption | (with_reducible refine wpAny_mono hs (fun b s' hb => ?_) (fun _ _ err => err)) | wp_step))
    all_goals first | exact ⟨_, rfl, hb⟩ | skip
end
end OWN

set_option Elab.async false
set_option linter.all false
set_option maxRecDepth 100000
set_option maxHeartbeats 2000000
namespace L2
open PySem PySem.Spec PyProof.Rows
section
variable {X : Cx} {CX : CXT} {n : Nat} {C f g : Addr} {fd : FuncData} {ps : List Str} {sp : Sp} {E : XK}
/-- i + x, i a whole number -/
def rRadd (C : Addr) (sp : Sp) (E : XK) : R2 := fun x y H Q => ∃ a dx fs i, x = .int i ∧ y = .ref a ∧ H a = some (.ins C dx fs) ∧ sp [y, x] H Q E
theorem op_radd (hc : PySem.W.selfFirst X.K C = true) (hs : PySem.W.findIn X.K (.ref C) (PySem.dunder "add") = some (some (.ref g))) (hrr : PySem.W.findIn X.K (.ref C) (dunderR "add") = some (some (.ref f))) (hf : PySem.W.isFn X.K (.ref f) = true)
    (hsub : PySem.W.subIn X.K (.ref C) (.type "int") = some false) (F : FnOk X.prog X.w X.K X.mg X.base CX n f fd ps sp) (hb : Binds X.K fd ps []) (hr : Room n X.A) (hx : Passes CX X E) : OpR X (binaryOp .Add) (rRadd C sp E) := by
  rintro pins s σ H x y v u Q I rx ry ⟨a, dx, fs, i, rfl, rfl, ha, q⟩
  cases (show u = Value.ref a from ry)
  obtain ⟨t, rfl⟩ := (show ∃ t, v = Value.int i t from rx)
  obtain ⟨mA, obj, _⟩ := ins_get I.hok ha
  have there := obj.obj
  obtain ⟨od, at_, _⟩ := obj.look
  refine OWN.radd1 I.kIn at_ there hc hs hrr hf hsub ?_
  refine wpAny_mono (run_own F hb hx hr rfl I (us := [.ref a, .int i t]) (vs := [.ref a, .int i]) (.cons rfl (.cons ⟨t, rfl⟩ .nil)) q) (fun w s' got => ?_) fun _ _ err => err
  obtain ⟨z, H', I', rz, qz⟩ := got
  exact SlX.cmpback rz ⟨z, H', I', rz, qz⟩
/-- x op= i, i a whole number, no in-place method -/
theorem ip_binInt {op : Operator} {cd : ClassData} {fo ro rc : Option Value} (hcd : PySem.W.clsIn X.K C = some cd) (hm : cd.mro = [.ref C, .type "object"]) (i1 : PySem.W.findIn X.K (.ref C) (dunderI op.info.2) = some none) (i2 : PySem.W.findIn X.K (.type "object") (dunderI op.info.2) = some none)
    (hc : PySem.W.selfFirst X.K C = true) (hs : PySem.W.findIn X.K (.ref C) (PySem.dunder op.info.2) = some (some (.ref f))) (hf : PySem.W.isFn X.K (.ref f) = true)
    (hrr : PySem.W.findIn X.K (.ref C) (dunderR op.info.2) = some rc) (hp : rc = none ∨ ∃ g : Addr, rc = some (.ref g)) (h1 : PySem.W.findIn X.K (.type "int") (PySem.dunder op.info.2) = some fo) (h2 : PySem.W.findIn X.K (.type "int") (dunderR op.info.2) = some ro)
    (hsub : PySem.W.subIn X.K (.type "int") (.ref C) = some false) (F : FnOk X.prog X.w X.K X.mg X.base CX n f fd ps sp) (hb : Binds X.K fd ps []) (hr : Room n X.A) (hx : Passes CX X E) : PIp X op (rBinInt C sp E) := by
  rintro pins s σ H x y v u Q I rx ry ⟨a, dx, fs, i, rfl, rfl, ha, q⟩
  cases (show v = Value.ref a from rx)
  obtain ⟨t, rfl⟩ := (show ∃ t, u = Value.int i t from ry)
  obtain ⟨mA, obj, _⟩ := ins_get I.hok ha
  obtain ⟨od, at_, _⟩ := obj.look
  refine OWN.inp1 I.kIn at_ hcd hm i1 i2 (OWN.bin1 (op := op) I.kIn at_ (T := "int") rfl hc hs hf hrr hp h1 h2 hsub ?_)
  refine wpAny_mono (run_own F hb hx hr rfl I (us := [.ref a, .int i t]) (vs := [.ref a, .int i]) (.cons rfl (.cons ⟨t, rfl⟩ .nil)) q) (fun w s' got => ?_) fun _ _ err => err
  obtain ⟨z, H', I', rz, qz⟩ := got
  exact SlX.cmpback rz ⟨z, H', I', rz, qz⟩
/-- bool(x) by an own __bool__ -/
def rBoolOwn (C : Addr) (sp : Sp) (E : XK) : List V → Hp → VK → Prop := fun xs H Q => ∃ a dx fs, xs = [.ref a] ∧ H a = some (.ins C dx fs) ∧ sp [.ref a] H (fun z H' => ∃ k, z = .bl k ∧ Q (.bl k) H') E
theorem call_boolOwn (Fn : FnOk X.prog X.w X.K X.mg X.base CX n f fd ps sp) (hb : Binds X.K fd ps []) (hx : Passes CX X E) (hr : Room (n + 2) X.A) (hs : PySem.W.findIn X.K (.ref C) "__bool__" = some (some (.ref f))) (hf : PySem.W.isFn X.K (.ref f) = true) :
    CallR X (.type "bool") (rBoolOwn C sp E) := by
  intro pins s σ H xs us Q I r h
  obtain ⟨a, dx, fs, rfl, ha, q⟩ := h
  obtain rfl := Vals.ref1 r
  obtain ⟨mA, obj, _⟩ := ins_get I.hok ha
  obtain ⟨od, at_, _⟩ := obj.look
  obtain ⟨m, hF⟩ := I.fr
  refine callType_newIn F.called_bool F.newNe_bool (F.typeCall_bool_1 _) (F.newCall_bool_1 _) (fun obj => F.args_object_init_2 obj _) F.entry_bool_new OWN.bool_own ?_
  show wpAny (model X.prog X.w) X.A.in1.in1 (truthy (.ref a)) _ _ _
  refine PySem.W.truthy_K hF I.ok.mod.kin at_ hs hf (wpAny_mono (run_own (A := X.A.in1.in1) Fn hb hx hr.in1.in1 rfl I (us := [.ref a]) (vs := [.ref a]) (.cons rfl .nil) q) (fun w s' got => ?_) fun _ _ err => err)
  obtain ⟨z, H', I', rz, k, ek, qk⟩ := got
  subst ek
  cases (show w = Value.bool k from rz)
  exact ⟨rfl, .bl k, H', I', rfl, qk⟩
end
end L2

set_option Elab.async false
set_option linter.all false
set_option maxRecDepth 100000
set_option maxHeartbeats 4000000
namespace Toy
open PySem PySem.Spec PyProof.Rows L2 StX DL


theorem int_add {K : PySem.W.Frag} : PySem.W.findIn K (.type "int") (PySem.dunder (Operator.info .Add).2) = some (some (.builtin "int.__add__")) := by
  show fastLookup "int" (PySem.dunder "add") = _
  decide +kernel
theorem int_radd {K : PySem.W.Frag} : PySem.W.findIn K (.type "int") (dunderR (Operator.info .Add).2) = some (some (.builtin "int.__radd__")) := by
  show fastLookup "int" (dunderR "add") = _
  decide +kernel
theorem int_sub {K : PySem.W.Frag} : PySem.W.findIn K (.type "int") (PySem.dunder (Operator.info .Sub).2) = some (some (.builtin "int.__sub__")) := by
  show fastLookup "int" (PySem.dunder "sub") = _
  decide +kernel
theorem int_rsub {K : PySem.W.Frag} : PySem.W.findIn K (.type "int") (dunderR (Operator.info .Sub).2) = some (some (.builtin "int.__rsub__")) := by
  show fastLookup "int" (dunderR "sub") = _
  decide +kernel
theorem obj_iadd {K : PySem.W.Frag} : PySem.W.findIn K (.type "object") (dunderI (Operator.info .Add).2) = some none := by
  show fastLookup "object" (dunderI "add") = _
  decide +kernel
theorem obj_isub {K : PySem.W.Frag} : PySem.W.findIn K (.type "object") (dunderI (Operator.info .Sub).2) = some none := by
  show fastLookup "object" (dunderI "sub") = _
  decide +kernel
/-- one method of the class -/
def OpOf (P : Program) (w : World) (K : PySem.W.Frag) (mg : Str → Option Value) (base : Heap) (C : Addr) (x : Str) (cx : CXT) (n : Nat) (ps : List Str) (sp : Sp) : Prop := ∃ f fd, PySem.W.findIn K (.ref C) x = some (some (.ref f)) ∧ PySem.W.isFn K (.ref f) = true ∧ FnOk P w K mg base cx n f fd ps sp ∧ Binds K fd ps []
/-- the operators of the class -/
structure OpsA (P : Program) (w : World) (K : PySem.W.Frag) (mg : Str → Option Value) (base : Heap) (CN CT C : Addr) : Prop where
  cd : ∃ cd, PySem.W.clsIn K C = some cd ∧ cd.mro = [.ref C, .type "object"]
  sf : PySem.W.selfFirst K C = true
  ni : PySem.W.subIn K (.type "int") (.ref C) = some false
  nj : PySem.W.subIn K (.ref C) (.type "int") = some false
  or : OpOf P w K mg base C (PySem.dunder "or") (L2.CX P w) 12 ["self", "other"] (SpBin K CT C (· || ·))
  an : OpOf P w K mg base C (PySem.dunder "and") (L2.CX P w) 12 ["self", "other"] (SpBin K CT C (· && ·))
  su : OpOf P w K mg base C (PySem.dunder "sub") (L2.CX P w) 12 ["self", "other"] (SpBin K CT C (fun a b => a && !b))
  si : OpOf P w K mg base C (PySem.dunder "sub") (L2.CX P w) 12 ["self", "other"] (SpOp1 K C (dnOut CN))
  ad : OpOf P w K mg base C (PySem.dunder "add") (L2.CX P w) 12 ["self", "other"] (SpOp1 K C (upOut CN CT))
  ra : OpOf P w K mg base C (dunderR "add") (L2.CX P w) 12 ["self", "other"] (SpOp1 K C (upOut CN CT))
  nv : OpOf P w K mg base C "__invert__" CX0 12 ["self"] (SpNot K C)
  bo : OpOf P w K mg base C "__bool__" CX0 4 ["self"] (SpAny K C)
  le : OpOf P w K mg base C "__le__" (L2.CX P w) 12 ["self", "other"] (SpLe K C)
  rs : PySem.W.findIn K (.ref C) (dunderR "sub") = some none
  ia : PySem.W.findIn K (.ref C) (dunderI "add") = some none
  is : PySem.W.findIn K (.ref C) (dunderI "sub") = some none
/-- the members below n -/
def mem (h : Nat → Bool) (n : Nat) : List Int := ((List.range n).filter h).map fun (i : Nat) => (i : Int)
abbrev memD (h : Nat → Bool) (n : Nat) : PyData := .list (whole_list (mem h n))
theorem mem_same {h h' : Nat → Bool} {n : Nat} (e : ∀ i, i < n → h i = h' i) : mem h n = mem h' n := by
  unfold mem
  rw [List.filter_congr fun i hi => e i (List.mem_range.mp hi)]
theorem mem_has {h : Nat → Bool} {n i : Nat} : (mem h n).contains (i : Int) = (decide (i < n) && h i) := by
  rw [Bool.eq_iff_iff, List.contains_iff_mem]
  unfold mem
  rw [List.mem_map, Bool.and_eq_true, decide_eq_true_eq]
  constructor
  · rintro ⟨j, hj, e⟩
    have ej : j = i := by omega
    subst ej
    obtain ⟨h1, h2⟩ := List.mem_filter.mp hj
    exact ⟨List.mem_range.mp h1, h2⟩
  · rintro ⟨h1, h2⟩
    exact ⟨i, List.mem_filter.mpr ⟨List.mem_range.mpr h1, h2⟩, rfl⟩
theorem mem_len {h : Nat → Bool} {n : Nat} : (mem h n).length ≤ n := by
  unfold mem
  rw [List.length_map]
  have := List.length_filter_le h (List.range n)
  rw [List.length_range] at this
  exact this
theorem mem_nil {h : Nat → Bool} {n : Nat} : mem h n = [] ↔ ∀ i, i < n → h i = false := by
  unfold mem
  rw [List.map_eq_nil_iff, List.filter_eq_nil_iff]
  constructor
  · intro k i hi
    have := k i (List.mem_range.mpr hi)
    simpa using this
  · intro k i hi
    rw [k i (List.mem_range.mp hi)]
    exact Bool.false_ne_true
theorem mem_inj {h h' : Nat → Bool} {n : Nat} : mem h n = mem h' n ↔ ∀ i, i < n → h i = h' i := by
  constructor
  · intro e i hi
    have := congrArg (fun l => l.contains (i : Int)) e
    simp only [mem_has, decide_eq_true hi, Bool.true_and] at this
    exact this
  · exact mem_same
theorem eqv_wl : ∀ {a b : List Int}, PyData.eqv (.list (whole_list a)) (.list (whole_list b)) = decide (a = b) := by
  have key : ∀ {a b : List Int}, PyData.eqvAll (whole_list a) (whole_list b) = decide (a = b) := by
    intro a
    induction a with
    | nil => intro b; cases b <;> simp [PyData.eqvAll]
    | cons x a ih =>
      intro b
      cases b with
      | nil => simp [PyData.eqvAll]
      | cons y b =>
        have ih' := ih (b := b)
        show PyData.eqvAll (PyData.int x :: whole_list a) (PyData.int y :: whole_list b) = _
        rw [PyData.eqvAll, ih']
        by_cases h : x = y <;> simp [PyData.eqv, h]
  intro a b
  have k := key (a := a) (b := b)
  simpa [PyData.eqv] using k
theorem lay_wl {a : List Int} : PT.Lay 1 (.list (whole_list a)) := by
  refine PT.lay_lst (n := 0) fun d hd => ?_
  obtain ⟨i, _, rfl⟩ := List.mem_map.mp hd
  exact PT.lay_int
def SpMem (K : PySem.W.Frag) (C : Addr) : Sp := fun vs H Q _ => ∃ (B O : Hp) (v : V) (L : LS), vs = [v] ∧ W B O H ∧ IsLS K C L B v ∧ LOk L ∧ ∀ u B' H', Ex B B' → W B' O H' → Dt K B' u (memD (hasN L.marks L.cycle) 60) → Q u H'
def SpMade (K : PySem.W.Frag) (CS : Addr) : Sp := fun vs H Q _ => ∃ (B O : Hp) (v : V) (F : Fld), vs = [v] ∧ W B O H ∧ Dt K B v F.enc ∧ F.Ok ∧ ∀ u B' H', Ex B B' → W B' O H' → IsLS K CS F.ls B' u → Q u H'
section
variable {K : PySem.W.Frag} {B O : Hp} {G : List SD} {ta tb te tn : TE} {C CN CT : Addr} {L M : LS} {d : PyData} {E : XK} {t : TA} {σ : L2.St} {H : Hp} {D : Ends} {tz : TS} {F : Fld} {n : Int} {h h' : Nat → Bool} {s p s' p' : Nat}
theorem ev_eqS (h1 : EvP K B O G ta (IsLS K C L)) (h2 : EvP K B O G tb (IsLS K C M)) : EvD K B O G (tOp (rCmpOwn K C (SpEqL K C) E) ta tb) (.bool (decide (L.marks = M.marks) && decide (L.cycle = M.cycle))) := fun B1 O1 σ H e o s Q q =>
  h1 B1 O1 σ H e o s _ fun u B2 H2 e2 w2 p1 => h2 B2 O1 σ H2 (e.trans e2) o (s.ex e2 w2) _ fun v B3 H3 e3 w3 p2 => by
    have p1 := p1.ex e3
    obtain ⟨x, dx, fs, _, _, ev, hx, _⟩ := id p1
    obtain ⟨y, dy, gs, _, _, ev2, hy, _⟩ := id p2
    subst ev ev2
    exact ⟨x, dx, fs, y, dy, gs, rfl, rfl, w3.b _ _ hx, w3.b _ _ hy, B3, O1, .ref x, .ref y, L, M, rfl, w3, p1, p2, fun B' H' e' w' => q _ B' H' ((e2.trans e3).trans e') w' (.bl _)⟩
theorem ev_neS (h1 : EvP K B O G ta (IsLS K C L)) (h2 : EvP K B O G tb (IsLS K C M)) : EvD K B O G (tOp (rNeOwn C (SpEqL K C) E) ta tb) (.bool (!(decide (L.marks = M.marks) && decide (L.cycle = M.cycle)))) := fun B1 O1 σ H e o s Q q =>
  h1 B1 O1 σ H e o s _ fun u B2 H2 e2 w2 p1 => h2 B2 O1 σ H2 (e.trans e2) o (s.ex e2 w2) _ fun v B3 H3 e3 w3 p2 => by
    have p1 := p1.ex e3
    obtain ⟨x, dx, fs, _, _, ev, hx, _⟩ := id p1
    obtain ⟨y, dy, gs, _, _, ev2, hy, _⟩ := id p2
    subst ev ev2
    exact ⟨x, dx, fs, y, dy, gs, rfl, rfl, w3.b _ _ hx, w3.b _ _ hy, B3, O1, .ref x, .ref y, L, M, rfl, w3, p1, p2, fun B' H' e' w' => ⟨_, rfl, q _ B' H' ((e2.trans e3).trans e') w' (.bl _)⟩⟩
theorem ev_has (h : EvD K B O G te F.enc) (hn : EvD K B O G tn (.int n)) (hp : 0 < F.rhythm) : EvD K B O G (tCall (SpR K R_has) [] E (tCons te (tCons tn tNil))) (.bool (F.has n)) := ev_call (ea_cons h (ea_cons hn ea_nil)) ⟨F, n, hp, rfl, rfl⟩
theorem rd_neB {a b : Bool} : RD K rNe (.bool a) (.bool b) (.bool (a != b)) := rd_neS rfl rfl rfl (by rw [show decide (fv (.bool a) = fv (.bool b)) = (a == b) from dec_bl]; cases a <;> cases b <;> rfl)
theorem ev_or' {f : Bool → Bool → Bool} (h1 : EvP K B O G ta (IsLS K C L)) (h2 : EvP K B O G tb (IsLS K C M)) (okL : LOk L) (okM : LOk M) (hp : lcmP L M ≤ 5000) : EvP K B O G (tOp (rBinOwn C (SpBin K CT C f) E) ta tb) (IsLS K C (binL f L M)) := fun B1 O1 σ H e o s Q q =>
  h1 B1 O1 σ H e o s _ fun u B2 H2 e2 w2 p1 => h2 B2 O1 σ H2 (e.trans e2) o (s.ex e2 w2) _ fun v B3 H3 e3 w3 p2 => by
    have p1 := p1.ex e3
    obtain ⟨x, dx, fs, _, _, ev, hx, _⟩ := id p1
    obtain ⟨y, dy, gs, _, _, ev2, hy, _⟩ := id p2
    subst ev ev2
    refine ⟨x, dx, fs, y, dy, gs, rfl, rfl, w3.b _ _ hx, w3.b _ _ hy, B3, O1, .ref x, .ref y, L, M, rfl, w3, p1, p2, okL, okM, ?_⟩
    unfold binOut
    rw [if_neg (by omega)]
    exact fun z B' H' e' w' i' => q z B' H' ((e2.trans e3).trans e') w' i'
theorem ev_leS (h1 : EvP K B O G ta (IsLS K C L)) (h2 : EvP K B O G tb (IsLS K C M)) (okL : LOk L) (okM : LOk M) (hp : lcmP L M ≤ 5000) : EvD K B O G (tOp (rCmpOwn K C (SpLe K C) E) ta tb) (.bool (leB L M)) := fun B1 O1 σ H e o s Q q =>
  h1 B1 O1 σ H e o s _ fun u B2 H2 e2 w2 p1 => h2 B2 O1 σ H2 (e.trans e2) o (s.ex e2 w2) _ fun v B3 H3 e3 w3 p2 => by
    have p1 := p1.ex e3
    obtain ⟨x, dx, fs, _, _, ev, hx, _⟩ := id p1
    obtain ⟨y, dy, gs, _, _, ev2, hy, _⟩ := id p2
    subst ev ev2
    exact ⟨x, dx, fs, y, dy, gs, rfl, rfl, w3.b _ _ hx, w3.b _ _ hy, B3, O1, .ref x, .ref y, L, M, rfl, w3, p1, p2, okL, okM, hp, fun B' H' e' w' => q _ B' H' ((e2.trans e3).trans e') w' (.bl _)⟩
theorem ev_inv (h1 : EvP K B O G ta (IsLS K C L)) (ok : LOk L) : EvP K B O G (tUn (rInvOwn C (SpNot K C) E) ta) (IsLS K C (notL L)) := fun B1 O1 σ H e o s Q q =>
  h1 B1 O1 σ H e o s _ fun u B2 H2 e2 w2 p1 => by
    obtain ⟨x, dx, fs, _, _, ev, hx, _⟩ := id p1
    subst ev
    exact ⟨x, dx, fs, rfl, w2.b _ _ hx, B2, O1, .ref x, L, rfl, w2, p1, ok, fun z B' H' e' w' i' => q z B' H' (e2.trans e') w' i'⟩
theorem ev_boolS (h1 : EvP K B O G ta (IsLS K C L)) (ok : LOk L) : EvD K B O G (tCB (rBoolOwn C (SpAny K C) E) (tCons ta tNil)) (.bool (anyB L)) := fun B1 O1 σ H e o s Q q =>
  h1 B1 O1 σ H e o s _ fun u B2 H2 e2 w2 p1 => by
    obtain ⟨x, dx, fs, _, _, ev, hx, _⟩ := id p1
    subst ev
    exact ⟨x, dx, fs, rfl, w2.b _ _ hx, B2, O1, .ref x, L, rfl, w2, p1, ok, fun B' H' e' w' => ⟨anyB L, rfl, q _ B' H' (e2.trans e') w' (.bl _)⟩⟩
theorem ev_mem (h1 : EvP K B O G ta (IsLS K C L)) (a : Is h s p L) : EvD K B O G (tCall (SpMem K C) [] E (tCons ta tNil)) (memD h 60) := fun B1 O1 σ H e o s Q q =>
  h1 B1 O1 σ H e o s _ fun u B2 H2 e2 w2 p1 => ⟨B2, O1, u, L, rfl, w2, p1, a.n.ok, fun z B' H' e' w' d' => q z B' H' (e2.trans e') w' (by rw [memD, mem_same fun i _ => a.m i] at d'; exact d')⟩
theorem ev_madeF (h1 : EvD K B O G ta F.enc) (ok : F.Ok) : EvP K B O G (tCall (SpMade K C) [] E (tCons ta tNil)) (IsLS K C F.ls) := fun B1 O1 σ H e o s Q q =>
  h1 B1 O1 σ H e o s _ fun v B2 H2 e2 w2 d2 => ⟨B2, O1, v, F, rfl, w2, d2, ok, fun u B' H' e' w' p => q u B' H' (e2.trans e') w' p⟩
/-- i, j = two sets -/
theorem q_parS {i j : Nat} (s : Sta K B O G σ H) (h1 : EvP K B O G ta (IsLS K C L)) (h2 : EvP K B O G tb (IsLS K C M))
    (k : ∀ v u B' H', Ex B B' → IsLS K C L B' v → IsLS K C M B' u → Sta K B' O ((G.set i (.val v)).set j (.val u)) ((σ.set i (some v)).set j (some u)) H' → tz D ((σ.set i (some v)).set j (some u)) H') : tSeq (tPar i j (tCons ta (tCons tb tNil))) tz D σ H :=
  h1 B O σ H (Ex.refl _) (Ex.refl _) s _ fun v B2 H2 e2 w2 p1 => h2 B2 O σ H2 e2 (Ex.refl _) (s.ex e2 w2) _ fun u B3 H3 e3 w3 p2 =>
    ⟨_, _, rfl, k v u B3 H3 (e2.trans e3) (p1.ex e3) p2 (((s.ex (e2.trans e3) w3).setV i).setV j)⟩
/-- the numbers that pass a test, of a list -/
theorem ev_sift {g : Nat → Bool} {i : Nat} {tt : TT} {wi : TI} (hi : i < G.length) (hI : EvI K B O G wi (whole_list (mem h 60))) (ht : ∀ x : Nat, x < 60 → EvT K B O ((wipeG G [i]).set i (.dat (.int (x : Int)))) tt (g x)) :
    EvD K B O G (tLc wi (gName i) tt (tVar i) [i]) (memD (fun x => h x && g x) 60) := by
  have e1 : whole_list (mem h 60) = ((List.range 60).filter h).map fun (i : Nat) => PyData.int (i : Int) := by
    unfold mem whole_list
    rw [List.map_map]
    rfl
  have e2 : memD (fun x => h x && g x) 60 = .list ((((List.range 60).filter h).filter g).map fun (i : Nat) => PyData.int (i : Int)) := by
    unfold memD mem whole_list
    rw [List.filter_filter, List.map_map]
    congr 2
    exact List.filter_congr fun x _ => Bool.and_comm _ _
  rw [e1] at hI
  rw [e2]
  refine ev_lcT ((List.range 60).filter h) _ g (fun (i : Nat) => PyData.int (i : Int)) (fun x => (wipeG G [i]).set i (.dat (.int (x : Int)))) hI ?_ (fun x _ => eg_nameW (by simp)) (fun x hx => ht x (List.mem_range.mp (List.mem_filter.mp hx).1)) (fun x _ _ => ev_var ?_)
  · have := List.length_filter_le h (List.range 60)
    rw [List.length_range] at this
    omega
  · rw [List.getElem?_set]
    have hl : (wipeG G [i]).length = G.length := by simp [wipeG]
    rw [if_pos rfl, if_pos (by rw [hl]; exact hi)]
theorem ei_60 : EvI K B O G (iRng1 (tCons (tC (.int 60)) tNil)) (whole_list (mem (fun _ => true) 60)) := by
  have e : whole_list (mem (fun _ => true) 60) = rangeD 0 60 := by
    unfold mem whole_list rangeD
    rw [List.filter_eq_self.mpr fun _ _ => rfl, List.map_map]
    refine List.map_congr_left fun i _ => ?_
    show PyData.int (i : Int) = PyData.int (0 + (i : Int))
    rw [show (0 : Int) + (i : Int) = i by omega]
  rw [e]
  exact ei_range1 (j := 60) (ea_cons ev_int ea_nil) (by decide)
theorem rd_memL {neg : Bool} {x : Nat} {n : Nat} {b : Bool} (h1 : x < n) (e : (if neg then !h x else h x) = b) : RD K (rIn K neg) (.int (x : Int)) (memD h n) (.bool b) := rd_inL rfl flat_ints (by
  rw [show fv (.int (x : Int)) = V.int (x : Int) from rfl, fv_ints, in_ints, mem_has, decide_eq_true h1, Bool.true_and]
  exact e)
theorem rd_eqM {a b : List Int} {c : Bool} (e : decide (a = b) = c) : RD K (rEqD K) (.list (whole_list a)) (.list (whole_list b)) (.bool c) := rd_eq (lay_wl.sh (by decide)) (lay_wl.sh (by decide)) (by rw [eqv_wl]; exact e)
theorem rd_neM {a b : List Int} {c : Bool} (e : (!decide (a = b)) = c) : RD K (rNeD K) (.list (whole_list a)) (.list (whole_list b)) (.bool c) := rd_ne (lay_wl.sh (by decide)) (lay_wl.sh (by decide)) (by rw [eqv_wl]; exact e)
end

section
variable {P : Program} {w : World} {K : PySem.W.Frag} {mg : Str → Option Value} {base : Heap}


theorem ok_law_members {f CS : Addr} {fd : FuncData} (T : Txt K mg) (S : SetC K mg CS) (Os : OpsS P w K mg base CS) (a : At K mg "_law_members" s_law_members ["lengths"] f fd) : FnOk P w K mg base CX0 8 f fd ["lengths"] (SpMem K CS) := by
  obtain ⟨⟨fi, fdi, hin, hinf, Fin, Bin⟩, _, _, _⟩ := Os
  refine a.fn.ok sc_law_members (fun vs H Q E h => ?_) (fun cdv A outer s0 H vs Q E hr h => ?_)
  · obtain ⟨B, O, v, L, rfl, _⟩ := h
    rfl
  obtain ⟨B, O, v, L, rfl, hw, hL, ok, q⟩ := h
  refine ⟨_, (pss_one (ps_ret (pe_lc (own := [("number", 1)]) (by rfl) sc_law_members.nd (pi_range1 (by rfl) T.b_range (pa_cons pe_int pa_nil)) (blkOk_by (own := [("number", 1)]) (N := N_sc_law_members) (sc := defScope s_law_members) (by decide +kernel)) (fun _ _ _ _ _ => (pg_name (i := 1) sc_law_members.nd rfl (Or.inl rfl))) (fun _ _ _ _ _ => (pts_one (pt_cmpR (op_inOwn Fin Bin pass0 (Room.mono hr (by omega)) hin hinf) (pv 1) (pv 0) (by rfl)))) (fun _ _ _ _ _ => (pv 1))))), ?_⟩
  have st : Sta K B O [.val v, .un] (L2.start N_sc_law_members [v]) H := ⟨hw, ⟨rfl, trivial, trivial⟩⟩
  refine s_ret st (ev_is (ev_sift (h := fun _ => true) (g := hasN L.marks L.cycle) (by simp) ei_60 (fun x hx => et_test (ev_is (ev_in (ev_var rfl) (ev_ls rfl hL) ok) (by rw [hasL_nat ok])))) (by simp only [Bool.true_and])) fun z B2 H2 x2 w2 d2 => q z B2 H2 x2 w2 d2
theorem ok_law_made {f CN CT CS t0 t1 : Addr} {fd : FuncData} (T : Txt K mg) (S : SetC K mg CS) (M : MkS P w K mg base CN CT CS t0 t1) (a : At K mg "_law_made" s_law_made ["fields"] f fd) : FnOk P w K mg base CX0 10 f fd ["fields"] (SpMade K CS) := by
  obtain ⟨⟨fI, fdI, Mk_, Fi, B4, ⟨d0, V0, B0⟩, ⟨d2, V2, B2⟩, gk, Bk⟩, E0_, E1_⟩ := M
  refine a.fn.ok sc_law_made (fun vs H Q E h => ?_) (fun cdv A outer s H vs Q E hr h => ?_)
  · obtain ⟨B, O, v, F, rfl, _⟩ := h
    rfl
  obtain ⟨B, O, v, F, rfl, hw, hd, ok, q⟩ := h
  refine ⟨_, (pss_one (ps_ret (pe_make Mk_ Fi (hr.mono (by omega)) (by rfl) S.g B4 .nil passL (pa_cons (pe_ix (ix_tupK K) (pv 0) pe_int (fun _ _ => rfl)) (pa_cons (pe_ix (ix_tupK K) (pv 0) pe_int (fun _ _ => rfl)) (pa_cons (pe_ix (ix_tupK K) (pv 0) pe_int (fun _ _ => rfl)) (pa_cons (pe_ix (ix_tupK K) (pv 0) pe_int (fun _ _ => rfl)) pa_nil))))))), ?_⟩
  have st : Sta K B O [.dat F.enc] (L2.start N_sc_law_made [v]) H := ⟨hw, ⟨⟨_, rfl, hd⟩, trivial⟩⟩
  exact s_retP st (ev_make (ea_cons (ev_op (ev_var rfl) ev_int (rd_ixT at0)) (ea_cons (ev_op (ev_var rfl) ev_int (rd_ixT at1)) (ea_cons (ev_op (ev_var rfl) ev_int (rd_ixT at2)) (ea_cons (ev_op (ev_var rfl) ev_int (rd_ixT at3)) ea_nil)))) (fun _ => .nil) rfl (right_of ok (.list (whole_list F.early)) (.list (whole_list F.tails)) (.inl rfl) (.inl rfl))) fun u B3 H3 x3 w3 p3 => q u B3 H3 x3 w3 p3
end

end Toy
set_option Elab.async false
set_option linter.all false
set_option maxRecDepth 100000
set_option maxHeartbeats 4000000
namespace Toy
open PySem PySem.Spec PyProof.Rows L2 StX DL


def SpSigns (K : PySem.W.Frag) : Sp := fun vs H Q _ => ∃ (B O : Hp) (v u : V) (F J : Fld), vs = [v, u] ∧ W B O H ∧ Dt K B v F.enc ∧ Dt K B u J.enc ∧ F.Ok ∧ J.Ok ∧ ∀ B' H', Ex B B' → W B' O H' → Q (.bl true) H'
def SpShifts (K : PySem.W.Frag) : Sp := fun vs H Q _ => ∃ (B O : Hp) (v : V) (F : Fld) (m : Nat), vs = [v, .int (m : Int)] ∧ W B O H ∧ Dt K B v F.enc ∧ F.Ok ∧ m ≤ 9 ∧ ∀ B' H', Ex B B' → W B' O H' → Q (.bl true) H'
abbrev hF (F : Fld) : Nat → Bool := fun i => F.has (i : Int)
theorem agree {h h' : Nat → Bool} {s p s' p' : Nat} {L M : LS} (a : Is h s p L) (b : Is h' s' p' M) (hs : max s s' + p * p' ≤ 60) (k : ∀ i, i < 60 → h i = h' i) : ∀ i, h i = h' i := by
  have okL := a.n.ok
  have okM := b.n.ok
  have pL := okL.p
  have pM := okM.p
  have sL := a.s
  have sM := b.s
  have l0 : lcmP L M ≤ p * p' := Nat.le_trans lcm_le (Nat.mul_le_mul a.p b.p)
  have l1 : 1 ≤ lcmP L M := Nat.lcm_pos (by omega) (by omega)
  intro i
  induction i using Nat.strongRecOn with
  | ind i ih =>
    by_cases hi : i < 60
    · exact k i hi
    · have step : ∀ {N : LS} (ok : LOk N), N.start ≤ i - lcmP L M → N.period ∣ lcmP L M → hasN N.marks N.cycle i = hasN N.marks N.cycle (i - lcmP L M) := fun {N} ok hN hd => by
        obtain ⟨t, et⟩ := hd
        have := (stp_of ok hN).mul t (i - lcmP L M) (Nat.le_refl _)
        rw [Nat.mul_comm, ← et, Nat.sub_add_cancel (by omega)] at this
        exact this
      have e1 := step okL (by omega) (Nat.dvd_lcm_left _ _)
      have e2 := step okM (by omega) (Nat.dvd_lcm_right _ _)
      rw [a.m, a.m] at e1
      rw [b.m, b.m] at e2
      rw [e1, e2]
      exact ih _ (by omega)
theorem one_true {L M : LS} (h : L.marks = M.marks ∧ L.cycle = M.cycle) : (decide (L.marks = M.marks) && decide (L.cycle = M.cycle)) = true := by
  rw [decide_eq_true h.1, decide_eq_true h.2]
  rfl

section
variable {P : Program} {w : World} {K : PySem.W.Frag} {mg : Str → Option Value} {base : Heap}


theorem ok_law_signs {f CN CT CS : Addr} {fd : FuncData} (T : Txt K mg) (S : SetC K mg CS) (Os : OpsS P w K mg base CS) (Oa : OpsA P w K mg base CN CT CS)
    (C_law_made : Cal P w K mg base 10 "_law_made" ["fields"] (SpMade K CS)) (C_law_has : Cal P w K mg base 2 "_law_has" ["fields", "number"] (SpR K R_has)) (C_law_members : Cal P w K mg base 8 "_law_members" ["lengths"] (SpMem K CS))
    (a : At K mg "_law_signs" s_law_signs ["one", "two"] f fd) : FnOk P w K mg base CX0 14 f fd ["one", "two"] (SpSigns K) := by
  obtain ⟨⟨fi, fdi, hin, hinf, Fin, Bin⟩, ⟨fe, fde, heq, heqf, Feq, Beq_⟩, hne, hmro⟩ := Os
  obtain ⟨⟨cdC, hcd, hmr⟩, sf, ni, nj, ⟨_, _, or1, or2, or3, or4⟩, ⟨_, _, an1, an2, an3, an4⟩, ⟨_, _, su1, su2, su3, su4⟩, ⟨_, _, si1, si2, si3, si4⟩, ⟨_, _, ad1, ad2, ad3, ad4⟩, ⟨_, _, ra1, ra2, ra3, ra4⟩, ⟨_, _, nv1, nv2, nv3, nv4⟩, ⟨_, _, bo1, bo2, bo3, bo4⟩, ⟨_, _, le1, le2, le3, le4⟩, rs1, ia1, is1⟩ := Oa
  refine a.fn.ok sc_law_signs (fun vs H Q E h => ?_) (fun cdv A outer s0 H vs Q E hr h => ?_)
  · obtain ⟨B, O, v, u, F, J, rfl, _⟩ := h
    rfl
  obtain ⟨B, O, v, u, F, J, rfl, hw, hv, hu, okF, okJ, q⟩ := h
  refine ⟨_, (pss_cons (ps_par (i := 2) (j := 3) (by rfl) sc_law_signs.nd rfl rfl (by decide) rfl rfl (pa_cons (pe_cal C_law_made hr (by omega) (by rfl) (pa_cons (pv 0) pa_nil)) (pa_cons (pe_cal C_law_made hr (by omega) (by rfl) (pa_cons (pv 1) pa_nil)) pa_nil)) (by rfl))
    (pss_cons (ps_set (i := 4) sc_law_signs.nd rfl (Or.inr rfl) (pe_lc (own := [("number", 9)]) (by rfl) sc_law_signs.nd (pi_range1 (by rfl) T.b_range (pa_cons pe_int pa_nil)) (blkOk_by (own := [("number", 9)]) (N := N_sc_law_signs) (sc := defScope s_law_signs) (by decide +kernel)) (fun _ _ _ _ _ => (pg_name (i := 9) sc_law_signs.nd rfl (Or.inl rfl))) (fun _ _ _ _ _ => (pts_one (pt_val (pe_cal C_law_has hr (by omega) (by rfl) (pa_cons (pv 0) (pa_cons (pv 9) pa_nil)))))) (fun _ _ _ _ _ => (pv 9))))
    (pss_cons (ps_set (i := 5) sc_law_signs.nd rfl (Or.inr rfl) (pe_lc (own := [("number", 9)]) (by rfl) sc_law_signs.nd (pi_range1 (by rfl) T.b_range (pa_cons pe_int pa_nil)) (blkOk_by (own := [("number", 9)]) (N := N_sc_law_signs) (sc := defScope s_law_signs) (by decide +kernel)) (fun _ _ _ _ _ => (pg_name (i := 9) sc_law_signs.nd rfl (Or.inl rfl))) (fun _ _ _ _ _ => (pts_one (pt_val (pe_cal C_law_has hr (by omega) (by rfl) (pa_cons (pv 1) (pa_cons (pv 9) pa_nil)))))) (fun _ _ _ _ _ => (pv 9))))
    (pss_cons (ps_setLc (i := 6) (own := [("number", 9)]) (by rfl) sc_law_signs.nd rfl rfl (sw_true rfl rfl rfl (by decide +kernel)) (pi_range1 (by rfl) T.b_range (pa_cons pe_int pa_nil)) (blkOk_by (own := [("number", 9)]) (N := N_sc_law_signs) (sc := defScope s_law_signs) (by decide +kernel)) (fun _ _ _ _ _ => (pg_name (i := 9) sc_law_signs.nd rfl (Or.inl rfl))) (fun _ _ _ _ _ => (pts_one (pt_cmpR (op_notInK K) (pv 9) (pv 4) (by rfl)))) (fun _ _ _ _ _ => (pv 9)))
    (pss_cons (ps_setLc (i := 7) (own := [("number", 9)]) (by rfl) sc_law_signs.nd rfl rfl (sw_true rfl rfl rfl (by decide +kernel)) (pi_range1 (by rfl) T.b_range (pa_cons pe_int pa_nil)) (blkOk_by (own := [("number", 9)]) (N := N_sc_law_signs) (sc := defScope s_law_signs) (by decide +kernel)) (fun _ _ _ _ _ => (pg_name (i := 9) sc_law_signs.nd rfl (Or.inl rfl))) (fun _ _ _ _ _ => (pts_one (PW.pt (pw_or (pt_cmpR (op_inK K) (pv 9) (pv 4) (by rfl)) (pw_or1 (pt_cmpR (op_inK K) (pv 9) (pv 5) (by rfl))))))) (fun _ _ _ _ _ => (pv 9)))
    (pss_cons (ps_if (PW.pt (pw_or (pt_cmpR (op_neDK K hr.units) (pe_cal C_law_members hr (by omega) (by rfl) (pa_cons (pe_op (op_binOwn (op := .BitOr) sf or1 or2 or3 or4 (Room.mono hr (by omega)) passL) (pv 2) (pv 3)) pa_nil)) (pv 7) (nomark _)) (pw_or1 (pt_cmpR (op_neDK K hr.units) (pe_cal C_law_members hr (by omega) (by rfl) (pa_cons (pe_op (op_binOwn (op := .BitAnd) sf an1 an2 an3 an4 (Room.mono hr (by omega)) passL) (pv 2) (pv 3)) pa_nil)) (pe_lc (own := [("number", 9)]) (by rfl) sc_law_signs.nd (pi_listK K (pv 4)) (blkOk_by (own := [("number", 9)]) (N := N_sc_law_signs) (sc := defScope s_law_signs) (by decide +kernel)) (fun _ _ _ _ _ => (pg_name (i := 9) sc_law_signs.nd rfl (Or.inl rfl))) (fun _ _ _ _ _ => (pts_one (pt_cmpR (op_inK K) (pv 9) (pv 5) (by rfl)))) (fun _ _ _ _ _ => (pv 9))) (nomark _))))) (pss_one (ps_ret pe_bl)) pss_nil)
    (pss_cons (ps_if (PW.pt (pw_or (pt_cmpR (op_neDK K hr.units) (pe_cal C_law_members hr (by omega) (by rfl) (pa_cons (pe_op (op_binOwn (op := .Sub) sf su1 su2 su3 su4 (Room.mono hr (by omega)) passL) (pv 2) (pv 3)) pa_nil)) (pe_lc (own := [("number", 9)]) (by rfl) sc_law_signs.nd (pi_listK K (pv 4)) (blkOk_by (own := [("number", 9)]) (N := N_sc_law_signs) (sc := defScope s_law_signs) (by decide +kernel)) (fun _ _ _ _ _ => (pg_name (i := 9) sc_law_signs.nd rfl (Or.inl rfl))) (fun _ _ _ _ _ => (pts_one (pt_cmpR (op_notInK K) (pv 9) (pv 5) (by rfl)))) (fun _ _ _ _ _ => (pv 9))) (nomark _)) (pw_or1 (pt_cmpR (op_neDK K hr.units) (pe_cal C_law_members hr (by omega) (by rfl) (pa_cons (pe_un (un_invOwn nv3 nv4 pass0 (Room.mono hr (by omega)) nv1 nv2) (pv 2)) pa_nil)) (pv 6) (nomark _))))) (pss_one (ps_ret pe_bl)) pss_nil)
    (pss_cons (ps_set (i := 8) sc_law_signs.nd rfl (Or.inl rfl) (pe_cmpR (op_eqDK K hr.units) (pe_lc (own := [("number", 9)]) (by rfl) sc_law_signs.nd (pi_listK K (pv 4)) (blkOk_by (own := [("number", 9)]) (N := N_sc_law_signs) (sc := defScope s_law_signs) (by decide +kernel)) (fun _ _ _ _ _ => (pg_name (i := 9) sc_law_signs.nd rfl (Or.inl rfl))) (fun _ _ _ _ _ => (pts_one (pt_cmpR (op_notInK K) (pv 9) (pv 5) (by rfl)))) (fun _ _ _ _ _ => (pv 9))) (pe_lst pa_nil) (nomark _)))
    (pss_cons (ps_if (PW.pt (pw_or (pt_cmpR op_ne (pe_cmpR (op_cmpOwn (op := .LtE) (fun _ _ => rfl) le1 le2 le3 le4 (Room.mono hr (by omega)) passL) (pv 2) (pv 3) (by rfl)) (pv 8) (nomark _)) (pw_or (pt_cmpR op_ne (pe_cmpR (op_cmpOwn (op := .Eq) (fun _ _ => rfl) heq heqf Feq Beq_ (Room.mono hr (by omega)) pass0) (pv 2) (pv 3) (by rfl)) (pe_cmpR (op_eqDK K hr.units) (pv 4) (pv 5) (nomark _)) (nomark _)) (pw_or1 (pt_cmpR op_ne (pe_cmpR (op_neOwn hmro hne heq heqf Feq Beq_ (Room.mono hr (by omega)) pass0) (pv 2) (pv 3) (by rfl)) (pe_cmpR (op_neDK K hr.units) (pv 4) (pv 5) (nomark _)) (nomark _)))))) (pss_one (ps_ret pe_bl)) pss_nil)
    (pss_cons (ps_if (PW.pt (pw_or (pt_cmpR op_ne (pe_callTy (call_boolOwn bo3 bo4 pass0 (Room.mono hr (by omega)) bo1 bo2) (by rfl) T.b_bool (by decide +kernel) (pa_cons (pv 2) pa_nil)) (pe_cmpR (op_neDK K hr.units) (pv 4) (pe_lst pa_nil) (nomark _)) (nomark _)) (pw_or (pt_cmpR (op_neOwn hmro hne heq heqf Feq Beq_ (Room.mono hr (by omega)) pass0) (pe_un (un_invOwn nv3 nv4 pass0 (Room.mono hr (by omega)) nv1 nv2) (pe_un (un_invOwn nv3 nv4 pass0 (Room.mono hr (by omega)) nv1 nv2) (pv 2))) (pv 2) (by rfl)) (pw_or (pt_cmpR (op_neOwn hmro hne heq heqf Feq Beq_ (Room.mono hr (by omega)) pass0) (pe_op (op_binOwn (op := .Sub) sf su1 su2 su3 su4 (Room.mono hr (by omega)) passL) (pe_op (op_binOwn (op := .BitOr) sf or1 or2 or3 or4 (Room.mono hr (by omega)) passL) (pv 2) (pv 3)) (pv 3)) (pe_op (op_binOwn (op := .Sub) sf su1 su2 su3 su4 (Room.mono hr (by omega)) passL) (pv 2) (pv 3)) (by rfl)) (pw_or1 (pt_cmpR (op_neOwn hmro hne heq heqf Feq Beq_ (Room.mono hr (by omega)) pass0) (pe_un (un_invOwn nv3 nv4 pass0 (Room.mono hr (by omega)) nv1 nv2) (pe_op (op_binOwn (op := .BitOr) sf or1 or2 or3 or4 (Room.mono hr (by omega)) passL) (pv 2) (pv 3))) (pe_op (op_binOwn (op := .BitAnd) sf an1 an2 an3 an4 (Room.mono hr (by omega)) passL) (pe_un (un_invOwn nv3 nv4 pass0 (Room.mono hr (by omega)) nv1 nv2) (pv 2)) (pe_un (un_invOwn nv3 nv4 pass0 (Room.mono hr (by omega)) nv1 nv2) (pv 3))) (by rfl))))))) (pss_one (ps_ret pe_bl)) pss_nil)
    (pss_one (ps_ret (pe_and (pe_cmpR (op_eqDK K hr.units) (pe_cal C_law_members hr (by omega) (by rfl) (pa_cons (pv 2) pa_nil)) (pv 4) (nomark _)) (pe_one (pe_cmpR (op_eqDK K hr.units) (pe_cal C_law_members hr (by omega) (by rfl) (pa_cons (pv 3) pa_nil)) (pv 5) (nomark _)))))))))))))))), ?_⟩
  have st : Sta K B O [.dat F.enc, .dat J.enc, .un, .un, .un, .un, .un, .un, .un, .un] (L2.start N_sc_law_signs [v, u]) H := ⟨hw, ⟨⟨_, rfl, hv⟩, ⟨_, rfl, hu⟩, trivial, trivial, trivial, trivial, trivial, trivial, trivial, trivial, trivial⟩⟩
  have pF : 0 < F.rhythm := by have := okF.r0.1; omega
  have pJ : 0 < J.rhythm := by have := okJ.r0.1; omega
  have iF := is_fld okF
  have iJ := is_fld okJ
  obtain ⟨lO, iO⟩ := is_bin (f := (· || ·)) iF iJ (by decide) (by decide) (by decide)
  obtain ⟨_, iA⟩ := is_bin (f := (· && ·)) iF iJ (by decide) (by decide) (by decide)
  obtain ⟨_, iS⟩ := is_bin (f := fun a b => a && !b) iF iJ (by decide) (by decide) (by decide)
  obtain ⟨lOS, iOS⟩ := is_bin (f := fun a b => a && !b) iO iJ (by decide) (by decide) (by decide)
  have nF := is_not iF
  have nJ := is_not iJ
  have nnF := is_not nF
  have nO := is_not iO
  obtain ⟨lNN, iNN⟩ := is_bin (f := (· && ·)) nF nJ (by decide) (by decide) (by decide)
  refine q_parS st (ev_madeF (C := CS) (ev_var rfl) okF) (ev_madeF (C := CS) (ev_var rfl) okJ) fun va vb B1 H1 x1 pa pb st => ?_
  refine q_asg st (d := memD (hF F) 60) (ev_is (ev_sift (h := fun _ => true) (g := hF F) (by simp) ei_60 (fun x hx => et_test (ev_has (ev_var rfl) (ev_var rfl) pF))) (by simp only [Bool.true_and])) fun v2 B2 H2 x2 d2 st => ?_
  refine q_asg st (d := memD (hF J) 60) (ev_is (ev_sift (h := fun _ => true) (g := hF J) (by simp) ei_60 (fun x hx => et_test (ev_has (ev_var rfl) (ev_var rfl) pJ))) (by simp only [Bool.true_and])) fun v3 B3 H3 x3 d3 st => ?_
  refine q_asg st (d := memD (fun i => !hF F i) 60) (ev_is (ev_sift (h := fun _ => true) (g := fun i => !hF F i) (by simp) ei_60 (fun x hx => et_test (ev_op (ev_var rfl) (ev_var rfl) (rd_memL (neg := true) hx rfl)))) (by simp only [Bool.true_and])) fun v4 B4 H4 x4 d4 st => ?_
  refine q_asg st (d := memD (fun i => hF F i || hF J i) 60) (ev_is (ev_sift (h := fun _ => true) (g := fun i => hF F i || hF J i) (by simp) ei_60 (fun x hx => et_or (et_test (ev_op (ev_var rfl) (ev_var rfl) (rd_memL (neg := false) hx rfl))) fun _ => et_test (ev_op (ev_var rfl) (ev_var rfl) (rd_memL (neg := false) hx rfl)))) (by simp only [Bool.true_and])) fun v5 B5 H5 x5 d5 st => ?_
  have xx := (((x2.trans x3).trans x4).trans x5)
  have pa := pa.ex xx
  have pb := pb.ex xx
  refine q_whenF st (et_is (et_or (a := false) (b := false) (et_test (ev_op (ev_mem (ev_or' (f := (· || ·)) (ev_ls rfl pa) (ev_ls rfl pb) iF.n.ok iJ.n.ok lO) iO) (ev_var rfl) (rd_neM (by simp)))) fun _ =>
    et_test (ev_op (ev_mem (ev_or' (f := (· && ·)) (ev_ls rfl pa) (ev_ls rfl pb) iF.n.ok iJ.n.ok lO) iA) (ev_sift (h := hF F) (g := hF J) (by simp) (ei_list (ev_var rfl)) (fun x hx => et_test (ev_op (ev_var rfl) (ev_var rfl) (rd_memL (neg := false) hx rfl)))) (rd_neM (by simp)))) rfl) fun B6 H6 x6 st => ?_
  have pa := pa.ex x6
  have pb := pb.ex x6
  refine q_whenF st (et_is (et_or (a := false) (b := false) (et_test (ev_op (ev_mem (ev_or' (f := fun a b => a && !b) (ev_ls rfl pa) (ev_ls rfl pb) iF.n.ok iJ.n.ok lO) iS) (ev_sift (h := hF F) (g := fun i => !hF J i) (by simp) (ei_list (ev_var rfl)) (fun x hx => et_test (ev_op (ev_var rfl) (ev_var rfl) (rd_memL (neg := true) hx rfl)))) (rd_neM (by simp)))) fun _ =>
    et_test (ev_op (ev_mem (ev_inv (ev_ls rfl pa) iF.n.ok) nF) (ev_var rfl) (rd_neM (by simp)))) rfl) fun B7 H7 x7 st => ?_
  have pa := pa.ex x7
  have pb := pb.ex x7
  refine q_asg st (d := .bool (decide (mem (fun i => hF F i && !hF J i) 60 = []))) (ev_op (ev_sift (h := hF F) (g := fun i => !hF J i) (by simp) (ei_list (ev_var rfl)) (fun x hx => et_test (ev_op (ev_var rfl) (ev_var rfl) (rd_memL (neg := true) hx rfl)))) (ev_lst ea_nil (by simp)) (rd_eqM (b := []) rfl)) fun v8 B8 H8 x8 d8 st => ?_
  have pa := pa.ex x8
  have pb := pb.ex x8
  have eLe : leB F.ls J.ls = decide (mem (fun i => hF F i && !hF J i) 60 = []) := by
    rw [Bool.eq_iff_iff, le_iff iF iJ (by decide), decide_eq_true_eq, mem_nil]
    constructor
    · intro k i hi
      cases hh : hF F i with
      | false => rfl
      | true => rw [show hF J i = true from k i hi hh]; rfl
    · intro k i hi hh
      have := k i hi
      rw [show hF F i = true from hh] at this
      simpa using this
  have eEq : (decide (F.ls.marks = J.ls.marks) && decide (F.ls.cycle = J.ls.cycle)) = decide (mem (hF F) 60 = mem (hF J) 60) := by
    rw [Bool.eq_iff_iff, Bool.and_eq_true, decide_eq_true_eq, decide_eq_true_eq, decide_eq_true_eq]
    constructor
    · rintro ⟨e1, e2⟩
      refine mem_same fun i _ => ?_
      exact ((iF.m i).symm.trans (by rw [e1, e2])).trans (iJ.m i)
    · intro e
      exact nrm_same iF.n iJ.n fun i => ((iF.m i).trans (agree iF iJ (by decide) (mem_inj.mp e) i)).trans (iJ.m i).symm
  have eAny : anyB F.ls = !decide (mem (hF F) 60 = []) := by
    rw [Bool.eq_iff_iff, any_iff iF (by decide), Bool.not_eq_true', decide_eq_false_iff_not, mem_nil]
    constructor
    · rintro ⟨i, hi, e⟩ k
      have := k i hi
      rw [show hF F i = true from e] at this
      cases this
    · intro k
      refine Classical.byContradiction fun no => k fun i hi => ?_
      cases hh : hF F i with
      | false => rfl
      | true => exact absurd ⟨i, hi, hh⟩ no
  refine q_whenF st (et_is (et_or (a := false) (b := false) (et_test (ev_is (ev_op (ev_leS (ev_ls rfl pa) (ev_ls rfl pb) iF.n.ok iJ.n.ok lO) (ev_var rfl) rd_neB) (by rw [eLe]; simp))) fun _ =>
    et_or (a := false) (b := false) (et_test (ev_is (ev_op (ev_eqS (ev_ls rfl pa) (ev_ls rfl pb)) (ev_op (ev_var rfl) (ev_var rfl) (rd_eqM rfl)) rd_neB) (by rw [eEq]; simp))) fun _ =>
    et_test (ev_is (ev_op (ev_neS (ev_ls rfl pa) (ev_ls rfl pb)) (ev_op (ev_var rfl) (ev_var rfl) (rd_neM rfl)) rd_neB) (by rw [eEq]; simp))) rfl) fun B9 H9 x9 st => ?_
  have pa := pa.ex x9
  have pb := pb.ex x9
  refine q_whenF st (et_is (et_or (a := false) (b := false) (et_test (ev_is (ev_op (ev_boolS (ev_ls rfl pa) iF.n.ok) (ev_op (ev_var rfl) (ev_lst ea_nil (by simp)) (rd_neM (b := []) rfl)) rd_neB) (by rw [eAny]; simp))) fun _ =>
    et_or (a := false) (b := false) (et_test (ev_is (ev_neS (ev_inv (ev_inv (ev_ls rfl pa) iF.n.ok) nF.n.ok) (ev_ls rfl pa)) (by rw [one_true (nrm_same nnF.n iF.n fun i => by rw [nnF.m i, iF.m i, Bool.not_not])]; rfl))) fun _ =>
    et_or (a := false) (b := false) (et_test (ev_is (ev_neS (ev_or' (f := fun a b => a && !b) (ev_or' (f := (· || ·)) (ev_ls rfl pa) (ev_ls rfl pb) iF.n.ok iJ.n.ok lO) (ev_ls rfl pb) iO.n.ok iJ.n.ok lOS) (ev_or' (f := fun a b => a && !b) (ev_ls rfl pa) (ev_ls rfl pb) iF.n.ok iJ.n.ok lO)) (by rw [one_true (nrm_same iOS.n iS.n fun i => by rw [iOS.m i, iS.m i]; cases F.has (i : Int) <;> cases J.has (i : Int) <;> rfl)]; rfl))) fun _ =>
    et_test (ev_is (ev_neS (ev_inv (ev_or' (f := (· || ·)) (ev_ls rfl pa) (ev_ls rfl pb) iF.n.ok iJ.n.ok lO) iO.n.ok) (ev_or' (f := (· && ·)) (ev_inv (ev_ls rfl pa) iF.n.ok) (ev_inv (ev_ls rfl pb) iJ.n.ok) nF.n.ok nJ.n.ok lNN)) (by rw [one_true (nrm_same nO.n iNN.n fun i => by rw [nO.m i, iNN.m i]; cases F.has (i : Int) <;> cases J.has (i : Int) <;> rfl)]; rfl))) rfl) fun B10 H10 x10 st => ?_
  have pa := pa.ex x10
  have pb := pb.ex x10
  refine s_ret st (ev_andV (a := true) (b := true) (ev_op (ev_mem (ev_ls rfl pa) iF) (ev_var rfl) (rd_eqM (by simp))) fun _ => ev_op (ev_mem (ev_ls rfl pb) iJ) (ev_var rfl) (rd_eqM (by simp))) fun z B11 H11 x11 w11 d11 => ?_
  rw [dp_bool d11]
  exact q B11 H11 ((((((x1.trans xx).trans x6).trans x7).trans x8).trans x9).trans (x10.trans x11)) w11
end

end Toy
set_option Elab.async false
set_option linter.all false
set_option maxRecDepth 100000
set_option maxHeartbeats 4000000
namespace Toy
open PySem PySem.Spec PyProof.Rows L2 StX DL
theorem filt_part {p : Nat → Bool} {a b n : Nat} (hn : n = a + b) (h2 : ∀ i, a ≤ i → p i = false) : (List.range n).filter p = (List.range a).filter p := by
  subst hn
  rw [List.range_add, List.filter_append, List.filter_map, show (List.range b).filter (p ∘ fun x => a + x) = [] from List.filter_eq_nil_iff.mpr (fun i _ => by rw [Function.comp, h2 _ (by omega)]; exact Bool.false_ne_true)]
  simp
theorem filt_late {p : Nat → Bool} {a b n : Nat} (hn : n = a + b) (h2 : ∀ i, i < a → p i = false) : (List.range n).filter p = ((List.range b).filter fun i => p (a + i)).map (a + ·) := by
  subst hn
  rw [List.range_add, List.filter_append, List.filter_map, show (List.range a).filter p = [] from List.filter_eq_nil_iff.mpr (fun i hi => by rw [h2 _ (List.mem_range.mp hi)]; exact Bool.false_ne_true)]
  rfl
theorem up_list {h : Nat → Bool} {m : Nat} (hm : m ≤ 20) : ((((List.range 80).filter h).filter fun (x : Nat) => decide ((x : Int) + m < 60)).map fun (x : Nat) => (x : Int) + m) = mem (fun i => decide (m ≤ i) && h (i - m)) 60 := by
  unfold mem
  rw [List.filter_filter, filt_part (a := 60 - m) (b := 20 + m) (by omega) (fun i hi => by rw [decide_eq_false (by omega)]; rfl), filt_late (a := m) (b := 60 - m) (n := 60) (by omega) (fun i hi => by rw [decide_eq_false (by omega)]; rfl), List.map_map]
  rw [List.filter_congr (q := h) (fun i hi => by have := List.mem_range.mp hi; rw [decide_eq_true (by omega)]; rfl), List.filter_congr (p := fun i => decide (m ≤ m + i) && h (m + i - m)) (q := h) (fun i hi => by rw [decide_eq_true (by omega), Nat.add_sub_cancel_left]; rfl)]
  refine List.map_congr_left fun i _ => ?_
  show (i : Int) + m = ((m + i : Nat) : Int)
  omega
theorem dn_list {h : Nat → Bool} {m : Nat} (hm : m ≤ 20) : ((((List.range 80).filter h).filter fun (x : Nat) => decide ((0 : Int) ≤ (x : Int) - m) && decide ((x : Int) - m < 60)).map fun (x : Nat) => (x : Int) - m) = mem (fun i => h (i + m)) 60 := by
  unfold mem
  rw [List.filter_filter, filt_late (a := m) (b := 80 - m) (by omega) (fun i hi => by rw [decide_eq_false (by omega)]; rfl), filt_part (a := 60) (b := 20 - m) (n := 80 - m) (by omega) (fun i hi => by rw [decide_eq_false (p := ((m + i : Nat) : Int) - m < 60) (by omega), Bool.and_false]; rfl), List.map_map]
  rw [List.filter_congr (q := fun i => h (i + m)) (fun i hi => by have := List.mem_range.mp hi; rw [decide_eq_true (p := ((m + i : Nat) : Int) - m < 60) (by omega), decide_eq_true (by omega), Nat.add_comm i m]; rfl)]
  refine List.map_congr_left fun i _ => ?_
  show ((m + i : Nat) : Int) - m = (i : Int)
  omega
theorem low_list {h : Nat → Bool} : ((((List.range 80).filter h).filter fun (x : Nat) => decide ((x : Int) < 60)).map fun (x : Nat) => (x : Int)) = mem h 60 := by
  unfold mem
  rw [List.filter_filter, filt_part (a := 60) (b := 20) (by omega) (fun i hi => by rw [decide_eq_false (by omega)]; rfl)]
  rw [List.filter_congr (q := h) (fun i hi => by have := List.mem_range.mp hi; rw [decide_eq_true (by omega)]; rfl)]


abbrev upL (L : LS) (m : Nat) : LS := lsOf ((idx L.marks).map (· + (m : Int))) ((L.start : Int) + m) L.period (idx (turned L m))
abbrev dnL (L : LS) (m : Nat) : LS := lsOf (idx (downs L m)) ((((L.start : Int) - m).toNat : Nat) : Int) L.period (idx (turned L (-(m : Int))))
theorem up_ok {CN CT : Addr} {L : LS} {m : Nat} (h : L.start + m ≤ 5000) : upOut CN CT L m = .ok (upL L m) := by
  unfold upOut
  rw [if_neg (by omega), if_neg (by omega)]
theorem dn_ok {CN : Addr} {L : LS} {m : Nat} : dnOut CN L m = .ok (dnL L m) := by
  unfold dnOut
  rw [if_neg (by omega)]
section
variable {K : PySem.W.Frag} {B O : Hp} {G : List SD} {ta tb tc te tn : TE} {C CN CT : Addr} {L M : LS} {d x y z : PyData} {E : XK} {t : TA} {σ : L2.St} {H : Hp} {D : Ends} {tz : TS} {F : Fld} {m : Int} {r r' : R2} {out : LS → Int → MkOut} {v : V} {i j : Nat}
theorem ev_chain {a b : Bool} (ha : EvD K B O G ta x) (hb : EvD K B O G tb y) (hc : a = true → EvD K B O G tc z) (h1 : RD K r x y (.bool a)) (h2 : a = true → RD K r' y z (.bool b)) : EvD K B O G (tChain r r' ta tb tc) (.bool (a && b)) := fun B1 O1 σ H e o s Q q =>
  ha B1 O1 σ H e o s _ fun v B2 H2 e2 w2 d2 => hb B2 O1 σ H2 (e.trans e2) o (s.ex e2 w2) _ fun u B3 H3 e3 w3 d3 =>
    h1 B3 O1 H3 v u w3 (dp_ex e3 _ _ d2) d3 _ fun zv B4 H4 e4 w4 d4 => ⟨a, dp_bool d4, by
      cases a with
      | false =>
        rw [if_neg Bool.false_ne_true]
        exact q _ B4 H4 ((e2.trans e3).trans e4) w4 (.bl _)
      | true =>
        rw [if_pos rfl]
        exact hc rfl B4 O1 σ H4 (((e.trans e2).trans e3).trans e4) o (s.ex ((e2.trans e3).trans e4) w4) _ fun zz B5 H5 e5 w5 d5 =>
          h2 rfl B5 O1 H5 u zz w5 (dp_ex (e4.trans e5) _ _ d3) d5 Q fun rr B6 H6 e6 w6 d6 => q rr B6 H6 ((((e2.trans e3).trans e4).trans e5).trans e6) w6 d6⟩
theorem ev_opI (h1 : EvP K B O G ta (IsLS K C L)) (ok : LOk L) (h2 : EvD K B O G tb (.int m)) (ho : out L m = .ok M) : EvP K B O G (tOp (rBinInt C (SpOp1 K C out) E) ta tb) (IsLS K C M) := fun B1 O1 σ H e o s Q q =>
  h1 B1 O1 σ H e o s _ fun u B2 H2 e2 w2 p1 => h2 B2 O1 σ H2 (e.trans e2) o (s.ex e2 w2) _ fun v B3 H3 e3 w3 d2 => by
    have p1 := p1.ex e3
    obtain ⟨x, dx, fs, _, _, ev, hx, _⟩ := id p1
    subst ev
    rw [dp_int d2]
    refine ⟨x, dx, fs, m, rfl, rfl, w3.b _ _ hx, B3, O1, .ref x, L, m, rfl, w3, p1, ok, ?_⟩
    rw [ho]
    exact fun z B' H' e' w' i' => q z B' H' ((e2.trans e3).trans e') w' i'
theorem ev_opR (h2 : EvD K B O G tb (.int m)) (h1 : EvP K B O G ta (IsLS K C L)) (ok : LOk L) (ho : out L m = .ok M) : EvP K B O G (tOp (rRadd C (SpOp1 K C out) E) tb ta) (IsLS K C M) := fun B1 O1 σ H e o s Q q =>
  h2 B1 O1 σ H e o s _ fun v B2 H2 e2 w2 d2 => h1 B2 O1 σ H2 (e.trans e2) o (s.ex e2 w2) _ fun u B3 H3 e3 w3 p1 => by
    obtain ⟨x, dx, fs, _, _, ev, hx, _⟩ := id p1
    subst ev
    rw [dp_int d2]
    refine ⟨x, dx, fs, m, rfl, rfl, w3.b _ _ hx, B3, O1, .ref x, L, m, rfl, w3, p1, ok, ?_⟩
    rw [ho]
    exact fun z B' H' e' w' i' => q z B' H' ((e2.trans e3).trans e') w' i'
/-- x op= k -/
theorem q_aug (st : Sta K B O G σ H) (hg : G[i]? = some (.val v)) (p1 : IsLS K C L B v) (ok : LOk L) (h2 : EvD K B O G tb (.int m)) (ho : out L m = .ok M)
    (k : ∀ u B' H', Ex B B' → IsLS K C M B' u → Sta K B' O (G.set i (.val u)) (σ.set i (some u)) H' → tz D (σ.set i (some u)) H') : tSeq (tAug i tb (rBinInt C (SpOp1 K C out) E)) tz D σ H := by
  obtain ⟨sv, e1, e2⟩ := st.s.get hg
  have e3 : sv = some v := e2
  subst e3
  refine ⟨v, e1, h2 B O σ H (Ex.refl _) (Ex.refl _) st _ fun w B2 H2 x2 w2 d2 => ?_⟩
  have p1 := p1.ex x2
  obtain ⟨x, dx, fs, _, _, ev, hx, _⟩ := id p1
  subst ev
  rw [dp_int d2]
  refine ⟨x, dx, fs, m, rfl, rfl, w2.b _ _ hx, B2, O, .ref x, L, m, rfl, w2, p1, ok, ?_⟩
  rw [ho]
  exact fun z B' H' e' w' i' => k z B' H' (x2.trans e') i' ((st.ex (x2.trans e') w').setV i)
theorem wl_map {h : Nat → Bool} {n : Nat} : whole_list (mem h n) = ((List.range n).filter h).map fun (i : Nat) => PyData.int (i : Int) := by
  unfold mem whole_list
  rw [List.map_map]
  rfl
/-- numbers of a list that pass a test, each changed -/
theorem ev_comp {n : Nat} {h g : Nat → Bool} {f : Nat → Int} {tt : TT} {wi : TI} {l : List Int} (hi : i < G.length) (hn : n ≤ 100000) (hI : EvI K B O G wi (whole_list (mem h n))) (ht : ∀ x : Nat, x < n → EvT K B O ((wipeG G [i]).set i (.dat (.int (x : Int)))) tt (g x))
    (he : ∀ x : Nat, x < n → EvD K B O ((wipeG G [i]).set i (.dat (.int (x : Int)))) te (.int (f x))) (el : (((List.range n).filter h).filter g).map f = l) : EvD K B O G (tLc wi (gName i) tt te [i]) (.list (whole_list l)) := by
  rw [wl_map] at hI
  have e2 : whole_list l = (((List.range n).filter h).filter g).map fun (i : Nat) => PyData.int (f i) := by
    rw [← el]
    unfold whole_list
    rw [List.map_map]
    rfl
  rw [e2]
  refine ev_lcT ((List.range n).filter h) _ g (fun (i : Nat) => PyData.int (f i)) (fun x => (wipeG G [i]).set i (.dat (.int (x : Int)))) hI ?_ (fun x _ => eg_nameW (by simp)) (fun x hx => ht x (List.mem_range.mp (List.mem_filter.mp hx).1)) (fun x hx _ => he x (List.mem_range.mp (List.mem_filter.mp hx).1))
  have := List.length_filter_le h (List.range n)
  rw [List.length_range] at this
  omega
theorem ei_rng {n : Nat} (hn : n ≤ 100000) : EvI K B O G (iRng1 (tCons (tC (.int (n : Int))) tNil)) (whole_list (mem (fun _ => true) n)) := by
  have e : whole_list (mem (fun _ => true) n) = rangeD 0 (n : Int).toNat := by
    unfold mem whole_list rangeD
    rw [List.filter_eq_self.mpr fun _ _ => rfl, List.map_map]
    refine List.map_congr_left fun i _ => ?_
    show PyData.int (i : Int) = PyData.int (0 + (i : Int))
    rw [show (0 : Int) + (i : Int) = i by omega]
  rw [e]
  exact ei_range1 (ea_cons ev_int ea_nil) (by omega)
theorem no_ne {a b : List Int} (h : a = b) : (!decide (a = b)) = false := by
  rw [decide_eq_true h]
  rfl
theorem filt_true {h : Nat → Bool} {n : Nat} : (((List.range n).filter fun _ => true).filter h).map (fun (x : Nat) => (x : Int)) = mem h n := by
  rw [show ((List.range n).filter fun _ => true) = List.range n from List.filter_eq_self.mpr fun _ _ => rfl]
  rfl
end

section
variable {P : Program} {w : World} {K : PySem.W.Frag} {mg : Str → Option Value} {base : Heap}


theorem ok_law_shifts {f CN CT CS : Addr} {fd : FuncData} (T : Txt K mg) (S : SetC K mg CS) (Os : OpsS P w K mg base CS) (Oa : OpsA P w K mg base CN CT CS)
    (C_law_made : Cal P w K mg base 10 "_law_made" ["fields"] (SpMade K CS)) (C_law_has : Cal P w K mg base 2 "_law_has" ["fields", "number"] (SpR K R_has)) (C_law_members : Cal P w K mg base 8 "_law_members" ["lengths"] (SpMem K CS))
    (a : At K mg "_law_shifts" s_law_shifts ["fields", "many"] f fd) : FnOk P w K mg base CX0 14 f fd ["fields", "many"] (SpShifts K) := by
  obtain ⟨⟨fi, fdi, hin, hinf, Fin, Bin⟩, ⟨fe, fde, heq, heqf, Feq, Beq_⟩, hne, hmro⟩ := Os
  obtain ⟨⟨cdC, hcd, hmr⟩, sf, ni, nj, ⟨_, _, or1, or2, or3, or4⟩, ⟨_, _, an1, an2, an3, an4⟩, ⟨_, _, su1, su2, su3, su4⟩, ⟨_, _, si1, si2, si3, si4⟩, ⟨_, _, ad1, ad2, ad3, ad4⟩, ⟨_, _, ra1, ra2, ra3, ra4⟩, ⟨_, _, nv1, nv2, nv3, nv4⟩, ⟨_, _, bo1, bo2, bo3, bo4⟩, ⟨_, _, le1, le2, le3, le4⟩, rs1, ia1, is1⟩ := Oa
  refine a.fn.ok sc_law_shifts (fun vs H Q E h => ?_) (fun cdv A outer s0 H vs Q E hr h => ?_)
  · obtain ⟨B, O, v, F, m, rfl, _⟩ := h
    rfl
  obtain ⟨B, O, v, F, m, rfl, hw, hv, okF, hm, q⟩ := h
  refine ⟨_, (pss_cons (ps_set (i := 2) sc_law_shifts.nd rfl (Or.inl rfl) (pe_cal C_law_made hr (by omega) (by rfl) (pa_cons (pv 0) pa_nil)))
    (pss_cons (ps_setLc (i := 3) (own := [("number", 6)]) (by rfl) sc_law_shifts.nd rfl rfl (sw_true rfl rfl rfl (by decide +kernel)) (pi_range1 (by rfl) T.b_range (pa_cons pe_int pa_nil)) (blkOk_by (own := [("number", 6)]) (N := N_sc_law_shifts) (sc := defScope s_law_shifts) (by decide +kernel)) (fun _ _ _ _ _ => (pg_name (i := 6) sc_law_shifts.nd rfl (Or.inl rfl))) (fun _ _ _ _ _ => (pts_one (pt_val (pe_cal C_law_has hr (by omega) (by rfl) (pa_cons (pv 0) (pa_cons (pv 6) pa_nil)))))) (fun _ _ _ _ _ => (pv 6)))
    (pss_cons (ps_setLc (i := 4) (own := [("number", 6)]) (by rfl) sc_law_shifts.nd rfl rfl (sw_true rfl rfl rfl (by decide +kernel)) (pi_listK K (pv 3)) (blkOk_by (own := [("number", 6)]) (N := N_sc_law_shifts) (sc := defScope s_law_shifts) (by decide +kernel)) (fun _ _ _ _ _ => (pg_name (i := 6) sc_law_shifts.nd rfl (Or.inl rfl))) (fun _ _ _ _ _ => (pts_one (pt_cmpR op_lt (pe_op op_add (pv 6) (pv 1)) pe_int (nomark _)))) (fun _ _ _ _ _ => (pe_op op_add (pv 6) (pv 1))))
    (pss_cons (ps_if (PW.pt (pw_or (pt_cmpR (op_neDK K hr.units) (pe_cal C_law_members hr (by omega) (by rfl) (pa_cons (pe_op (op_binInt (op := .Add) sf ad1 ad2 ra1 (.inr ⟨_, rfl⟩) int_add int_radd ni ad3 ad4 (Room.mono hr (by omega)) passL) (pv 2) (pv 1)) pa_nil)) (pv 4) (nomark _)) (pw_or (pt_cmpR (op_neDK K hr.units) (pe_cal C_law_members hr (by omega) (by rfl) (pa_cons (pe_op (op_radd sf ad1 ra1 ra2 nj ra3 ra4 (Room.mono hr (by omega)) passL) (pv 1) (pv 2)) pa_nil)) (pv 4) (nomark _)) (pw_or1 (pt_cmpR (op_neOwn hmro hne heq heqf Feq Beq_ (Room.mono hr (by omega)) pass0) (pe_op (op_binInt (op := .Sub) sf si1 si2 rs1 (.inl rfl) int_sub int_rsub ni si3 si4 (Room.mono hr (by omega)) passL) (pe_op (op_binInt (op := .Add) sf ad1 ad2 ra1 (.inr ⟨_, rfl⟩) int_add int_radd ni ad3 ad4 (Room.mono hr (by omega)) passL) (pv 2) (pv 1)) (pv 1)) (pv 2) (by rfl)))))) (pss_one (ps_ret pe_bl)) pss_nil)
    (pss_cons (ps_if (pt_cmpR (op_neDK K hr.units) (pe_cal C_law_members hr (by omega) (by rfl) (pa_cons (pe_op (op_binInt (op := .Sub) sf si1 si2 rs1 (.inl rfl) int_sub int_rsub ni si3 si4 (Room.mono hr (by omega)) passL) (pv 2) (pv 1)) pa_nil)) (pe_lc (own := [("number", 6)]) (by rfl) sc_law_shifts.nd (pi_listK K (pv 3)) (blkOk_by (own := [("number", 6)]) (N := N_sc_law_shifts) (sc := defScope s_law_shifts) (by decide +kernel)) (fun _ _ _ _ _ => (pg_name (i := 6) sc_law_shifts.nd rfl (Or.inl rfl))) (fun _ _ _ _ _ => (pts_one (pt_chain op_le op_lt pe_int (pe_op op_sub (pv 6) (pv 1)) pe_int))) (fun _ _ _ _ _ => (pe_op op_sub (pv 6) (pv 1)))) (nomark _)) (pss_one (ps_ret pe_bl)) pss_nil)
    (pss_cons (ps_set (i := 5) sc_law_shifts.nd rfl (Or.inl rfl) (pv 2))
    (pss_cons (ps_aug (i := 2) sc_law_shifts.nd rfl (Or.inl rfl) (pv 1) (ip_binInt (op := .Add) hcd hmr ia1 obj_iadd sf ad1 ad2 ra1 (.inr ⟨_, rfl⟩) int_add int_radd ni ad3 ad4 (Room.mono hr (by omega)) passL))
    (pss_cons (ps_if (PW.pt (pw_or (pt_cmpR (op_neOwn hmro hne heq heqf Feq Beq_ (Room.mono hr (by omega)) pass0) (pv 2) (pe_op (op_binInt (op := .Add) sf ad1 ad2 ra1 (.inr ⟨_, rfl⟩) int_add int_radd ni ad3 ad4 (Room.mono hr (by omega)) passL) (pv 5) (pv 1)) (by rfl)) (pw_or1 (pt_cmpR (op_neDK K hr.units) (pe_cal C_law_members hr (by omega) (by rfl) (pa_cons (pv 5) pa_nil)) (pe_lc (own := [("number", 6)]) (by rfl) sc_law_shifts.nd (pi_listK K (pv 3)) (blkOk_by (own := [("number", 6)]) (N := N_sc_law_shifts) (sc := defScope s_law_shifts) (by decide +kernel)) (fun _ _ _ _ _ => (pg_name (i := 6) sc_law_shifts.nd rfl (Or.inl rfl))) (fun _ _ _ _ _ => (pts_one (pt_cmpR op_lt (pv 6) pe_int (nomark _)))) (fun _ _ _ _ _ => (pv 6))) (nomark _))))) (pss_one (ps_ret pe_bl)) pss_nil)
    (pss_cons (ps_aug (i := 2) sc_law_shifts.nd rfl (Or.inl rfl) (pv 1) (ip_binInt (op := .Sub) hcd hmr is1 obj_isub sf si1 si2 rs1 (.inl rfl) int_sub int_rsub ni si3 si4 (Room.mono hr (by omega)) passL))
    (pss_one (ps_ret (pe_cmpR (op_cmpOwn (op := .Eq) (fun _ _ => rfl) heq heqf Feq Beq_ (Room.mono hr (by omega)) pass0) (pv 2) (pv 5) (by rfl))))))))))))), ?_⟩
  have st : Sta K B O [.dat F.enc, .dat (.int (m : Int)), .un, .un, .un, .un, .un] (L2.start N_sc_law_shifts [v, .int (m : Int)]) H := ⟨hw, ⟨⟨_, rfl, hv⟩, ⟨_, rfl, .int _⟩, trivial, trivial, trivial, trivial, trivial, trivial⟩⟩
  have pF : 0 < F.rhythm := by have := okF.r0.1; omega
  have iF := is_fld okF
  have sF := iF.s
  have iU := is_up (m := m) iF (by omega)
  have iD := is_down (m := m) iF
  have iUD := is_down (m := m) iU
  have eU := up_ok (CN := CN) (CT := CT) (L := F.ls) (m := m) (by omega)
  have eD := dn_ok (CN := CN) (L := F.ls) (m := m)
  have eUD := dn_ok (CN := CN) (L := upL F.ls m) (m := m)
  have same : (upL F.ls m |> fun L => dnL L m).marks = F.ls.marks ∧ (upL F.ls m |> fun L => dnL L m).cycle = F.ls.cycle := nrm_same iUD.n iF.n fun i => by
    rw [iUD.m i, iF.m i, decide_eq_true (show m ≤ i + m by omega), Bool.true_and, Nat.add_sub_cancel]
  refine q_asgP st (ev_madeF (C := CS) (ev_var rfl) okF) fun va B1 H1 x1 pa st => ?_
  refine q_asg st (d := memD (hF F) 80) (ev_comp (h := fun _ => true) (g := hF F) (n := 80) (f := fun x => (x : Int)) (by simp) (by decide) (ei_rng (n := 80) (by decide)) (fun x hx => et_test (ev_has (ev_var rfl) (ev_var rfl) pF)) (fun x hx => ev_var rfl) filt_true) fun v2 B2 H2 x2 d2 st => ?_
  refine q_asg st (d := memD (fun i => decide (m ≤ i) && hF F (i - m)) 60) (ev_comp (h := hF F) (n := 80) (by simp) (by decide) (ei_list (ev_var rfl)) (fun x hx => et_test (ev_op (ev_op (ev_var rfl) (ev_var rfl) rd_I0) ev_int rd_B0)) (fun x hx => ev_op (ev_var rfl) (ev_var rfl) rd_I0) (up_list (by omega))) fun v3 B3 H3 x3 d3 st => ?_
  have pa := pa.ex (x2.trans x3)
  refine q_whenF st (et_is (et_or (a := false) (b := false) (et_test (ev_op (ev_mem (ev_opI (ev_ls rfl pa) iF.n.ok (ev_var rfl) eU) iU) (ev_var rfl) (rd_neM (no_ne rfl)))) fun _ =>
    et_or (a := false) (b := false) (et_test (ev_op (ev_mem (ev_opR (ev_var rfl) (ev_ls rfl pa) iF.n.ok eU) iU) (ev_var rfl) (rd_neM (no_ne rfl)))) fun _ =>
    et_test (ev_is (ev_neS (ev_opI (ev_opI (ev_ls rfl pa) iF.n.ok (ev_var rfl) eU) iU.n.ok (ev_var rfl) eUD) (ev_ls rfl pa)) (by rw [one_true same]; rfl))) rfl) fun B4 H4 x4 st => ?_
  have pa := pa.ex x4
  refine q_whenF st (et_test (ev_op (ev_mem (ev_opI (ev_ls rfl pa) iF.n.ok (ev_var rfl) eD) iD) (ev_comp (h := hF F) (n := 80) (by simp) (by decide) (ei_list (ev_var rfl)) (fun x hx => et_test (ev_chain ev_int (ev_op (ev_var rfl) (ev_var rfl) rd_I0) (fun _ => ev_int) rd_B0 (fun _ => rd_B0))) (fun x hx => ev_op (ev_var rfl) (ev_var rfl) rd_I0) (dn_list (by omega))) (rd_neM (no_ne rfl)))) fun B5 H5 x5 st => ?_
  have pa := pa.ex x5
  refine q_asgP st (ev_ls rfl pa) fun vh B6 H6 x6 ph st => ?_
  have pa := pa.ex x6
  refine q_aug st rfl pa iF.n.ok (ev_var rfl) eU fun vu B7 H7 x7 pu st => ?_
  have ph := ph.ex x7
  refine q_whenF st (et_is (et_or (a := false) (b := false) (et_test (ev_is (ev_neS (ev_ls rfl pu) (ev_opI (ev_ls rfl ph) iF.n.ok (ev_var rfl) eU)) (by rw [one_true ⟨rfl, rfl⟩]; rfl))) fun _ =>
    et_test (ev_op (ev_mem (ev_ls rfl ph) iF) (ev_comp (h := hF F) (n := 80) (by simp) (by decide) (ei_list (ev_var rfl)) (fun x hx => et_test (ev_op (ev_var rfl) ev_int rd_B0)) (fun x hx => ev_var rfl) low_list) (rd_neM (no_ne rfl)))) rfl) fun B8 H8 x8 st => ?_
  have ph := ph.ex x8
  have pu := pu.ex x8
  refine q_aug st rfl pu iU.n.ok (ev_var rfl) eUD fun vd B9 H9 x9 pd st => ?_
  have ph := ph.ex x9
  refine s_ret st (ev_eqS (ev_ls rfl pd) (ev_ls rfl ph)) fun z B10 H10 x10 w10 d10 => ?_
  rw [one_true same] at d10
  rw [dp_bool d10]
  exact q B10 H10 ((((((((x1.trans x2).trans x3).trans x4).trans x5).trans x6).trans x7).trans x8).trans (x9.trans x10)) w10
end

end Toy
set_option Elab.async false
set_option linter.all false
set_option maxRecDepth 100000
set_option maxHeartbeats 4000000
namespace Toy
open PySem PySem.Spec PyProof.Rows L2 StX DL


def opOut (CN CT : Addr) (k : Nat) (L : LS) (m : Int) : MkOut := if k < 2 then upOut CN CT L m else dnOut CN L m
def ansM (CN : Addr) : MkOut → PyData
  | .ok _ => .none
  | .exc C _ x => if C = CN then .tuple [.str "set", .str x] else .tuple [.str "large", .str x]
def SpAns (K : PySem.W.Frag) (CN CT CS : Addr) : Sp := fun vs H Q _ => ∃ (B O : Hp) (v : V) (L : LS) (m : Int) (k : Nat), vs = [v, .int m, .int (k : Int)] ∧ W B O H ∧ IsLS K CS L B v ∧ LOk L ∧ k < 3 ∧ ∀ z B' H', Ex B B' → W B' O H' → Dt K B' z (ansM CN (opOut CN CT k L m)) → Q z H'
def joinD (L M : LS) : PyData := if 5000 < lcmP L M then .tuple [.str "large", .str "period"] else .none
def SpJoin (K : PySem.W.Frag) (CS : Addr) : Sp := fun vs H Q _ => ∃ (B O : Hp) (v u : V) (L M : LS) (k : Nat), vs = [v, u, .int (k : Int)] ∧ W B O H ∧ IsLS K CS L B v ∧ IsLS K CS M B u ∧ LOk L ∧ LOk M ∧ k < 3 ∧ ∀ z B' H', Ex B B' → W B' O H' → Dt K B' z (joinD L M) → Q z H'
theorem up_exc {CN CT : Addr} {L : LS} {m : Int} {C : Addr} {f x : Str} (h : upOut CN CT L m = .exc C f x) : (C = CN ∧ f = "place") ∨ (C = CT ∧ f = "limit") := by
  unfold upOut at h
  split at h
  · cases h
    exact .inl ⟨rfl, rfl⟩
  · split at h
    · cases h
      exact .inr ⟨rfl, rfl⟩
    · cases h
theorem dn_exc {CN CT : Addr} {L : LS} {m : Int} {C : Addr} {f x : Str} (h : dnOut CN L m = .exc C f x) : (C = CN ∧ f = "place") ∨ (C = CT ∧ f = "limit") := by
  unfold dnOut at h
  split at h
  · cases h
    exact .inl ⟨rfl, rfl⟩
  · cases h
section
variable {K : PySem.W.Frag} {B O : Hp} {G : List SD} {ta tb tc te tn : TE} {C CN CT : Addr} {L M : LS} {d x y z : PyData} {E : XK} {t : TA} {σ : L2.St} {H : Hp} {D : Ends} {tz : TS} {m : Int} {out : LS → Int → MkOut} {v : V} {i j : Nat}
/-- a set from a set and a number, or an error -/
theorem mk_both {o : MkOut} {Q : VK} {B1 : Hp} (k1 : ∀ M, o = .ok M → ∀ u B' H', Ex B1 B' → W B' O H' → IsLS K C M B' u → Q u H') (k2 : ∀ C1 f y, o = .exc C1 f y → ∀ pp B' H', Ex B1 B' → W B' O H' → B' pp = some (.xd [(f, .str y)]) → E (.ref C1) (some pp) H') : MkOkV K B1 O C Q E o := by
  cases o with
  | ok M => exact k1 M rfl
  | exc C1 f y => exact k2 C1 f y rfl
theorem s_asgI (st : Sta K B O G σ H) (h1 : EvP K B O G ta (IsLS K C L)) (ok : LOk L) (h2 : EvD K B O G tb (.int m)) (k1 : ∀ M, out L m = .ok M → ∀ u B' H', Ex B B' → Sta K B' O (G.set i (.val u)) (σ.set i (some u)) H' → D.nx (σ.set i (some u)) H')
    (k2 : ∀ C1 f y, out L m = .exc C1 f y → ∀ pp B' H', Ex B B' → W B' O H' → B' pp = some (.xd [(f, .str y)]) → E (.ref C1) (some pp) H') : tAsg (tOp (rBinInt C (SpOp1 K C out) E) ta tb) (gName i) D σ H :=
  h1 B O σ H (Ex.refl _) (Ex.refl _) st _ fun u B2 H2 e2 w2 p1 => h2 B2 O σ H2 e2 (Ex.refl _) (st.ex e2 w2) _ fun v B3 H3 e3 w3 d2 => by
    have p1 := p1.ex e3
    obtain ⟨x, dx, fs, _, _, ev, hx, _⟩ := id p1
    subst ev
    rw [dp_int d2]
    exact ⟨x, dx, fs, m, rfl, rfl, w3.b _ _ hx, B3, O, .ref x, L, m, rfl, w3, p1, ok, mk_both (fun M hM z B' H' e' w' _ => k1 M hM z B' H' ((e2.trans e3).trans e') ((st.ex ((e2.trans e3).trans e') w').setV i)) (fun C1 f y ho pp B' H' e' w' hp => k2 C1 f y ho pp B' H' ((e2.trans e3).trans e') w' hp)⟩
theorem s_asgR (st : Sta K B O G σ H) (h2 : EvD K B O G tb (.int m)) (h1 : EvP K B O G ta (IsLS K C L)) (ok : LOk L) (k1 : ∀ M, out L m = .ok M → ∀ u B' H', Ex B B' → Sta K B' O (G.set i (.val u)) (σ.set i (some u)) H' → D.nx (σ.set i (some u)) H')
    (k2 : ∀ C1 f y, out L m = .exc C1 f y → ∀ pp B' H', Ex B B' → W B' O H' → B' pp = some (.xd [(f, .str y)]) → E (.ref C1) (some pp) H') : tAsg (tOp (rRadd C (SpOp1 K C out) E) tb ta) (gName i) D σ H :=
  h2 B O σ H (Ex.refl _) (Ex.refl _) st _ fun v B2 H2 e2 w2 d2 => h1 B2 O σ H2 e2 (Ex.refl _) (st.ex e2 w2) _ fun u B3 H3 e3 w3 p1 => by
    obtain ⟨x, dx, fs, _, _, ev, hx, _⟩ := id p1
    subst ev
    rw [dp_int d2]
    exact ⟨x, dx, fs, m, rfl, rfl, w3.b _ _ hx, B3, O, .ref x, L, m, rfl, w3, p1, ok, mk_both (fun M hM z B' H' e' w' _ => k1 M hM z B' H' ((e2.trans e3).trans e') ((st.ex ((e2.trans e3).trans e') w').setV i)) (fun C1 f y ho pp B' H' e' w' hp => k2 C1 f y ho pp B' H' ((e2.trans e3).trans e') w' hp)⟩
theorem s_asgB {f : Bool → Bool → Bool} (st : Sta K B O G σ H) (h1 : EvP K B O G ta (IsLS K C L)) (h2 : EvP K B O G tb (IsLS K C M)) (okL : LOk L) (okM : LOk M) (k1 : lcmP L M ≤ 5000 → ∀ u B' H', Ex B B' → Sta K B' O (G.set i (.val u)) (σ.set i (some u)) H' → D.nx (σ.set i (some u)) H')
    (k2 : 5000 < lcmP L M → ∀ pp B' H', Ex B B' → W B' O H' → B' pp = some (.xd [("limit", .str "period")]) → E (.ref CT) (some pp) H') : tAsg (tOp (rBinOwn C (SpBin K CT C f) E) ta tb) (gName i) D σ H :=
  h1 B O σ H (Ex.refl _) (Ex.refl _) st _ fun u B2 H2 e2 w2 p1 => h2 B2 O σ H2 e2 (Ex.refl _) (st.ex e2 w2) _ fun v B3 H3 e3 w3 p2 => by
    have p1 := p1.ex e3
    obtain ⟨x, dx, fs, _, _, ev, hx, _⟩ := id p1
    obtain ⟨y, dy, gs, _, _, ev2, hy, _⟩ := id p2
    subst ev ev2
    refine ⟨x, dx, fs, y, dy, gs, rfl, rfl, w3.b _ _ hx, w3.b _ _ hy, B3, O, .ref x, .ref y, L, M, rfl, w3, p1, p2, okL, okM, ?_⟩
    unfold binOut
    by_cases hb : 5000 < lcmP L M
    · rw [if_pos hb]
      exact fun pp B' H' e' w' hp => k2 hb pp B' H' ((e2.trans e3).trans e') w' hp
    · rw [if_neg hb]
      exact fun z B' H' e' w' _ => k1 (by omega) z B' H' ((e2.trans e3).trans e') ((st.ex ((e2.trans e3).trans e') w').setV i)
theorem ev_xf' {i : Nat} {a C pp : Addr} {f x : Str} (hg : G[i]? = some (.val (.ref a))) (hb : B pp = some (.xd [(f, .str x)])) : EvD K B O G (tXf a (.ref C) (some pp) C f (tVar i)) (.str x) := fun B1 O1 σ H e o st Q q => by
  obtain ⟨sv, h1, h2⟩ := st.s.get hg
  have h3 : sv = some (.ref a) := h2
  subst h3
  exact ⟨_, h1, rfl, rfl, pp, [(f, .str x)], .str x, rfl, st.w.b _ _ (e _ _ hb), by simp [List.lookup], q _ B1 H (Ex.refl _) st.w (.str x)⟩
theorem slots_four {σ : L2.St} {B : Hp} {a : Addr} (h : σ.length = 4) : Slots K B (σ.set 3 (some (.ref a))) [.un, .un, .un, .val (.ref a)] := by
  match σ, h with
  | [x, y, z, u], _ => exact ⟨trivial, trivial, trivial, rfl, trivial⟩
abbrev tellX (s : Str) (f : Str) (C : Addr) : Addr → Value → Option Addr → TS := fun a cls d => tRet (tTup (tCons (tC (.str s)) (tCons (tXf a cls d C f (tVar 3)) tNil)))
end

section
variable {P : Program} {w : World} {K : PySem.W.Frag} {mg : Str → Option Value} {base : Heap}


theorem hand_ok {CN CT CL : Addr} {Wout : WX} {D : Ends} {C1 pp : Addr} {f1 x1 : Str} {B1 O H1 : Hp} {σ' : L2.St} (Er : Errs P w K mg base CN CT CL) (hc : (C1 = CN ∧ f1 = "place") ∨ (C1 = CT ∧ f1 = "limit")) (hw : W B1 O H1) (hp : B1 pp = some (.xd [(f1, .str x1)])) (hσ : σ'.length = 4)
    (q : ∀ z B3 H3, Ex B1 B3 → W B3 O H3 → Dt K B3 z (ansM CN (.exc C1 f1 x1)) → D.rt z H3) : wAll K 3 Wout D [(.ref CN, tellX "set" "place" CN), (.ref CT, tellX "large" "limit" CT)] (.ref C1) (some pp) σ' H1 := by
  rcases hc with ⟨rfl, rfl⟩ | ⟨rfl, rfl⟩
  · refine ⟨true, Er.nn, fun _ a ha => ?_, fun z => Bool.noConfusion z⟩
    have st2 : Sta K B1 O [.un, .un, .un, .val (.ref a)] (σ'.set 3 (some (.ref a))) H1 := ⟨hw, slots_four hσ⟩
    refine s_ret st2 (ev_tup (ea_cons ev_str (ea_cons (ev_xf' rfl hp) ea_nil)) (by simp)) fun v B3 H3 x3 w3 d3 => q v B3 H3 x3 w3 ?_
    rw [show ansM C1 (.exc C1 "place" x1) = .tuple [.str "set", .str x1] from if_pos rfl]
    exact d3
  · refine ⟨false, Er.tn, fun z => Bool.noConfusion z, fun _ => ⟨true, Er.tt, fun _ a ha => ?_, fun z => Bool.noConfusion z⟩⟩
    have st2 : Sta K B1 O [.un, .un, .un, .val (.ref a)] (σ'.set 3 (some (.ref a))) H1 := ⟨hw, slots_four hσ⟩
    refine s_ret st2 (ev_tup (ea_cons ev_str (ea_cons (ev_xf' rfl hp) ea_nil)) (by simp)) fun v B3 H3 x3 w3 d3 => q v B3 H3 x3 w3 ?_
    rw [show ansM CN (.exc C1 "limit" x1) = .tuple [.str "large", .str x1] from if_neg (Ne.symm Er.ne)]
    exact d3
theorem ok_law_answer {f CN CT CS CL : Addr} {fd : FuncData} (T : Txt K mg) (Er : Errs P w K mg base CN CT CL) (Oa : OpsA P w K mg base CN CT CS)
    (a : At K mg "_law_answer" s_law_answer ["a", "many", "kind"] f fd) : FnOk P w K mg base CX0 14 f fd ["a", "many", "kind"] (SpAns K CN CT CS) := by
  obtain ⟨⟨cdC, hcd, hmr⟩, sf, ni, nj, ⟨_, _, or1, or2, or3, or4⟩, ⟨_, _, an1, an2, an3, an4⟩, ⟨_, _, su1, su2, su3, su4⟩, ⟨_, _, si1, si2, si3, si4⟩, ⟨_, _, ad1, ad2, ad3, ad4⟩, ⟨_, _, ra1, ra2, ra3, ra4⟩, ⟨_, _, nv1, nv2, nv3, nv4⟩, ⟨_, _, bo1, bo2, bo3, bo4⟩, ⟨_, _, le1, le2, le3, le4⟩, rs1, ia1, is1⟩ := Oa
  refine a.fn.ok sc_law_answer (fun vs H Q E h => ?_) (fun cdv A outer s0 H vs Q E hr h => ?_)
  · obtain ⟨B, O, v, L, m, k, rfl, _⟩ := h
    rfl
  obtain ⟨B, O, v, L, m, k, rfl, hw, hL, ok, hk, q⟩ := h
  refine ⟨_, (pss_cons (ps_try_all (i := 3) rfl rfl sc_law_answer.nd rfl rfl takes0 (fun W pn xe tk _ => (pss_one (ps_if (pt_cmpR op_eq (pv 2) pe_int (nomark _)) (pss_one (ps_set (i := 0) sc_law_answer.nd rfl (Or.inl rfl) (pe_op (op_binInt (op := .Add) sf ad1 ad2 ra1 (.inr ⟨_, rfl⟩) int_add int_radd ni ad3 ad4 (Room.mono hr (by omega)) (passN (m := 4) tk (by rfl))) (pv 0) (pv 1)))) (pss_one (ps_if (pt_cmpR op_eq (pv 2) pe_int (nomark _)) (pss_one (ps_set (i := 0) sc_law_answer.nd rfl (Or.inl rfl) (pe_op (op_radd sf ad1 ra1 ra2 nj ra3 ra4 (Room.mono hr (by omega)) (passN (m := 4) tk (by rfl))) (pv 1) (pv 0)))) (pss_one (ps_set (i := 0) sc_law_answer.nd rfl (Or.inl rfl) (pe_op (op_binInt (op := .Sub) sf si1 si2 rs1 (.inl rfl) int_sub int_rsub ni si3 si4 (Room.mono hr (by omega)) (passN (m := 4) tk (by rfl))) (pv 0) (pv 1))))))))) (Clauses.more ⟨by rfl, by decide, .inl Er.n.g⟩ (fun a oe cls d pn hz hf => (pss_one (ps_ret (pe_tup (pa_cons pe_str (pa_cons (pe_xf Er.n.X Er.n.no hz hf (pv 3)) pa_nil)))))) (Clauses.more ⟨by rfl, by decide, .inl Er.t.g⟩ (fun a oe cls d pn hz hf => (pss_one (ps_ret (pe_tup (pa_cons pe_str (pa_cons (pe_xf Er.t.X Er.t.no hz hf (pv 3)) pa_nil)))))) Clauses.none)))
    (pss_one (ps_ret pe_non))), ?_⟩
  have st : Sta K B O [.val v, .dat (.int m), .dat (.int (k : Int)), .un] (L2.start N_sc_law_answer [v, .int m, .int (k : Int)]) H := ⟨hw, ⟨rfl, ⟨_, rfl, .int _⟩, ⟨_, rfl, .int _⟩, trivial, trivial⟩⟩
  have fine : ∀ {B1 H1 : Hp} {σ1 : L2.St} {G1 : List SD}, (∃ M, opOut CN CT k L m = .ok M) → Ex B B1 → Sta K B1 O G1 σ1 H1 → tRet (tC V.non) { nx := fun _ H' => Q .non H', rt := Q } σ1 H1 := fun {B1 H1 σ1 G1} ⟨M, hM⟩ x1 st => by
    rw [hM] at q
    exact s_ret st ev_non fun z B2 H2 x2 w2 d2 => q z B2 H2 (x1.trans x2) w2 d2
  have bad : ∀ {C1 : Addr} {f1 x1 : Str} {B1 H1 : Hp}, opOut CN CT k L m = .exc C1 f1 x1 → Ex B B1 → ∀ z B3 H3, Ex B1 B3 → W B3 O H3 → Dt K B3 z (ansM CN (.exc C1 f1 x1)) → Q z H3 := fun {C1 f1 x1 B1 H1} hx e1 z B3 H3 e3 w3 d3 => by
    rw [hx] at q
    exact q z B3 H3 (e1.trans e3) w3 d3
  have hk3 : k = 0 ∨ k = 1 ∨ k = 2 := by omega
  rcases hk3 with rfl | rfl | rfl
  · refine s_if st (b := true) (et_is (et_test (ev_op (ev_var rfl) ev_int rd_eqInt)) rfl) (fun _ B1 H1 x1 st => ?_) (fun z => Bool.noConfusion z)
    have hL1 := hL.ex x1
    exact s_asgI st (ev_ls rfl hL1) ok (ev_var rfl) (fun M hM u B' H' e' st => fine ⟨M, hM⟩ (x1.trans e') st) fun C1 f1 y ho pp B' H' e' w' hp σ' hσ => hand_ok Er (up_exc ho) w' hp hσ (bad (H1 := H') ho (x1.trans e'))
  · refine s_if st (b := false) (et_is (et_test (ev_op (ev_var rfl) ev_int rd_eqInt)) rfl) (fun z => Bool.noConfusion z) (fun _ B1 H1 x1 st => ?_)
    refine s_if st (b := true) (et_is (et_test (ev_op (ev_var rfl) ev_int rd_eqInt)) rfl) (fun _ B2 H2 x2 st => ?_) (fun z => Bool.noConfusion z)
    have hL1 := hL.ex (x1.trans x2)
    exact s_asgR st (ev_var rfl) (ev_ls rfl hL1) ok (fun M hM u B' H' e' st => fine ⟨M, hM⟩ ((x1.trans x2).trans e') st) fun C1 f1 y ho pp B' H' e' w' hp σ' hσ => hand_ok Er (up_exc ho) w' hp hσ (bad (H1 := H') ho ((x1.trans x2).trans e'))
  · refine s_if st (b := false) (et_is (et_test (ev_op (ev_var rfl) ev_int rd_eqInt)) rfl) (fun z => Bool.noConfusion z) (fun _ B1 H1 x1 st => ?_)
    refine s_if st (b := false) (et_is (et_test (ev_op (ev_var rfl) ev_int rd_eqInt)) rfl) (fun z => Bool.noConfusion z) (fun _ B2 H2 x2 st => ?_)
    have hL1 := hL.ex (x1.trans x2)
    exact s_asgI st (ev_ls rfl hL1) ok (ev_var rfl) (fun M hM u B' H' e' st => fine ⟨M, hM⟩ ((x1.trans x2).trans e') st) fun C1 f1 y ho pp B' H' e' w' hp σ' hσ => hand_ok Er (dn_exc (CT := CT) ho) w' hp hσ (bad (H1 := H') ho ((x1.trans x2).trans e'))
theorem ok_law_joined {f CN CT CS CL : Addr} {fd : FuncData} (T : Txt K mg) (Er : Errs P w K mg base CN CT CL) (Oa : OpsA P w K mg base CN CT CS)
    (a : At K mg "_law_joined" s_law_joined ["one", "other", "kind"] f fd) : FnOk P w K mg base CX0 14 f fd ["one", "other", "kind"] (SpJoin K CS) := by
  obtain ⟨⟨cdC, hcd, hmr⟩, sf, ni, nj, ⟨_, _, or1, or2, or3, or4⟩, ⟨_, _, an1, an2, an3, an4⟩, ⟨_, _, su1, su2, su3, su4⟩, ⟨_, _, si1, si2, si3, si4⟩, ⟨_, _, ad1, ad2, ad3, ad4⟩, ⟨_, _, ra1, ra2, ra3, ra4⟩, ⟨_, _, nv1, nv2, nv3, nv4⟩, ⟨_, _, bo1, bo2, bo3, bo4⟩, ⟨_, _, le1, le2, le3, le4⟩, rs1, ia1, is1⟩ := Oa
  refine a.fn.ok sc_law_joined (fun vs H Q E h => ?_) (fun cdv A outer s0 H vs Q E hr h => ?_)
  · obtain ⟨B, O, v, u, L, M, k, rfl, _⟩ := h
    rfl
  obtain ⟨B, O, v, u, L, M, k, rfl, hw, hL, hM, okL, okM, hk, q⟩ := h
  refine ⟨_, (pss_cons (ps_try_all (i := 3) rfl rfl sc_law_joined.nd rfl rfl takes0 (fun W pn xe tk _ => (pss_one (ps_if (pt_cmpR op_eq (pv 2) pe_int (nomark _)) (pss_one (ps_set (i := 0) sc_law_joined.nd rfl (Or.inl rfl) (pe_op (op_binOwn (op := .BitOr) sf or1 or2 or3 or4 (Room.mono hr (by omega)) (passN (m := 4) tk (by rfl))) (pv 0) (pv 1)))) (pss_one (ps_if (pt_cmpR op_eq (pv 2) pe_int (nomark _)) (pss_one (ps_set (i := 0) sc_law_joined.nd rfl (Or.inl rfl) (pe_op (op_binOwn (op := .BitAnd) sf an1 an2 an3 an4 (Room.mono hr (by omega)) (passN (m := 4) tk (by rfl))) (pv 0) (pv 1)))) (pss_one (ps_set (i := 0) sc_law_joined.nd rfl (Or.inl rfl) (pe_op (op_binOwn (op := .Sub) sf su1 su2 su3 su4 (Room.mono hr (by omega)) (passN (m := 4) tk (by rfl))) (pv 0) (pv 1))))))))) (Clauses.more ⟨by rfl, by decide, .inl Er.t.g⟩ (fun a oe cls d pn hz hf => (pss_one (ps_ret (pe_tup (pa_cons pe_str (pa_cons (pe_xf Er.t.X Er.t.no hz hf (pv 3)) pa_nil)))))) Clauses.none))
    (pss_one (ps_ret pe_non))), ?_⟩
  have st : Sta K B O [.val v, .val u, .dat (.int (k : Int)), .un] (L2.start N_sc_law_joined [v, u, .int (k : Int)]) H := ⟨hw, ⟨rfl, rfl, ⟨_, rfl, .int _⟩, trivial, trivial⟩⟩
  have fine : ∀ {B1 H1 : Hp} {σ1 : L2.St} {G1 : List SD}, lcmP L M ≤ 5000 → Ex B B1 → Sta K B1 O G1 σ1 H1 → tRet (tC V.non) { nx := fun _ H' => Q .non H', rt := Q } σ1 H1 := fun {B1 H1 σ1 G1} hM x1 st => by
    unfold joinD at q
    rw [if_neg (by omega)] at q
    exact s_ret st ev_non fun z B2 H2 x2 w2 d2 => q z B2 H2 (x1.trans x2) w2 d2
  have hand : ∀ {Wout : WX} {D : Ends} {pp : Addr} {B1 H1 : Hp} {σ' : L2.St} (hw : W B1 O H1) (hp : B1 pp = some (.xd [("limit", .str "period")])) (hσ : σ'.length = 4) (hb : 5000 < lcmP L M) (e1 : Ex B B1) (hD : D.rt = Q), wAll K 3 Wout D [(.ref CT, tellX "large" "limit" CT)] (.ref CT) (some pp) σ' H1 := fun {Wout D pp B1 H1 σ'} hw hp hσ hb e1 hD => by
    unfold joinD at q
    rw [if_pos hb] at q
    refine ⟨true, Er.tt, fun _ a ha => ?_, fun z => Bool.noConfusion z⟩
    have st2 : Sta K B1 O [.un, .un, .un, .val (.ref a)] (σ'.set 3 (some (.ref a))) H1 := ⟨hw, slots_four hσ⟩
    refine s_ret st2 (ev_tup (ea_cons ev_str (ea_cons (ev_xf' rfl hp) ea_nil)) (by simp)) fun v B3 H3 x3 w3 d3 => ?_
    show D.rt v H3
    rw [hD]
    exact q v B3 H3 (e1.trans x3) w3 d3
  have hk3 : k = 0 ∨ k = 1 ∨ k = 2 := by omega
  rcases hk3 with rfl | rfl | rfl
  · refine s_if st (b := true) (et_is (et_test (ev_op (ev_var rfl) ev_int rd_eqInt)) rfl) (fun _ B1 H1 x1 st => ?_) (fun z => Bool.noConfusion z)
    exact s_asgB (CT := CT) st (ev_ls rfl (hL.ex x1)) (ev_ls rfl (hM.ex x1)) okL okM (fun hb u B' H' e' st => fine hb (x1.trans e') st) fun hb pp B' H' e' w' hp σ' hσ => hand w' hp hσ hb (x1.trans e') rfl
  · refine s_if st (b := false) (et_is (et_test (ev_op (ev_var rfl) ev_int rd_eqInt)) rfl) (fun z => Bool.noConfusion z) (fun _ B1 H1 x1 st => ?_)
    refine s_if st (b := true) (et_is (et_test (ev_op (ev_var rfl) ev_int rd_eqInt)) rfl) (fun _ B2 H2 x2 st => ?_) (fun z => Bool.noConfusion z)
    exact s_asgB (CT := CT) st (ev_ls rfl (hL.ex (x1.trans x2))) (ev_ls rfl (hM.ex (x1.trans x2))) okL okM (fun hb u B' H' e' st => fine hb ((x1.trans x2).trans e') st) fun hb pp B' H' e' w' hp σ' hσ => hand w' hp hσ hb ((x1.trans x2).trans e') rfl
  · refine s_if st (b := false) (et_is (et_test (ev_op (ev_var rfl) ev_int rd_eqInt)) rfl) (fun z => Bool.noConfusion z) (fun _ B1 H1 x1 st => ?_)
    refine s_if st (b := false) (et_is (et_test (ev_op (ev_var rfl) ev_int rd_eqInt)) rfl) (fun z => Bool.noConfusion z) (fun _ B2 H2 x2 st => ?_)
    exact s_asgB (CT := CT) st (ev_ls rfl (hL.ex (x1.trans x2))) (ev_ls rfl (hM.ex (x1.trans x2))) okL okM (fun hb u B' H' e' st => fine hb ((x1.trans x2).trans e') st) fun hb pp B' H' e' w' hp σ' hσ => hand w' hp hσ hb ((x1.trans x2).trans e') rfl
end

end Toy
set_option Elab.async false
set_option linter.all false
set_option maxRecDepth 100000
set_option maxHeartbeats 4000000
namespace Toy
open PySem PySem.Spec PyProof.Rows L2 StX DL


def SpPer (K : PySem.W.Frag) : Sp := fun vs H Q _ => ∃ (B O : Hp) (r : Nat), vs = [.int (r : Int)] ∧ W B O H ∧ r < 70 ∧ ∀ B' H', Ex B B' → W B' O H' → Q (.bl true) H'
def SpRefused (K : PySem.W.Frag) (CS : Addr) : Sp := fun vs H Q _ => ∃ (B O : Hp) (v : V) (L : LS) (p : Addr), vs = [v, .ref p] ∧ W B O H ∧ IsLS K CS L B v ∧ LOk L ∧ PoolAt O p ∧ ∀ B' O' H', Ex B B' → W B' O' H' → Q (.bl true) H'
def oneLS (n : Nat) (r : Nat) : LS := lsOf [] 0 (n : Int) [(r : Int)]
theorem one_right {n r : Nat} (h : r < n) (hn : n ≤ 5000) : Right (.tuple []) (.int 0) (.int (n : Int)) (.tuple [.int (r : Int)]) [] 0 (n : Int) [(r : Int)] := by
  refine ⟨⟨rfl, by decide, by decide⟩, ⟨rfl, by omega, by omega⟩, ⟨.inr rfl, by decide, by decide⟩, ⟨.inr rfl, ?_, by simp⟩⟩
  exact rises_ints (es := [(r : Int)]) (by simp) fun x hx => by
    have : x = (r : Int) := by simpa using hx
    omega
theorem one_is {n r : Nat} (h : r < n) (hn : n ≤ 5000) : Is (fun i => decide (i % n = r)) 0 n (oneLS n r) ∧ (oneLS n r).period ∣ n := by
  obtain ⟨z1, z2, z3, zd, z4⟩ := nrm_of (es := []) (rs := [(r : Int)]) (n := 0) (k := (n : Int)) (by omega) (by omega) (by omega) (by omega)
  refine ⟨⟨z1, fun i => ?_, show (lsOf [] 0 (n : Int) [(r : Int)]).start ≤ 0 from by simpa using z2, show (lsOf [] 0 (n : Int) [(r : Int)]).period ≤ n from by simpa using z3⟩, show (lsOf [] 0 (n : Int) [(r : Int)]).period ∣ n from by simpa using zd⟩
  rw [show oneLS n r = lsOf [] 0 (n : Int) [(r : Int)] from rfl, z4 i]
  unfold hasN
  rw [if_neg (by rw [marks_len]; simp), marks_len, Int.toNat_natCast, marks_get (by rw [Int.toNat_natCast]; exact Nat.mod_lt _ (by omega)), Bool.eq_iff_iff, decide_eq_true_eq, List.contains_iff_mem, List.mem_singleton]
  omega
theorem one_per {n r : Nat} (h : r < n) (hn : n ≤ 5000) (h2 : 2 ≤ n) (hp : ∀ d, d ∣ n → d = 1 ∨ d = n) : (oneLS n r).period = n := by
  obtain ⟨a, hd⟩ := one_is h hn
  rcases hp _ hd with e | e
  · exfalso
    have ok := a.n.ok
    have s0 := a.s
    have e1 := has_late ok (n := r) (by omega)
    have e2 := has_late ok (n := r + 1) (by omega)
    rw [e, Nat.mod_one] at e1 e2
    rw [a.m, Nat.mod_eq_of_lt h, decide_eq_true rfl] at e1
    rw [a.m, ← e1] at e2
    have e3 := of_decide_eq_true e2
    by_cases hr : r + 1 < n
    · rw [Nat.mod_eq_of_lt hr] at e3
      omega
    · rw [show r + 1 = n by omega, Nat.mod_self] at e3
      omega
  · exact e
theorem prime71 : ∀ d, d ∣ 71 → d = 1 ∨ d = 71 := fun d hd => by
  have hl := Nat.le_of_dvd (by decide) hd
  have key : ∀ d, d < 72 → d ∣ 71 → d = 1 ∨ d = 71 := by decide +kernel
  exact key d (by omega) hd
theorem prime73 : ∀ d, d ∣ 73 → d = 1 ∨ d = 73 := fun d hd => by
  have hl := Nat.le_of_dvd (by decide) hd
  have key : ∀ d, d < 74 → d ∣ 73 → d = 1 ∨ d = 73 := by decide +kernel
  exact key d (by omega) hd
section
variable {K : PySem.W.Frag} {B O : Hp} {G : List SD} {ta tb tc te tn : TE} {C CN CT : Addr} {L M : LS} {d x y z : PyData} {E : XK} {t : TA} {σ : L2.St} {H : Hp} {D : Ends} {tz tu : TS} {m : Int} {v : V} {i j : Nat} {p : Addr} {R : PyData → Hp → Prop}
theorem ev_ans {k : Nat} (h1 : EvP K B O G ta (IsLS K C L)) (ok : LOk L) (h2 : EvD K B O G tb (.int m)) (h3 : EvD K B O G tc (.int (k : Int))) (hk : k < 3) (e : ansM CN (opOut CN CT k L m) = d) : EvD K B O G (tCall (SpAns K CN CT C) [] E (tCons ta (tCons tb (tCons tc tNil)))) d := fun B1 O1 σ H e0 o s Q q =>
  h1 B1 O1 σ H e0 o s _ fun u B2 H2 e2 w2 p1 => h2 B2 O1 σ H2 (e0.trans e2) o (s.ex e2 w2) _ fun v B3 H3 e3 w3 d3 => h3 B3 O1 σ H3 ((e0.trans e2).trans e3) o (s.ex (e2.trans e3) w3) _ fun v4 B4 H4 e4 w4 d4 => by
    rw [dp_int d3, dp_int d4]
    exact ⟨B4, O1, u, L, m, k, rfl, w4, p1.ex (e3.trans e4), ok, hk, fun z B' H' e' w' d' => q z B' H' (((e2.trans e3).trans e4).trans e') w' (by rw [e] at d'; exact d')⟩
theorem ev_join {k : Nat} (h1 : EvP K B O G ta (IsLS K C L)) (h2 : EvP K B O G tb (IsLS K C M)) (okL : LOk L) (okM : LOk M) (h3 : EvD K B O G tc (.int (k : Int))) (hk : k < 3) (e : joinD L M = d) : EvD K B O G (tCall (SpJoin K C) [] E (tCons ta (tCons tb (tCons tc tNil)))) d := fun B1 O1 σ H e0 o s Q q =>
  h1 B1 O1 σ H e0 o s _ fun u B2 H2 e2 w2 p1 => h2 B2 O1 σ H2 (e0.trans e2) o (s.ex e2 w2) _ fun v B3 H3 e3 w3 p2 => h3 B3 O1 σ H3 ((e0.trans e2).trans e3) o (s.ex (e2.trans e3) w3) _ fun v4 B4 H4 e4 w4 d4 => by
    rw [dp_int d4]
    exact ⟨B4, O1, u, v, L, M, k, rfl, w4, p1.ex (e3.trans e4), p2.ex e4, okL, okM, hk, fun z B' H' e' w' d' => q z B' H' (((e2.trans e3).trans e4).trans e') w' (by rw [e] at d'; exact d')⟩
/-- [e for kind in range(3)] -/
theorem ev_three {f : Nat → PyData} (hi : i < G.length) (he : ∀ k : Nat, k < 3 → EvD K B O ((wipeG G [i]).set i (.dat (.int (k : Int)))) te (f k)) : EvD K B O G (tLc (iRng1 (tCons (tC (.int 3)) tNil)) (gName i) tYes te [i]) (.list [f 0, f 1, f 2]) := by
  have e2 : [f 0, f 1, f 2] = (List.range 3).map f := rfl
  rw [e2]
  refine ev_map (List.range 3) (fun (k : Nat) => PyData.int (k : Int)) f (fun k => (wipeG G [i]).set i (.dat (.int (k : Int)))) ?_ (by decide) (fun x _ => eg_nameW (by simp)) (fun k hk => he k (List.mem_range.mp hk))
  exact ei_range1 (j := 3) (ea_cons ev_int ea_nil) (by decide)
theorem wipe_one {k : Nat} (hi : i < G.length) : ((wipeG G [i]).set i (.dat (.int (k : Int))))[i]? = some (.dat (.int (k : Int))) := by
  rw [List.getElem?_set]
  have hl : (wipeG G [i]).length = G.length := by simp [wipeG]
  rw [if_pos rfl, if_pos (by rw [hl]; exact hi)]
theorem ev_per {r : Nat} (h : EvD K B O G ta (.int (r : Int))) (hr : r < 70) : EvD K B O G (tCall (SpPer K) [] E (tCons ta tNil)) (.bool true) := fun B1 O1 σ H e o s Q q =>
  h B1 O1 σ H e o s _ fun u B2 H2 e2 w2 d2 => by
    rw [dp_int d2]
    exact ⟨B2, O1, r, rfl, w2, hr, fun B' H' e' w' => q _ B' H' (e2.trans e') w' (.bl _)⟩
theorem ex_per (h : EvX K B O G ta (fun d O' => ∃ r, d = .int r ∧ 0 ≤ r ∧ r < 70 ∧ Mv p O O')) : EvX K B O G (tCall (SpPer K) [] E (tCons ta tNil)) (fun d O' => d = .bool true ∧ Mv p O O') := fun B1 σ H e s Q q =>
  h B1 σ H e s _ fun u d B2 O2 H2 e2 ⟨r, ed, r0, r1, m⟩ w2 d2 => by
    subst ed
    rw [dp_int d2]
    exact ⟨B2, O2, r.toNat, by rw [Int.toNat_of_nonneg r0]; rfl, w2, by omega, fun B' H' e' w' => q _ _ B' O2 H' (e2.trans e') ⟨rfl, m⟩ w' (.bl _)⟩
theorem ev_signs {F J : Fld} (h1 : EvD K B O G ta F.enc) (h2 : EvD K B O G tb J.enc) (okF : F.Ok) (okJ : J.Ok) : EvD K B O G (tCall (SpSigns K) [] E (tCons ta (tCons tb tNil))) (.bool true) := fun B1 O1 σ H e o s Q q =>
  h1 B1 O1 σ H e o s _ fun u B2 H2 e2 w2 d2 => h2 B2 O1 σ H2 (e.trans e2) o (s.ex e2 w2) _ fun v B3 H3 e3 w3 d3 => ⟨B3, O1, u, v, F, J, rfl, w3, dp_ex e3 _ _ d2, d3, okF, okJ, fun B' H' e' w' => q _ B' H' ((e2.trans e3).trans e') w' (.bl _)⟩
theorem ex_shifts {F : Fld} (h1 : EvD K B O G ta F.enc) (okF : F.Ok) (h : EvX K B O G tb (fun d O' => ∃ r, d = .int r ∧ 0 ≤ r ∧ r < 10 ∧ Mv p O O')) : EvX K B O G (tCall (SpShifts K) [] E (tCons ta (tCons tb tNil))) (fun d O' => d = .bool true ∧ Mv p O O') := fun B1 σ H e s Q q =>
  h1 B1 O σ H e (Ex.refl _) s _ fun u B2 H2 e2 w2 d2 => h B2 σ H2 (e.trans e2) (s.ex e2 w2) _ fun v d B3 O3 H3 e3 ⟨r, ed, r0, r1, m⟩ w3 d3 => by
    subst ed
    rw [dp_int d3]
    exact ⟨B3, O3, u, F, r.toNat, by rw [Int.toNat_of_nonneg r0]; rfl, w3, dp_ex e3 _ _ d2, okF, by omega, fun B' H' e' w' => q _ _ B' O3 H' ((e2.trans e3).trans e') ⟨rfl, m⟩ w' (.bl _)⟩
theorem q_unlessX (s : Sta K B O G σ H) (h : EvX K B O G te R) (hb : ∀ d O', R d O' → d = .bool true) (k : ∀ B' O' H', Ex B B' → R (.bool true) O' → Sta K B' O' G σ H' → tz D σ H') : tSeq (tIfS (tNot (tB te)) tu tNext) tz D σ H :=
  h B σ H (Ex.refl _) s _ fun v d B' O' H' e r w dv => by
    have ed := hb d O' r
    subst ed
    exact ⟨true, dp_bool dv, k B' O' H' e r ⟨w, s.s.ex e⟩⟩
theorem q_parX {R1 : PyData → Hp → Prop} {R2 : PyData → Hp → PyData → Hp → Prop} (s : Sta K B O G σ H) (h1 : EvX K B O G ta R1) (h2 : ∀ d1 B' O', Ex B B' → R1 d1 O' → EvX K B' O' G tb (R2 d1 O'))
    (k : ∀ v u d1 d2 B' O1 O2 H', Ex B B' → R1 d1 O1 → R2 d1 O1 d2 O2 → Sta K B' O2 ((G.set i (.dat d1)).set j (.dat d2)) ((σ.set i (some v)).set j (some u)) H' → tz D ((σ.set i (some v)).set j (some u)) H') : tSeq (tPar i j (tCons ta (tCons tb tNil))) tz D σ H :=
  h1 B σ H (Ex.refl _) s _ fun v d1 B2 O2 H2 e2 r1 w2 dv => h2 d1 B2 O2 e2 r1 B2 σ H2 (Ex.refl _) ⟨w2, s.s.ex e2⟩ _ fun u d2 B3 O3 H3 e3 r2 w3 du =>
    ⟨_, _, rfl, k v u d1 d2 B3 O2 O3 H3 (e2.trans e3) r1 r2 ⟨w3, ((s.s.ex (e2.trans e3)).set i (s := some v) (g := .dat d1) ⟨v, rfl, dp_ex e3 _ _ dv⟩).set j (s := some u) (g := .dat d2) ⟨u, rfl, du⟩⟩⟩
theorem q_parT (s : Sta K B O G σ H) (h1 : EvP K B O G ta (IsLS K C L)) (h2 : EvP K B O G tb (IsLS K C M))
    (k : ∀ v u B' H', Ex B B' → IsLS K C L B' v → IsLS K C M B' u → Sta K B' O ((G.set i (.val v)).set j (.val u)) ((σ.set i (some v)).set j (some u)) H' → tz D ((σ.set i (some v)).set j (some u)) H') : tSeq (tAsg (tTup (tCons ta (tCons tb tNil))) (gTup K 2 (gCons (gName i) (gCons (gName j) gNil)))) tz D σ H :=
  h1 B O σ H (Ex.refl _) (Ex.refl _) s _ fun v B2 H2 e2 w2 p1 => h2 B2 O σ H2 e2 (Ex.refl _) (s.ex e2 w2) _ fun u B3 H3 e3 w3 p2 =>
    ⟨sz_of (by simp), fun p hp => by
      have e4 : Ex B3 (upd B3 p (.tup [v, u])) := Ex.new (w3.fb hp)
      exact ⟨p, _, rfl, .inl (.inl upd_same), rfl, _, _, rfl, _, _, rfl, rfl, k v u _ _ ((e2.trans e3).trans e4) ((p1.ex e3).ex e4) (p2.ex e4) (((s.ex ((e2.trans e3).trans e4) (w3.newB hp)).setV i).setV j)⟩⟩
theorem pool_at {a : Addr} {ns : List Int} {k : Int} {Q : VK} (s : Sta K B O G σ H) (hg : G[i]? = some (.val (.ref a))) (hs : SqL K B a (ns.map V.int)) (hl : ns.length ≤ 63) (h0 : 0 ≤ k) (h1 : k ≤ 63)
    (q : ∀ p O' B' H', Ex B B' → O p = none → PoolAt O' p → (∀ b, b ≠ p → O' b = O b) → W B' O' H' → Q (.ref p) H') : tCall (SpPool K) [] E (tCons (tVar i) (tCons (tC (.int k)) tNil)) σ H Q := by
  obtain ⟨sv, e1, e2⟩ := s.s.get hg
  have e3 : sv = some (.ref a) := e2
  subst e3
  exact ⟨_, e1, B, O, a, ns, k, s.w, rfl, hs, hl, h0, h1, fun p x y B' H' e np y0 y1 w => q p _ B' H' e np ⟨x, y, upd_same, y0, y1⟩ (fun b hb => upd_ne hb) w⟩
end
def tL : PyData := .tuple [.str "large", .str "period"]
theorem ne_of {a b : PyData} (h : PyData.eqv a b = true) : (!PyData.eqv a b) = false := by
  rw [h]
  rfl
theorem sh_tL : SeqAt.shaped (.list [tL, tL, tL]) = true := by decide +kernel
theorem sh_N3 : SeqAt.shaped (.list [.none, .none, .none]) = true := by decide +kernel
theorem eq_tL : PyData.eqv (.list [tL, tL, tL]) (.list [tL, tL, tL]) = true := by decide +kernel
theorem eq_N3 : PyData.eqv (.list [.none, .none, .none]) (.list [.none, .none, .none]) = true := by decide +kernel
def tS : PyData := .tuple [.str "set", .str "shift"]
theorem sh_tS : SeqAt.shaped (.list [tS, tS, tS]) = true := by decide +kernel
theorem eq_tS : PyData.eqv (.list [tS, tS, tS]) (.list [tS, tS, tS]) = true := by decide +kernel
def tG : PyData := .tuple [.str "large", .str "start"]
theorem sh_tG : SeqAt.shaped (.list [tG, tG, .none]) = true := by decide +kernel
theorem eq_tG : PyData.eqv (.list [tG, tG, .none]) (.list [tG, tG, .none]) = true := by decide +kernel

section
variable {P : Program} {w : World} {K : PySem.W.Frag} {mg : Str → Option Value} {base : Heap}


theorem ok_law_periods_right {f CN CT CS t0 t1 : Addr} {fd : FuncData} (T : Txt K mg) (S : SetC K mg CS) (M : MkS P w K mg base CN CT CS t0 t1) (C_law_joined : Cal P w K mg base 14 "_law_joined" ["one", "other", "kind"] (SpJoin K CS))
    (a : At K mg "_law_periods_right" s_law_periods_right ["rest"] f fd) : FnOk P w K mg base CX0 15 f fd ["rest"] (SpPer K) := by
  obtain ⟨⟨fI, fdI, Mk_, Fi, B4, ⟨d0, V0, B0⟩, ⟨d2, V2, B2⟩, gk, Bk⟩, E0_, E1_⟩ := M
  refine a.fn.ok sc_law_periods_right (fun vs H Q E h => ?_) (fun cdv A outer s0 H vs Q E hr h => ?_)
  · obtain ⟨B, O, r, rfl, _⟩ := h
    rfl
  obtain ⟨B, O, r, rfl, hw, h70, q⟩ := h
  refine ⟨_, (pss_cons (ps_asg (pe_tup (pa_cons (pe_make Mk_ Fi (hr.mono (by omega)) (by rfl) S.g B4 .nil passL (pa_cons (pe_tup pa_nil) (pa_cons pe_int (pa_cons pe_int (pa_cons (pe_tup (pa_cons (pv 0) pa_nil)) pa_nil))))) (pa_cons (pe_make Mk_ Fi (hr.mono (by omega)) (by rfl) S.g B4 .nil passL (pa_cons (pe_tup pa_nil) (pa_cons pe_int (pa_cons pe_int (pa_cons (pe_tup (pa_cons (pv 0) pa_nil)) pa_nil))))) pa_nil))) (pg_tupK K (n := 2) (by rfl) (pgs_cons (pg_name (i := 1) sc_law_periods_right.nd rfl (Or.inr rfl)) (pgs_cons (pg_name (i := 2) sc_law_periods_right.nd rfl (Or.inr rfl)) pgs_nil))))
    (pss_cons (ps_if (pt_cmpR (op_neDK K hr.units) (pe_lc (own := [("kind", 3)]) (by rfl) sc_law_periods_right.nd (pi_range1 (by rfl) T.b_range (pa_cons pe_int pa_nil)) (blkOk_by (own := [("kind", 3)]) (N := N_sc_law_periods_right) (sc := defScope s_law_periods_right) (by decide +kernel)) (fun _ _ _ _ _ => (pg_name (i := 3) sc_law_periods_right.nd rfl (Or.inl rfl))) (fun _ _ _ _ _ => pts_nil) (fun _ _ _ _ _ => (pe_cal C_law_joined hr (by omega) (by rfl) (pa_cons (pv 1) (pa_cons (pv 2) (pa_cons (pv 3) pa_nil)))))) (pe_op op_rep (pe_lst (pa_cons (pe_tup (pa_cons pe_str (pa_cons pe_str pa_nil))) pa_nil)) pe_int) (nomark _)) (pss_one (ps_ret pe_bl)) pss_nil)
    (pss_cons (ps_set (i := 2) sc_law_periods_right.nd rfl (Or.inr rfl) (pe_make Mk_ Fi (hr.mono (by omega)) (by rfl) S.g B4 .nil passL (pa_cons (pe_tup pa_nil) (pa_cons pe_int (pa_cons pe_int (pa_cons (pe_tup (pa_cons (pv 0) pa_nil)) pa_nil))))))
    (pss_one (ps_ret (pe_cmpR (op_eqDK K hr.units) (pe_lc (own := [("kind", 3)]) (by rfl) sc_law_periods_right.nd (pi_range1 (by rfl) T.b_range (pa_cons pe_int pa_nil)) (blkOk_by (own := [("kind", 3)]) (N := N_sc_law_periods_right) (sc := defScope s_law_periods_right) (by decide +kernel)) (fun _ _ _ _ _ => (pg_name (i := 3) sc_law_periods_right.nd rfl (Or.inl rfl))) (fun _ _ _ _ _ => pts_nil) (fun _ _ _ _ _ => (pe_cal C_law_joined hr (by omega) (by rfl) (pa_cons (pv 1) (pa_cons (pv 2) (pa_cons (pv 3) pa_nil)))))) (pe_op op_rep (pe_lst (pa_cons pe_non pa_nil)) pe_int) (nomark _))))))), ?_⟩
  have st : Sta K B O [.dat (.int (r : Int)), .un, .un, .un] (L2.start N_sc_law_periods_right [.int (r : Int)]) H := ⟨hw, ⟨⟨_, rfl, .int _⟩, trivial, trivial, trivial, trivial⟩⟩
  have i71 := (one_is (n := 71) (r := r) (by omega) (by decide)).1
  have i73 := (one_is (n := 73) (r := r) (by omega) (by decide)).1
  have i70 := (one_is (n := 70) (r := r) (by omega) (by decide)).1
  have p71 := one_per (n := 71) (r := r) (by omega) (by decide) (by decide) prime71
  have p73 := one_per (n := 73) (r := r) (by omega) (by decide) (by decide) prime73
  have j1 : joinD (oneLS 71 r) (oneLS 73 r) = tL := by
    unfold joinD lcmP
    rw [p71, p73, if_pos (by decide)]
    rfl
  have j2 : joinD (oneLS 71 r) (oneLS 70 r) = .none := by
    unfold joinD
    rw [if_neg]
    have := lcm_le (a := (oneLS 71 r).period) (b := (oneLS 70 r).period)
    have q70 := i70.p
    rw [p71] at this
    show ¬ 5000 < Nat.lcm (oneLS 71 r).period (oneLS 70 r).period
    rw [p71]
    omega
  refine q_parT st (ev_make (ea_cons (ev_tup ea_nil (by simp)) (ea_cons ev_int (ea_cons ev_int (ea_cons (ev_tup (ea_cons (ev_var rfl) ea_nil) (by simp)) ea_nil)))) (fun _ => .nil) rfl (one_right (n := 71) (r := r) (by omega) (by decide))) (ev_make (ea_cons (ev_tup ea_nil (by simp)) (ea_cons ev_int (ea_cons ev_int (ea_cons (ev_tup (ea_cons (ev_var rfl) ea_nil) (by simp)) ea_nil)))) (fun _ => .nil) rfl (one_right (n := 73) (r := r) (by omega) (by decide))) fun va vb B1 H1 x1 pa pb st => ?_
  refine q_whenF st (et_test (ev_op (ev_three (f := fun _ => tL) (by simp) (fun k hk => ev_join (ev_ls (i := 1) rfl pa) (ev_ls (i := 2) rfl pb) i71.n.ok i73.n.ok (ev_var rfl) hk j1)) (ev_op (ev_lst (ea_cons (ev_tup (ea_cons ev_str (ea_cons ev_str ea_nil)) (by simp)) ea_nil) (by simp)) ev_int (rd_rep (by decide) (by decide))) (rd_ne (b := false) sh_tL sh_tL (ne_of eq_tL)))) fun B2 H2 x2 st => ?_
  refine q_asgP st (ev_make (ea_cons (ev_tup ea_nil (by simp)) (ea_cons ev_int (ea_cons ev_int (ea_cons (ev_tup (ea_cons (ev_var rfl) ea_nil) (by simp)) ea_nil)))) (fun _ => .nil) rfl (one_right (n := 70) (r := r) (by omega) (by decide))) fun vc B3 H3 x3 pc st => ?_
  have pa := pa.ex (x2.trans x3)
  refine s_ret st (ev_op (ev_three (f := fun _ => .none) (by simp) (fun k hk => ev_join (ev_ls (i := 1) rfl pa) (ev_ls (i := 2) rfl pc) i71.n.ok i70.n.ok (ev_var rfl) hk j2)) (ev_op (ev_lst (ea_cons ev_non ea_nil) (by simp)) ev_int (rd_rep (by decide) (by decide))) (rd_eq (b := true) sh_N3 sh_N3 eq_N3)) fun z B4 H4 x4 w4 d4 => ?_
  rw [dp_bool d4]
  exact q B4 H4 ((x1.trans x2).trans (x3.trans x4)) w4
theorem ok_law_refused {f CN CT CS : Addr} {fd : FuncData} (T : Txt K mg) (S : SetC K mg CS) (C_law_draw : Cal P w K mg base 2 "_law_draw" ["pool", "count"] (SpX K PreDraw)) (C_law_answer : Cal P w K mg base 14 "_law_answer" ["a", "many", "kind"] (SpAns K CN CT CS)) (ne : CN ≠ CT)
    (a : At K mg "_law_refused" s_law_refused ["a", "pool"] f fd) : FnOk P w K mg base CX0 15 f fd ["a", "pool"] (SpRefused K CS) := by
  refine a.fn.ok sc_law_refused (fun vs H Q E h => ?_) (fun cdv A outer s0 H vs Q E hr h => ?_)
  · obtain ⟨B, O, v, L, p, rfl, _⟩ := h
    rfl
  obtain ⟨B, O, v, L, p, rfl, hw, hL, ok, hp, q⟩ := h
  refine ⟨_, (pss_cons (ps_set (i := 2) sc_law_refused.nd rfl (Or.inr rfl) (pe_op op_sub (pe_un un_neg pe_int) (pe_cal C_law_draw hr (by omega) (by rfl) (pa_cons (pv 1) (pa_cons pe_int pa_nil)))))
    (pss_cons (ps_if (pt_cmpR (op_neDK K hr.units) (pe_lc (own := [("kind", 5)]) (by rfl) sc_law_refused.nd (pi_range1 (by rfl) T.b_range (pa_cons pe_int pa_nil)) (blkOk_by (own := [("kind", 5)]) (N := N_sc_law_refused) (sc := defScope s_law_refused) (by decide +kernel)) (fun _ _ _ _ _ => (pg_name (i := 5) sc_law_refused.nd rfl (Or.inl rfl))) (fun _ _ _ _ _ => pts_nil) (fun _ _ _ _ _ => (pe_cal C_law_answer hr (by omega) (by rfl) (pa_cons (pv 0) (pa_cons (pv 2) (pa_cons (pv 5) pa_nil)))))) (pe_op op_rep (pe_lst (pa_cons (pe_tup (pa_cons pe_str (pa_cons pe_str pa_nil))) pa_nil)) pe_int) (nomark _)) (pss_one (ps_ret pe_bl)) pss_nil)
    (pss_cons (ps_set (i := 3) sc_law_refused.nd rfl (Or.inr rfl) (pe_op op_sub pe_int (pe_fldK K (pv 0) rfl)))
    (pss_cons (ps_if (pt_cmpR (op_neDK K hr.units) (pe_lc (own := [("kind", 5)]) (by rfl) sc_law_refused.nd (pi_range1 (by rfl) T.b_range (pa_cons pe_int pa_nil)) (blkOk_by (own := [("kind", 5)]) (N := N_sc_law_refused) (sc := defScope s_law_refused) (by decide +kernel)) (fun _ _ _ _ _ => (pg_name (i := 5) sc_law_refused.nd rfl (Or.inl rfl))) (fun _ _ _ _ _ => pts_nil) (fun _ _ _ _ _ => (pe_cal C_law_answer hr (by omega) (by rfl) (pa_cons (pv 0) (pa_cons (pv 3) (pa_cons (pv 5) pa_nil)))))) (pe_op op_rep (pe_lst (pa_cons pe_non pa_nil)) pe_int) (nomark _)) (pss_one (ps_ret pe_bl)) pss_nil)
    (pss_cons (ps_set (i := 4) sc_law_refused.nd rfl (Or.inl rfl) (pe_tup (pa_cons pe_str (pa_cons pe_str pa_nil))))
    (pss_cons (ps_if (pt_cmpR (op_neDK K hr.units) (pe_lc (own := [("kind", 5)]) (by rfl) sc_law_refused.nd (pi_range1 (by rfl) T.b_range (pa_cons pe_int pa_nil)) (blkOk_by (own := [("kind", 5)]) (N := N_sc_law_refused) (sc := defScope s_law_refused) (by decide +kernel)) (fun _ _ _ _ _ => (pg_name (i := 5) sc_law_refused.nd rfl (Or.inl rfl))) (fun _ _ _ _ _ => pts_nil) (fun _ _ _ _ _ => (pe_cal C_law_answer hr (by omega) (by rfl) (pa_cons (pv 0) (pa_cons (pe_op op_add (pv 3) pe_int) (pa_cons (pv 5) pa_nil)))))) (pe_lst (pa_cons (pv 4) (pa_cons (pv 4) (pa_cons pe_non pa_nil)))) (nomark _)) (pss_one (ps_ret pe_bl)) pss_nil)
    (pss_one (ps_ret (pe_cmpR (op_eqDK K hr.units) (pe_lc (own := [("kind", 5)]) (by rfl) sc_law_refused.nd (pi_range1 (by rfl) T.b_range (pa_cons pe_int pa_nil)) (blkOk_by (own := [("kind", 5)]) (N := N_sc_law_refused) (sc := defScope s_law_refused) (by decide +kernel)) (fun _ _ _ _ _ => (pg_name (i := 5) sc_law_refused.nd rfl (Or.inl rfl))) (fun _ _ _ _ _ => pts_nil) (fun _ _ _ _ _ => (pe_cal C_law_answer hr (by omega) (by rfl) (pa_cons (pv 0) (pa_cons (pe_op op_pow pe_int pe_int) (pa_cons (pv 5) pa_nil)))))) (pe_lst (pa_cons (pv 4) (pa_cons (pv 4) (pa_cons pe_non pa_nil)))) (nomark _)))))))))), ?_⟩
  have st : Sta K B O [.val v, .val (.ref p), .un, .un, .un, .un] (L2.start N_sc_law_refused [v, .ref p]) H := ⟨hw, ⟨rfl, rfl, trivial, trivial, trivial, trivial, trivial⟩⟩
  have sL := ok.s
  refine qx_asg st (ex_op (ex_pure (ev_un (ev_int (i := 1)))) (R2' := fun _ _ d2 O'' => ∃ r, d2 = .int r ∧ 0 ≤ r ∧ r < 50 ∧ Mv p O O'') (fun d1 B' O' _ e => by
    obtain ⟨_, rfl⟩ := e
    exact ex_draw rfl hp (n := 50) (by decide) (by decide)) (R3 := fun d O' => ∃ r : Int, d = .int (-1 - r) ∧ 0 ≤ r ∧ Mv p O O') ?_) fun v2 d2 B2 O2 H2 x2 ⟨r, ed, r0, mv⟩ dv2 st => ?_
  · rintro d1 O' d2 O'' ⟨rfl, rfl⟩ ⟨r, rfl, r0, _, m⟩
    exact ⟨_, rd_I0, r, rfl, r0, m⟩
  subst ed
  have hL := hL.ex x2
  have n1 : ∀ k, ansM CN (opOut CN CT k L (-1 - r)) = tS := fun k => by
    unfold opOut
    split
    · unfold upOut
      rw [if_pos (by omega)]
      exact if_pos rfl
    · unfold dnOut
      rw [if_pos (by omega)]
      exact if_pos rfl
  have n2 : ∀ k, ansM CN (opOut CN CT k L (5000 - (L.start : Int))) = .none := fun k => by
    unfold opOut
    split
    · unfold upOut
      rw [if_neg (by omega), if_neg (by omega)]
      rfl
    · unfold dnOut
      rw [if_neg (by omega)]
      rfl
  have n3 : ∀ m : Int, 5000 - (L.start : Int) < m → ∀ k, k < 3 → ansM CN (opOut CN CT k L m) = [tG, tG, .none].getD k .none := fun m hm k hk => by
    have hk3 : k = 0 ∨ k = 1 ∨ k = 2 := by omega
    have up : ansM CN (upOut CN CT L m) = tG := by
      unfold upOut
      rw [if_neg (by omega), if_pos (by omega)]
      exact if_neg (Ne.symm ne)
    have dn : ansM CN (dnOut CN L m) = .none := by
      unfold dnOut
      rw [if_neg (by omega)]
      rfl
    rcases hk3 with rfl | rfl | rfl
    · exact up
    · exact up
    · exact dn
  refine q_whenF st (et_test (ev_op (ev_three (f := fun _ => tS) (by simp) (fun k hk => ev_ans (CN := CN) (CT := CT) (ev_ls (i := 0) rfl hL) ok (ev_var rfl) (ev_var rfl) hk (n1 k))) (ev_op (ev_lst (ea_cons (ev_tup (ea_cons ev_str (ea_cons ev_str ea_nil)) (by simp)) ea_nil) (by simp)) ev_int (rd_rep (by decide) (by decide))) (rd_ne (b := false) sh_tS sh_tS (ne_of eq_tS)))) fun B3 H3 x3 st => ?_
  have hL := hL.ex x3
  refine q_asg st (ev_op ev_int (f_start S (ev_ls rfl hL)) rd_I0) fun v4 B4 H4 x4 d4 st => ?_
  have hL := hL.ex x4
  refine q_whenF st (et_test (ev_op (ev_three (f := fun _ => .none) (by simp) (fun k hk => ev_ans (CN := CN) (CT := CT) (ev_ls (i := 0) rfl hL) ok (ev_var rfl) (ev_var rfl) hk (n2 k))) (ev_op (ev_lst (ea_cons ev_non ea_nil) (by simp)) ev_int (rd_rep (by decide) (by decide))) (rd_ne (b := false) sh_N3 sh_N3 (ne_of eq_N3)))) fun B5 H5 x5 st => ?_
  have hL := hL.ex x5
  refine q_asg st (d := tG) (ev_tup (ea_cons ev_str (ea_cons ev_str ea_nil)) (by simp)) fun v6 B6 H6 x6 d6 st => ?_
  have hL := hL.ex x6
  refine q_whenF st (et_test (ev_op (ev_three (f := fun k => [tG, tG, .none].getD k .none) (by simp) (fun k hk => ev_ans (CN := CN) (CT := CT) (ev_ls (i := 0) rfl hL) ok (ev_op (ev_var rfl) ev_int rd_I0) (ev_var rfl) hk (n3 _ (by omega) k hk))) (ev_lst (ea_cons (ev_var rfl) (ea_cons (ev_var rfl) (ea_cons ev_non ea_nil))) (by simp)) (rd_ne (b := false) sh_tG sh_tG (ne_of eq_tG)))) fun B7 H7 x7 st => ?_
  have hL := hL.ex x7
  refine s_ret st (ev_op (ev_three (f := fun k => [tG, tG, .none].getD k .none) (by simp) (fun k hk => ev_ans (CN := CN) (CT := CT) (m := 10 ^ 30) (ev_ls (i := 0) rfl hL) ok (ev_op ev_int ev_int (rd_I (show CPow 10 30 from ⟨by decide, by decide, by decide⟩))) (ev_var rfl) hk (n3 _ (by omega) k hk))) (ev_lst (ea_cons (ev_var rfl) (ea_cons (ev_var rfl) (ea_cons ev_non ea_nil))) (by simp)) (rd_eq (b := true) sh_tG sh_tG eq_tG)) fun z B8 H8 x8 w8 d8 => ?_
  rw [dp_bool d8]
  exact q B8 O2 H8 ((((x2.trans x3).trans x4).trans x5).trans ((x6.trans x7).trans x8)) w8
end

end Toy
set_option Elab.async false
set_option linter.all false
set_option maxRecDepth 100000
set_option maxHeartbeats 4000000
namespace Toy
open PySem PySem.Spec PyProof.Rows L2 StX DL


section
variable {K : PySem.W.Frag} {B O : Hp} {G : List SD} {te : TE} {σ : L2.St} {H : Hp} {D : Ends} {tz tu : TS} {tt : TT} {R : Hp → Prop}
theorem q_lastX (s : Sta K B O G σ H) (h1 : EvX K B O G te (fun d O' => (∃ b, d = .bool b) ∧ R O')) (h2 : ∀ B' O' H', Ex B B' → R O' → Sta K B' O' G σ H' → ∀ Qb : Bool → Hp → Prop, (∀ B3 O3 H3, Ex B' B3 → Sta K B3 O3 G σ H3 → Qb false H3) → tt σ H' Qb)
    (k : ∀ B' O' H', Ex B B' → Sta K B' O' G σ H' → tz D σ H') : tSeq (tIfS (tAnd (tTest te) tt) tu tNext) tz D σ H :=
  h1 B σ H (Ex.refl _) s _ fun v d B' O' H' e r w dv => by
    obtain ⟨⟨b, ed⟩, hr⟩ := r
    subst ed
    refine ⟨b, dp_bool dv, ?_⟩
    cases b with
    | false => exact k B' O' H' e ⟨w, s.s.ex e⟩
    | true => exact h2 B' O' H' e hr ⟨w, s.s.ex e⟩ _ fun B3 O3 H3 e3 st => k B3 O3 H3 (e.trans e3) st
end
def spLaw (K : PySem.W.Frag) : Sp := fun vs H Q _ => ∃ (a : Addr) (ns : List Int), vs = [.ref a] ∧ SqL K H a (ns.map V.int) ∧ ns.length ≤ 63 ∧ ∀ H', Q (.bl true) H'

section
variable {P : Program} {w : World} {K : PySem.W.Frag} {mg : Str → Option Value} {base : Heap}


theorem ok_law {f CS : Addr} {fd : FuncData} (T : Txt K mg)
    (C_law_pool : Cal P w K mg base 2 "_law_pool" ["script", "k"] (SpPool K)) (C_law_draw : Cal P w K mg base 2 "_law_draw" ["pool", "count"] (SpX K PreDraw)) (C_law_fields : Cal P w K mg base 6 "_law_fields" ["pool"] (SpX K PreFields)) (C_law_periods_right : Cal P w K mg base 15 "_law_periods_right" ["rest"] (SpPer K))
    (C_law_signs : Cal P w K mg base 14 "_law_signs" ["one", "two"] (SpSigns K)) (C_law_shifts : Cal P w K mg base 14 "_law_shifts" ["fields", "many"] (SpShifts K)) (C_law_made : Cal P w K mg base 10 "_law_made" ["fields"] (SpMade K CS)) (C_law_refused : Cal P w K mg base 15 "_law_refused" ["a", "pool"] (SpRefused K CS))
    (Fl : Fun K "law" "law" s_law f fd) : FnOk P w K mg base CX0 17 f fd ["script"] (spLaw K) := by
  refine Fl.ok sc_law (fun vs H Q E h => ?_) (fun cdv A outer s H vs Q E hr h => ?_)
  · obtain ⟨a, ns, rfl, _⟩ := h
    rfl
  obtain ⟨a, ns, rfl, hs, hlen, q⟩ := h
  refine ⟨_, (pss_cons (ps_set (i := 1) sc_law.nd rfl (Or.inl rfl) (pe_cal C_law_pool hr (by omega) (by rfl) (pa_cons (pv 0) (pa_cons pe_int pa_nil))))
    (pss_cons (ps_if (pt_not (pt_val (pe_cal C_law_periods_right hr (by omega) (by rfl) (pa_cons (pe_cal C_law_draw hr (by omega) (by rfl) (pa_cons (pv 1) (pa_cons pe_int pa_nil))) pa_nil)))) (pss_one (ps_ret pe_bl)) pss_nil)
    (pss_cons (ps_par (i := 2) (j := 3) (by rfl) sc_law.nd rfl rfl (by decide) rfl rfl (pa_cons (pe_cal C_law_fields hr (by omega) (by rfl) (pa_cons (pv 1) pa_nil)) (pa_cons (pe_cal C_law_fields hr (by omega) (by rfl) (pa_cons (pv 1) pa_nil)) pa_nil)) (by rfl))
    (pss_cons (ps_if (PW.pt (pw_or (pt_not (pt_val (pe_cal C_law_signs hr (by omega) (by rfl) (pa_cons (pv 2) (pa_cons (pv 3) pa_nil))))) (pw_or (pt_not (pt_val (pe_cal C_law_signs hr (by omega) (by rfl) (pa_cons (pv 3) (pa_cons (pv 2) pa_nil))))) (pw_or1 (pt_not (pt_val (pe_cal C_law_signs hr (by omega) (by rfl) (pa_cons (pv 2) (pa_cons (pv 2) pa_nil))))))))) (pss_one (ps_ret pe_bl)) pss_nil)
    (pss_cons (ps_if (pt_not (pt_val (pe_cal C_law_shifts hr (by omega) (by rfl) (pa_cons (pv 2) (pa_cons (pe_cal C_law_draw hr (by omega) (by rfl) (pa_cons (pv 1) (pa_cons pe_int pa_nil))) pa_nil))))) (pss_one (ps_ret pe_bl)) pss_nil)
    (pss_cons (ps_if (PW.pt (pw_and (pt_cmpR op_eq (pe_cal C_law_draw hr (by omega) (by rfl) (pa_cons (pv 1) (pa_cons pe_int pa_nil))) pe_int (nomark _)) (pw_and1 (pt_not (pt_val (pe_cal C_law_refused hr (by omega) (by rfl) (pa_cons (pe_cal C_law_made hr (by omega) (by rfl) (pa_cons (pv 3) pa_nil)) (pa_cons (pv 1) pa_nil)))))))) (pss_one (ps_ret pe_bl)) pss_nil)
    (pss_one (ps_ret pe_bl)))))))), ?_⟩
  have st : Sta K H (fun _ => none) [.val (.ref a), .un, .un, .un] (L2.start N_sc_law [.ref a]) H := ⟨⟨Ex.refl _, (fun _ _ e => nomatch e), fun _ => .inr rfl⟩, ⟨rfl, trivial, trivial, trivial, trivial⟩⟩
  refine pool_at st rfl hs hlen (by decide) (by decide) fun p O1 B1 H1 x1 np hp hfr w1 => ?_
  have st : Sta K B1 O1 [.val (.ref a), .val (.ref p), .un, .un] _ H1 := ⟨w1, (st.s.ex x1).set 1 (s := some (.ref p)) (g := .val (.ref p)) rfl⟩
  refine q_unlessX st (ex_per (ex_draw rfl hp (n := 70) (by decide) (by decide))) (fun d O' h => h.1) fun B2 O2 H2 x2 m2 st => ?_
  have m2 := m2.2
  refine q_parX (R2 := fun _ O' d2 O'' => ∃ F : Fld, F.Ok ∧ d2 = F.enc ∧ Mv p O' O'') st (ex_call (as_val (evV_var rfl) as_nil) fun B' _ => ⟨p, rfl, m2.pool, rfl⟩) (fun d1 B' O' _ r => ex_call (as_val (evV_var rfl) as_nil) fun B' _ => ⟨p, rfl, by obtain ⟨F, _, _, m⟩ := r; exact m.pool, rfl⟩) fun v u d1 d2 B3 O3 O4 H3 x3 r1 r2 st => ?_
  obtain ⟨F, okF, e1, m3⟩ := r1
  obtain ⟨J, okJ, e2, m4⟩ := r2
  subst e1 e2
  refine q_whenF st (et_is (et_or (a := false) (b := false) (et_is (et_not (et_test (ev_signs (ev_var rfl) (ev_var rfl) okF okJ))) rfl) fun _ => et_or (a := false) (b := false) (et_is (et_not (et_test (ev_signs (ev_var rfl) (ev_var rfl) okJ okF))) rfl) fun _ => et_is (et_not (et_test (ev_signs (ev_var rfl) (ev_var rfl) okF okF))) rfl) rfl) fun B5 H5 x5 st => ?_
  refine q_unlessX st (ex_shifts (ev_var rfl) okF (ex_draw rfl m4.pool (n := 10) (by decide) (by decide))) (fun d O' h => h.1) fun B6 O6 H6 x6 m6 st => ?_
  have m6 := m6.2
  refine q_lastX (R := fun O' => PoolAt O' p) st (ex_op (ex_draw rfl m6.pool (n := 8) (by decide) (by decide)) (R2' := fun _ O' d2 O'' => d2 = .int 0 ∧ O'' = O') (fun d1 B' O' _ _ => ex_pure ev_int) ?_) (fun B' O' H' e hp st Qb qb => ?_) fun B7 O7 H7 x7 st => ?_
  · rintro d1 O' d2 O'' ⟨r, rfl, _, _, m⟩ ⟨rfl, rfl⟩
    exact ⟨_, rd_eqInt, ⟨_, rfl⟩, m.pool⟩
  · refine (ev_madeF (C := CS) (ev_var (i := 3) rfl) okJ) B' O' _ H' (Ex.refl _) (Ex.refl _) st _ fun uv B8 H8 e8 w8 pu => ?_
    obtain ⟨sv, h1, h2⟩ := st.s.get (i := 1) rfl
    have h3 : sv = some (.ref p) := h2
    subst h3
    exact ⟨_, h1, B8, O', uv, J.ls, p, rfl, w8, pu, (is_fld okJ).n.ok, hp, fun B9 O9 H9 e9 w9 => ⟨true, rfl, qb B9 O9 H9 (e8.trans e9) ⟨w9, st.s.ex (e8.trans e9)⟩⟩⟩
  · exact s_ret st ev_bl fun z B8 H8 x8 w8 d8 => by
      rw [dp_bool d8]
      exact q H8
end

end Toy
set_option Elab.async false
set_option linter.all false
set_option maxRecDepth 100000
set_option maxHeartbeats 4000000
namespace Toy
open PySem PySem.Spec PyProof.Rows L2 StX DL

theorem du_or : PySem.dunder "or" = ("__or__" : Str) := by decide +kernel
theorem du_and : PySem.dunder "and" = ("__and__" : Str) := by decide +kernel
theorem du_sub : PySem.dunder "sub" = ("__sub__" : Str) := by decide +kernel
theorem du_add : PySem.dunder "add" = ("__add__" : Str) := by decide +kernel
theorem dr_add : dunderR "add" = ("__radd__" : Str) := by decide +kernel
theorem dr_sub : dunderR "sub" = ("__rsub__" : Str) := by decide +kernel
theorem di_add : dunderI "add" = ("__iadd__" : Str) := by decide +kernel
theorem di_sub : dunderI "sub" = ("__isub__" : Str) := by decide +kernel
theorem kit_own {K : PySem.W.Frag} {t : Value} {C : Addr} (hc : PySem.W.isClsIn K C = true) (ht : PySem.W.typeIn K (.ref C) = some (.type "type")) (h : PySem.W.subIn K t (.ref C) = some true) : PySem.W.kitOne K t (.ref C) = some true := by
  unfold PySem.W.kitOne
  split
  · rfl
  · show (if ((PySem.W.clsIn K C).isSome && PySem.W.typeIn K (.ref C) == some (.type "type")) = true then PySem.W.subIn K t (.ref C) else none) = some true
    rw [show (PySem.W.clsIn K C).isSome = true from hc, ht, h]
    rfl
theorem kit_err {K : PySem.W.Frag} {C : Addr} (h : PySem.W.subIn K (.ref C) (.type "ValueError") = some true) : PySem.W.kitOne K (.ref C) (.type "ValueError") = some true := by
  unfold PySem.W.kitOne
  split
  · rfl
  · show (if PySem.W.kitMeta "ValueError" = true then PySem.W.subIn K (.ref C) (.type "ValueError") else none) = some true
    rw [if_pos (by decide +kernel)]
    exact h
theorem all_mk {l : PySem.W.OpenLaw} {w : World} {K : PySem.W.Frag} {h : Heap} {mg : Str → Option Value} {fa : Addr} (X : K.In h) (G : h.Ns mainGlobals mg) (hfa : mg "law" = some (.ref fa))
    {f1 : Addr} {od1 an1 : Option Addr} {sl1 : Array (Option Value)} {oc1 kV1 dc1 pm1 cd1 ct1 : Value} {f2 : Addr} {od2 an2 : Option Addr} {sl2 : Array (Option Value)} {oc2 kV2 dc2 pm2 cd2 ct2 : Value} {f3 : Addr} {od3 an3 : Option Addr} {sl3 : Array (Option Value)} {oc3 kV3 dc3 pm3 cd3 ct3 : Value} {f4 : Addr} {od4 an4 : Option Addr} {sl4 : Array (Option Value)} {oc4 kV4 dc4 pm4 cd4 ct4 : Value} {f5 : Addr} {od5 an5 : Option Addr} {sl5 : Array (Option Value)} {oc5 kV5 dc5 pm5 cd5 ct5 : Value} {f6 : Addr} {od6 an6 : Option Addr} {sl6 : Array (Option Value)} {oc6 kV6 dc6 pm6 cd6 ct6 : Value} {f7 : Addr} {od7 an7 : Option Addr} {sl7 : Array (Option Value)} {oc7 kV7 dc7 pm7 cd7 ct7 : Value} {f8 : Addr} {od8 an8 : Option Addr} {sl8 : Array (Option Value)} {oc8 kV8 dc8 pm8 cd8 ct8 : Value} {f9 : Addr} {od9 an9 : Option Addr} {sl9 : Array (Option Value)} {oc9 kV9 dc9 pm9 cd9 ct9 : Value} {f10 : Addr} {od10 an10 : Option Addr} {sl10 : Array (Option Value)} {oc10 kV10 dc10 pm10 cd10 ct10 : Value} {f11 : Addr} {od11 an11 : Option Addr} {sl11 : Array (Option Value)} {oc11 kV11 dc11 pm11 cd11 ct11 : Value} {f12 : Addr} {od12 an12 : Option Addr} {sl12 : Array (Option Value)} {oc12 kV12 dc12 pm12 cd12 ct12 : Value} {f13 : Addr} {od13 an13 : Option Addr} {sl13 : Array (Option Value)} {oc13 kV13 dc13 pm13 cd13 ct13 : Value} {f14 : Addr} {od14 an14 : Option Addr} {sl14 : Array (Option Value)} {oc14 kV14 dc14 pm14 cd14 ct14 : Value} {f15 : Addr} {od15 an15 : Option Addr} {sl15 : Array (Option Value)} {oc15 kV15 dc15 pm15 cd15 ct15 : Value} {f16 : Addr} {od16 an16 : Option Addr} {sl16 : Array (Option Value)} {oc16 kV16 dc16 pm16 cd16 ct16 : Value} {f17 : Addr} {od17 an17 : Option Addr} {sl17 : Array (Option Value)} {oc17 kV17 dc17 pm17 cd17 ct17 : Value} {f18 : Addr} {od18 an18 : Option Addr} {sl18 : Array (Option Value)} {oc18 kV18 dc18 pm18 cd18 ct18 : Value} {f19 : Addr} {od19 an19 : Option Addr} {sl19 : Array (Option Value)} {oc19 kV19 dc19 pm19 cd19 ct19 : Value} {f20 : Addr} {od20 an20 : Option Addr} {sl20 : Array (Option Value)} {oc20 kV20 dc20 pm20 cd20 ct20 : Value} {f21 : Addr} {od21 an21 : Option Addr} {sl21 : Array (Option Value)} {oc21 kV21 dc21 pm21 cd21 ct21 : Value} {f22 : Addr} {od22 an22 : Option Addr} {sl22 : Array (Option Value)} {oc22 kV22 dc22 pm22 cd22 ct22 : Value} {f23 : Addr} {od23 an23 : Option Addr} {sl23 : Array (Option Value)} {oc23 kV23 dc23 pm23 cd23 ct23 : Value} {f24 : Addr} {od24 an24 : Option Addr} {sl24 : Array (Option Value)} {oc24 kV24 dc24 pm24 cd24 ct24 : Value} {f25 : Addr} {od25 an25 : Option Addr} {sl25 : Array (Option Value)} {oc25 kV25 dc25 pm25 cd25 ct25 : Value} {f26 : Addr} {od26 an26 : Option Addr} {sl26 : Array (Option Value)} {oc26 kV26 dc26 pm26 cd26 ct26 : Value} {f27 : Addr} {od27 an27 : Option Addr} {sl27 : Array (Option Value)} {oc27 kV27 dc27 pm27 cd27 ct27 : Value} {tM : Tok} {tF : Addr} {ddF : Option Addr} {nF : Nat} {slTF : Array (Option Value)} {fF : Addr} {odF anF : Option Addr} {slF : Array (Option Value)} {ocF kVF dcF pmF cdF ctF : Value} {CS : Addr} {tI t0 t1 : Addr} {ddI dd0 dd1 : Option Addr} {nI n0 n1 : Nat} {slTI slT0 slT1 : Array (Option Value)} {tk0 tk1 : Tok} {fI : Addr} {odI anI : Option Addr} {slI : Array (Option Value)} {ocI kVI dcI pmI cdI ctI : Value} {pE : Addr} {restE : List Value} {fE : Addr} {odE anE : Option Addr} {slE : Array (Option Value)} {ocE kVE dcE pmE cdE ctE : Value} {pR : Addr} {restR : List Value} {fR : Addr} {odR anR : Option Addr} {slR : Array (Option Value)} {ocR kVR dcR pmR cdR ctR : Value} {fO : Addr} {odO anO : Option Addr} {slO : Array (Option Value)} {ocO kVO dcO pmO cdO ctO : Value} {fQ : Addr} {odQ anQ : Option Addr} {slQ : Array (Option Value)} {ocQ kVQ dcQ pmQ cdQ ctQ : Value} {fM1 : Addr} {odM1 anM1 : Option Addr} {slM1 : Array (Option Value)} {ocM1 kVM1 dcM1 pmM1 cdM1 ctM1 : Value} {fM2 : Addr} {odM2 anM2 : Option Addr} {slM2 : Array (Option Value)} {ocM2 kVM2 dcM2 pmM2 cdM2 ctM2 : Value} {fM3 : Addr} {odM3 anM3 : Option Addr} {slM3 : Array (Option Value)} {ocM3 kVM3 dcM3 pmM3 cdM3 ctM3 : Value} {fM4 : Addr} {odM4 anM4 : Option Addr} {slM4 : Array (Option Value)} {ocM4 kVM4 dcM4 pmM4 cdM4 ctM4 : Value} {fM5 : Addr} {odM5 anM5 : Option Addr} {slM5 : Array (Option Value)} {ocM5 kVM5 dcM5 pmM5 cdM5 ctM5 : Value} {fM6 : Addr} {odM6 anM6 : Option Addr} {slM6 : Array (Option Value)} {ocM6 kVM6 dcM6 pmM6 cdM6 ctM6 : Value} {fM7 : Addr} {odM7 anM7 : Option Addr} {slM7 : Array (Option Value)} {ocM7 kVM7 dcM7 pmM7 cdM7 ctM7 : Value} {fM8 : Addr} {odM8 anM8 : Option Addr} {slM8 : Array (Option Value)} {ocM8 kVM8 dcM8 pmM8 cdM8 ctM8 : Value} {cdC : ClassData} {CL : Addr} {CN : Addr} {fxN : Addr} {odxN anxN : Option Addr} {slxN : Array (Option Value)} {ocxN kVxN dcxN pmxN cdxN ctxN : Value} {nmN qqN : Str} {NNN : Addr} {bsN bmN subN : List Value} {snN : List Str} {abN : Bool} {colN : Option Bool} {ddN : Option Addr} {k0N k1N k2N k3N k5N : Option Value} {CT : Addr} {fxT : Addr} {odxT anxT : Option Addr} {slxT : Array (Option Value)} {ocxT kVxT dcxT pmxT cdxT ctxT : Value} {nmT qqT : Str} {NNT : Addr} {bsT bmT subT : List Value} {snT : List Str} {abT : Bool} {colT : Option Bool} {ddT : Option Addr} {k0T k1T k2T k3T k5T : Option Value}
    (a1 : PySem.W.nsIn K mainGlobals "is_integer" = some (some (.ref f1)))
    (l1 : K.lookup f1 = some ⟨oc1, od1, .func (PySem.W.fnOf "is_integer" "is_integer" (defArgs s_is_integer) (defBody s_is_integer) (defScope s_is_integer) .none kV1 dc1 pm1 an1 cd1 ct1), sl1⟩)
    (c1 : PySem.W.codeIn K cd1 "is_integer" = true)
    (k1 : PySem.W.keepIn K (.ref f1) = true)
    (a2 : PySem.W.nsIn K mainGlobals "common_divisor" = some (some (.ref f2)))
    (l2 : K.lookup f2 = some ⟨oc2, od2, .func (PySem.W.fnOf "common_divisor" "common_divisor" (defArgs s_common_divisor) (defBody s_common_divisor) (defScope s_common_divisor) .none kV2 dc2 pm2 an2 cd2 ct2), sl2⟩)
    (c2 : PySem.W.codeIn K cd2 "common_divisor" = true)
    (k2 : PySem.W.keepIn K (.ref f2) = true)
    (a3 : PySem.W.nsIn K mainGlobals "common_multiple" = some (some (.ref f3)))
    (l3 : K.lookup f3 = some ⟨oc3, od3, .func (PySem.W.fnOf "common_multiple" "common_multiple" (defArgs s_common_multiple) (defBody s_common_multiple) (defScope s_common_multiple) .none kV3 dc3 pm3 an3 cd3 ct3), sl3⟩)
    (c3 : PySem.W.codeIn K cd3 "common_multiple" = true)
    (k3 : PySem.W.keepIn K (.ref f3) = true)
    (a4 : PySem.W.nsIn K mainGlobals "check_size" = some (some (.ref f4)))
    (l4 : K.lookup f4 = some ⟨oc4, od4, .func (PySem.W.fnOf "check_size" "check_size" (defArgs s_check_size) (defBody s_check_size) (defScope s_check_size) .none kV4 dc4 pm4 an4 cd4 ct4), sl4⟩)
    (c4 : PySem.W.codeIn K cd4 "check_size" = true)
    (k4 : PySem.W.keepIn K (.ref f4) = true)
    (a5 : PySem.W.nsIn K mainGlobals "check_numbers" = some (some (.ref f5)))
    (l5 : K.lookup f5 = some ⟨oc5, od5, .func (PySem.W.fnOf "check_numbers" "check_numbers" (defArgs s_check_numbers) (defBody s_check_numbers) (defScope s_check_numbers) .none kV5 dc5 pm5 an5 cd5 ct5), sl5⟩)
    (c5 : PySem.W.codeIn K cd5 "check_numbers" = true)
    (k5 : PySem.W.keepIn K (.ref f5) = true)
    (a6 : PySem.W.nsIn K mainGlobals "marks_for" = some (some (.ref f6)))
    (l6 : K.lookup f6 = some ⟨oc6, od6, .func (PySem.W.fnOf "marks_for" "marks_for" (defArgs s_marks_for) (defBody s_marks_for) (defScope s_marks_for) .none kV6 dc6 pm6 an6 cd6 ct6), sl6⟩)
    (c6 : PySem.W.codeIn K cd6 "marks_for" = true)
    (k6 : PySem.W.keepIn K (.ref f6) = true)
    (a7 : PySem.W.nsIn K mainGlobals "least_period" = some (some (.ref f7)))
    (l7 : K.lookup f7 = some ⟨oc7, od7, .func (PySem.W.fnOf "least_period" "least_period" (defArgs s_least_period) (defBody s_least_period) (defScope s_least_period) .none kV7 dc7 pm7 an7 cd7 ct7), sl7⟩)
    (c7 : PySem.W.codeIn K cd7 "least_period" = true)
    (k7 : PySem.W.keepIn K (.ref f7) = true)
    (a8 : PySem.W.nsIn K mainGlobals "least_start" = some (some (.ref f8)))
    (l8 : K.lookup f8 = some ⟨oc8, od8, .func (PySem.W.fnOf "least_start" "least_start" (defArgs s_least_start) (defBody s_least_start) (defScope s_least_start) .none kV8 dc8 pm8 an8 cd8 ct8), sl8⟩)
    (c8 : PySem.W.codeIn K cd8 "least_start" = true)
    (k8 : PySem.W.keepIn K (.ref f8) = true)
    (a9 : PySem.W.nsIn K mainGlobals "marks_of" = some (some (.ref f9)))
    (l9 : K.lookup f9 = some ⟨oc9, od9, .func (PySem.W.fnOf "marks_of" "marks_of" (defArgs s_marks_of) (defBody s_marks_of) (defScope s_marks_of) .none kV9 dc9 pm9 an9 cd9 ct9), sl9⟩)
    (c9 : PySem.W.codeIn K cd9 "marks_of" = true)
    (k9 : PySem.W.keepIn K (.ref f9) = true)
    (a10 : PySem.W.nsIn K mainGlobals "set_of" = some (some (.ref f10)))
    (l10 : K.lookup f10 = some ⟨oc10, od10, .func (PySem.W.fnOf "set_of" "set_of" (defArgs s_set_of) (defBody s_set_of) (defScope s_set_of) .none kV10 dc10 pm10 an10 cd10 ct10), sl10⟩)
    (c10 : PySem.W.codeIn K cd10 "set_of" = true)
    (k10 : PySem.W.keepIn K (.ref f10) = true)
    (a11 : PySem.W.nsIn K mainGlobals "paired" = some (some (.ref f11)))
    (l11 : K.lookup f11 = some ⟨oc11, od11, .func (PySem.W.fnOf "paired" "paired" (defArgs s_paired) (defBody s_paired) (defScope s_paired) .none kV11 dc11 pm11 an11 cd11 ct11), sl11⟩)
    (c11 : PySem.W.codeIn K cd11 "paired" = true)
    (k11 : PySem.W.keepIn K (.ref f11) = true)
    (a12 : PySem.W.nsIn K mainGlobals "raised" = some (some (.ref f12)))
    (l12 : K.lookup f12 = some ⟨oc12, od12, .func (PySem.W.fnOf "raised" "raised" (defArgs s_raised) (defBody s_raised) (defScope s_raised) .none kV12 dc12 pm12 an12 cd12 ct12), sl12⟩)
    (c12 : PySem.W.codeIn K cd12 "raised" = true)
    (k12 : PySem.W.keepIn K (.ref f12) = true)
    (a13 : PySem.W.nsIn K mainGlobals "lowered" = some (some (.ref f13)))
    (l13 : K.lookup f13 = some ⟨oc13, od13, .func (PySem.W.fnOf "lowered" "lowered" (defArgs s_lowered) (defBody s_lowered) (defScope s_lowered) .none kV13 dc13 pm13 an13 cd13 ct13), sl13⟩)
    (c13 : PySem.W.codeIn K cd13 "lowered" = true)
    (k13 : PySem.W.keepIn K (.ref f13) = true)
    (a14 : PySem.W.nsIn K mainGlobals "_law_pool" = some (some (.ref f14)))
    (l14 : K.lookup f14 = some ⟨oc14, od14, .func (PySem.W.fnOf "_law_pool" "_law_pool" (defArgs s_law_pool) (defBody s_law_pool) (defScope s_law_pool) .none kV14 dc14 pm14 an14 cd14 ct14), sl14⟩)
    (c14 : PySem.W.codeIn K cd14 "_law_pool" = true)
    (k14 : PySem.W.keepIn K (.ref f14) = true)
    (a15 : PySem.W.nsIn K mainGlobals "_law_draw" = some (some (.ref f15)))
    (l15 : K.lookup f15 = some ⟨oc15, od15, .func (PySem.W.fnOf "_law_draw" "_law_draw" (defArgs s_law_draw) (defBody s_law_draw) (defScope s_law_draw) .none kV15 dc15 pm15 an15 cd15 ct15), sl15⟩)
    (c15 : PySem.W.codeIn K cd15 "_law_draw" = true)
    (k15 : PySem.W.keepIn K (.ref f15) = true)
    (a16 : PySem.W.nsIn K mainGlobals "_law_some" = some (some (.ref f16)))
    (l16 : K.lookup f16 = some ⟨oc16, od16, .func (PySem.W.fnOf "_law_some" "_law_some" (defArgs s_law_some) (defBody s_law_some) (defScope s_law_some) .none kV16 dc16 pm16 an16 cd16 ct16), sl16⟩)
    (c16 : PySem.W.codeIn K cd16 "_law_some" = true)
    (k16 : PySem.W.keepIn K (.ref f16) = true)
    (a17 : PySem.W.nsIn K mainGlobals "_law_fields" = some (some (.ref f17)))
    (l17 : K.lookup f17 = some ⟨oc17, od17, .func (PySem.W.fnOf "_law_fields" "_law_fields" (defArgs s_law_fields) (defBody s_law_fields) (defScope s_law_fields) .none kV17 dc17 pm17 an17 cd17 ct17), sl17⟩)
    (c17 : PySem.W.codeIn K cd17 "_law_fields" = true)
    (k17 : PySem.W.keepIn K (.ref f17) = true)
    (a18 : PySem.W.nsIn K mainGlobals "_law_has" = some (some (.ref f18)))
    (l18 : K.lookup f18 = some ⟨oc18, od18, .func (PySem.W.fnOf "_law_has" "_law_has" (defArgs s_law_has) (defBody s_law_has) (defScope s_law_has) .none kV18 dc18 pm18 an18 cd18 ct18), sl18⟩)
    (c18 : PySem.W.codeIn K cd18 "_law_has" = true)
    (k18 : PySem.W.keepIn K (.ref f18) = true)
    (a19 : PySem.W.nsIn K mainGlobals "_law_members" = some (some (.ref f19)))
    (l19 : K.lookup f19 = some ⟨oc19, od19, .func (PySem.W.fnOf "_law_members" "_law_members" (defArgs s_law_members) (defBody s_law_members) (defScope s_law_members) .none kV19 dc19 pm19 an19 cd19 ct19), sl19⟩)
    (c19 : PySem.W.codeIn K cd19 "_law_members" = true)
    (k19 : PySem.W.keepIn K (.ref f19) = true)
    (a20 : PySem.W.nsIn K mainGlobals "_law_made" = some (some (.ref f20)))
    (l20 : K.lookup f20 = some ⟨oc20, od20, .func (PySem.W.fnOf "_law_made" "_law_made" (defArgs s_law_made) (defBody s_law_made) (defScope s_law_made) .none kV20 dc20 pm20 an20 cd20 ct20), sl20⟩)
    (c20 : PySem.W.codeIn K cd20 "_law_made" = true)
    (k20 : PySem.W.keepIn K (.ref f20) = true)
    (a21 : PySem.W.nsIn K mainGlobals "_law_signs" = some (some (.ref f21)))
    (l21 : K.lookup f21 = some ⟨oc21, od21, .func (PySem.W.fnOf "_law_signs" "_law_signs" (defArgs s_law_signs) (defBody s_law_signs) (defScope s_law_signs) .none kV21 dc21 pm21 an21 cd21 ct21), sl21⟩)
    (c21 : PySem.W.codeIn K cd21 "_law_signs" = true)
    (k21 : PySem.W.keepIn K (.ref f21) = true)
    (a22 : PySem.W.nsIn K mainGlobals "_law_shifts" = some (some (.ref f22)))
    (l22 : K.lookup f22 = some ⟨oc22, od22, .func (PySem.W.fnOf "_law_shifts" "_law_shifts" (defArgs s_law_shifts) (defBody s_law_shifts) (defScope s_law_shifts) .none kV22 dc22 pm22 an22 cd22 ct22), sl22⟩)
    (c22 : PySem.W.codeIn K cd22 "_law_shifts" = true)
    (k22 : PySem.W.keepIn K (.ref f22) = true)
    (a23 : PySem.W.nsIn K mainGlobals "_law_answer" = some (some (.ref f23)))
    (l23 : K.lookup f23 = some ⟨oc23, od23, .func (PySem.W.fnOf "_law_answer" "_law_answer" (defArgs s_law_answer) (defBody s_law_answer) (defScope s_law_answer) .none kV23 dc23 pm23 an23 cd23 ct23), sl23⟩)
    (c23 : PySem.W.codeIn K cd23 "_law_answer" = true)
    (k23 : PySem.W.keepIn K (.ref f23) = true)
    (a24 : PySem.W.nsIn K mainGlobals "_law_refused" = some (some (.ref f24)))
    (l24 : K.lookup f24 = some ⟨oc24, od24, .func (PySem.W.fnOf "_law_refused" "_law_refused" (defArgs s_law_refused) (defBody s_law_refused) (defScope s_law_refused) .none kV24 dc24 pm24 an24 cd24 ct24), sl24⟩)
    (c24 : PySem.W.codeIn K cd24 "_law_refused" = true)
    (k24 : PySem.W.keepIn K (.ref f24) = true)
    (a25 : PySem.W.nsIn K mainGlobals "_law_joined" = some (some (.ref f25)))
    (l25 : K.lookup f25 = some ⟨oc25, od25, .func (PySem.W.fnOf "_law_joined" "_law_joined" (defArgs s_law_joined) (defBody s_law_joined) (defScope s_law_joined) .none kV25 dc25 pm25 an25 cd25 ct25), sl25⟩)
    (c25 : PySem.W.codeIn K cd25 "_law_joined" = true)
    (k25 : PySem.W.keepIn K (.ref f25) = true)
    (a26 : PySem.W.nsIn K mainGlobals "_law_periods_right" = some (some (.ref f26)))
    (l26 : K.lookup f26 = some ⟨oc26, od26, .func (PySem.W.fnOf "_law_periods_right" "_law_periods_right" (defArgs s_law_periods_right) (defBody s_law_periods_right) (defScope s_law_periods_right) .none kV26 dc26 pm26 an26 cd26 ct26), sl26⟩)
    (c26 : PySem.W.codeIn K cd26 "_law_periods_right" = true)
    (k26 : PySem.W.keepIn K (.ref f26) = true)
    (a27 : PySem.W.nsIn K mainGlobals "law" = some (some (.ref f27)))
    (l27 : K.lookup f27 = some ⟨oc27, od27, .func (PySem.W.fnOf "law" "law" (defArgs s_law) (defBody s_law) (defScope s_law) .none kV27 dc27 pm27 an27 cd27 ct27), sl27⟩)
    (c27 : PySem.W.codeIn K cd27 "law" = true)
    (k27 : PySem.W.keepIn K (.ref f27) = true)
    (z_len : PySem.W.nsIn K mainGlobals "len" = some none)
    (z_list : PySem.W.nsIn K mainGlobals "list" = some none)
    (z_tuple : PySem.W.nsIn K mainGlobals "tuple" = some none)
    (z_int : PySem.W.nsIn K mainGlobals "int" = some none)
    (z_abs : PySem.W.nsIn K mainGlobals "abs" = some none)
    (z_bool : PySem.W.nsIn K mainGlobals "bool" = some none)
    (z_range : PySem.W.nsIn K mainGlobals "range" = some none)
    (z_isinstance : PySem.W.nsIn K mainGlobals "isinstance" = some none)
    (z_ValueError : PySem.W.nsIn K mainGlobals "ValueError" = some none)
    (z_all : PySem.W.nsIn K mainGlobals "all" = some none)
    (z_any : PySem.W.nsIn K mainGlobals "any" = some none)
    (z_zip : PySem.W.nsIn K mainGlobals "zip" = some none)
    (gM : PySem.W.nsIn K mainGlobals "MOST" = some (some (.int 5000 tM)))
    (aF : PySem.W.nsIn K mainGlobals "is_from" = some (some (.ref fF)))
    (lF : K.lookup fF = some ⟨ocF, odF, .func (PySem.W.fnOf "is_from" "is_from" (defArgs s_is_from) (defBody s_is_from) (defScope s_is_from) (.ref tF) kVF dcF pmF anF cdF ctF), slF⟩)
    (cF : PySem.W.codeIn K cdF "is_from" = true)
    (kF : PySem.W.keepIn K (.ref fF) = true)
    (vF : K.lookup tF = some ⟨.type "tuple", ddF, .seq #[.none] nF, slTF⟩)
    (gC : PySem.W.nsIn K mainGlobals "LengthSet" = some (some (.ref CS)))
    (pg : PySem.W.plainGet K CS Str.empty = true)
    (hd : PySem.W.hasDictIn K CS = true)
    (po : PySem.W.plainOver K CS = true)
    (sa : PySem.W.findIn K (.ref CS) "__setattr__" = some (some (.builtin "object.__setattr__")))
    (n_period : PySem.W.findIn K (.ref CS) "period" = some none)
    (n_cycle : PySem.W.findIn K (.ref CS) "cycle" = some none)
    (n_start : PySem.W.findIn K (.ref CS) "start" = some none)
    (n_marks : PySem.W.findIn K (.ref CS) "marks" = some none)
    (mk : PySem.W.makesIn K CS = true)
    (aI : PySem.W.findIn K (.ref CS) "__init__" = some (some (.ref fI)))
    (iI : PySem.W.isFn K (.ref fI) = true)
    (kC : PySem.W.keepIn K (.ref CS) = true)
    (lI : K.lookup fI = some ⟨ocI, odI, .func (PySem.W.fnOf "__init__" "LengthSet.__init__" (defArgs s_LengthSet_init) (defBody s_LengthSet_init) (defScope s_LengthSet_init) (.ref tI) kVI dcI pmI anI cdI ctI), slI⟩)
    (cI : PySem.W.codeIn K cdI "LengthSet.__init__" = true)
    (kI : PySem.W.keepIn K (.ref fI) = true)
    (vI : K.lookup tI = some ⟨.type "tuple", ddI, .seq #[.ref t0, .int 0 tk0, .int 1 tk1, .ref t1] nI, slTI⟩)
    (v0 : K.lookup t0 = some ⟨.type "tuple", dd0, .seq #[] n0, slT0⟩)
    (v1 : K.lookup t1 = some ⟨.type "tuple", dd1, .seq #[] n1, slT1⟩)
    (qE1 : PySem.W.findIn K (.ref CS) "early" = some (some (.ref pE)))
    (qE2 : PySem.W.specialIn K (.ref pE) "__get__" = some (some (.builtin "property.__get__")))
    (qE3 : PySem.W.takesIn K (.ref pE) = some true)
    (qE4 : PySem.W.recIn K pE "property" = some (.ref fE :: restE))
    (lE : K.lookup fE = some ⟨ocE, odE, .func (PySem.W.fnOf "early" "LengthSet.early" (defArgs s_LengthSet_early) (defBody s_LengthSet_early) (defScope s_LengthSet_early) .none kVE dcE pmE anE cdE ctE), slE⟩)
    (cE : PySem.W.codeIn K cdE "LengthSet.early" = true)
    (kE : PySem.W.keepIn K (.ref fE) = true)
    (qR1 : PySem.W.findIn K (.ref CS) "rests" = some (some (.ref pR)))
    (qR2 : PySem.W.specialIn K (.ref pR) "__get__" = some (some (.builtin "property.__get__")))
    (qR3 : PySem.W.takesIn K (.ref pR) = some true)
    (qR4 : PySem.W.recIn K pR "property" = some (.ref fR :: restR))
    (lR : K.lookup fR = some ⟨ocR, odR, .func (PySem.W.fnOf "rests" "LengthSet.rests" (defArgs s_LengthSet_rests) (defBody s_LengthSet_rests) (defScope s_LengthSet_rests) .none kVR dcR pmR anR cdR ctR), slR⟩)
    (cR : PySem.W.codeIn K cdR "LengthSet.rests" = true)
    (kR : PySem.W.keepIn K (.ref fR) = true)
    (qO1 : PySem.W.findIn K (.ref CS) "__contains__" = some (some (.ref fO)))
    (qO2 : PySem.W.isFn K (.ref fO) = true)
    (lO : K.lookup fO = some ⟨ocO, odO, .func (PySem.W.fnOf "__contains__" "LengthSet.__contains__" (defArgs s_LengthSet_contains) (defBody s_LengthSet_contains) (defScope s_LengthSet_contains) .none kVO dcO pmO anO cdO ctO), slO⟩)
    (cO : PySem.W.codeIn K cdO "LengthSet.__contains__" = true)
    (kO : PySem.W.keepIn K (.ref fO) = true)
    (qQ1 : PySem.W.findIn K (.ref CS) "__eq__" = some (some (.ref fQ)))
    (qQ2 : PySem.W.isFn K (.ref fQ) = true)
    (lQ : K.lookup fQ = some ⟨ocQ, odQ, .func (PySem.W.fnOf "__eq__" "LengthSet.__eq__" (defArgs s_LengthSet_eq) (defBody s_LengthSet_eq) (defScope s_LengthSet_eq) .none kVQ dcQ pmQ anQ cdQ ctQ), slQ⟩)
    (cQ : PySem.W.codeIn K cdQ "LengthSet.__eq__" = true)
    (kQ : PySem.W.keepIn K (.ref fQ) = true)
    (qM11 : PySem.W.findIn K (.ref CS) "__or__" = some (some (.ref fM1)))
    (qM12 : PySem.W.isFn K (.ref fM1) = true)
    (lM1 : K.lookup fM1 = some ⟨ocM1, odM1, .func (PySem.W.fnOf "__or__" "LengthSet.__or__" (defArgs s_LengthSet_or) (defBody s_LengthSet_or) (defScope s_LengthSet_or) .none kVM1 dcM1 pmM1 anM1 cdM1 ctM1), slM1⟩)
    (cM1 : PySem.W.codeIn K cdM1 "LengthSet.__or__" = true)
    (kM1 : PySem.W.keepIn K (.ref fM1) = true)
    (qM21 : PySem.W.findIn K (.ref CS) "__and__" = some (some (.ref fM2)))
    (qM22 : PySem.W.isFn K (.ref fM2) = true)
    (lM2 : K.lookup fM2 = some ⟨ocM2, odM2, .func (PySem.W.fnOf "__and__" "LengthSet.__and__" (defArgs s_LengthSet_and) (defBody s_LengthSet_and) (defScope s_LengthSet_and) .none kVM2 dcM2 pmM2 anM2 cdM2 ctM2), slM2⟩)
    (cM2 : PySem.W.codeIn K cdM2 "LengthSet.__and__" = true)
    (kM2 : PySem.W.keepIn K (.ref fM2) = true)
    (qM31 : PySem.W.findIn K (.ref CS) "__sub__" = some (some (.ref fM3)))
    (qM32 : PySem.W.isFn K (.ref fM3) = true)
    (lM3 : K.lookup fM3 = some ⟨ocM3, odM3, .func (PySem.W.fnOf "__sub__" "LengthSet.__sub__" (defArgs s_LengthSet_sub) (defBody s_LengthSet_sub) (defScope s_LengthSet_sub) .none kVM3 dcM3 pmM3 anM3 cdM3 ctM3), slM3⟩)
    (cM3 : PySem.W.codeIn K cdM3 "LengthSet.__sub__" = true)
    (kM3 : PySem.W.keepIn K (.ref fM3) = true)
    (qM41 : PySem.W.findIn K (.ref CS) "__add__" = some (some (.ref fM4)))
    (qM42 : PySem.W.isFn K (.ref fM4) = true)
    (lM4 : K.lookup fM4 = some ⟨ocM4, odM4, .func (PySem.W.fnOf "__add__" "LengthSet.__add__" (defArgs s_LengthSet_add) (defBody s_LengthSet_add) (defScope s_LengthSet_add) .none kVM4 dcM4 pmM4 anM4 cdM4 ctM4), slM4⟩)
    (cM4 : PySem.W.codeIn K cdM4 "LengthSet.__add__" = true)
    (kM4 : PySem.W.keepIn K (.ref fM4) = true)
    (qM51 : PySem.W.findIn K (.ref CS) "__radd__" = some (some (.ref fM5)))
    (qM52 : PySem.W.isFn K (.ref fM5) = true)
    (lM5 : K.lookup fM5 = some ⟨ocM5, odM5, .func (PySem.W.fnOf "__radd__" "LengthSet.__radd__" (defArgs s_LengthSet_radd) (defBody s_LengthSet_radd) (defScope s_LengthSet_radd) .none kVM5 dcM5 pmM5 anM5 cdM5 ctM5), slM5⟩)
    (cM5 : PySem.W.codeIn K cdM5 "LengthSet.__radd__" = true)
    (kM5 : PySem.W.keepIn K (.ref fM5) = true)
    (qM61 : PySem.W.findIn K (.ref CS) "__invert__" = some (some (.ref fM6)))
    (qM62 : PySem.W.isFn K (.ref fM6) = true)
    (lM6 : K.lookup fM6 = some ⟨ocM6, odM6, .func (PySem.W.fnOf "__invert__" "LengthSet.__invert__" (defArgs s_LengthSet_invert) (defBody s_LengthSet_invert) (defScope s_LengthSet_invert) .none kVM6 dcM6 pmM6 anM6 cdM6 ctM6), slM6⟩)
    (cM6 : PySem.W.codeIn K cdM6 "LengthSet.__invert__" = true)
    (kM6 : PySem.W.keepIn K (.ref fM6) = true)
    (qM71 : PySem.W.findIn K (.ref CS) "__bool__" = some (some (.ref fM7)))
    (qM72 : PySem.W.isFn K (.ref fM7) = true)
    (lM7 : K.lookup fM7 = some ⟨ocM7, odM7, .func (PySem.W.fnOf "__bool__" "LengthSet.__bool__" (defArgs s_LengthSet_bool) (defBody s_LengthSet_bool) (defScope s_LengthSet_bool) .none kVM7 dcM7 pmM7 anM7 cdM7 ctM7), slM7⟩)
    (cM7 : PySem.W.codeIn K cdM7 "LengthSet.__bool__" = true)
    (kM7 : PySem.W.keepIn K (.ref fM7) = true)
    (qM81 : PySem.W.findIn K (.ref CS) "__le__" = some (some (.ref fM8)))
    (qM82 : PySem.W.isFn K (.ref fM8) = true)
    (lM8 : K.lookup fM8 = some ⟨ocM8, odM8, .func (PySem.W.fnOf "__le__" "LengthSet.__le__" (defArgs s_LengthSet_le) (defBody s_LengthSet_le) (defScope s_LengthSet_le) .none kVM8 dcM8 pmM8 anM8 cdM8 ctM8), slM8⟩)
    (cM8 : PySem.W.codeIn K cdM8 "LengthSet.__le__" = true)
    (kM8 : PySem.W.keepIn K (.ref fM8) = true)
    (rsb : PySem.W.findIn K (.ref CS) "__rsub__" = some none)
    (iad : PySem.W.findIn K (.ref CS) "__iadd__" = some none)
    (isb : PySem.W.findIn K (.ref CS) "__isub__" = some none)
    (sfC : PySem.W.selfFirst K CS = true)
    (sIC : PySem.W.subIn K (.type "int") (.ref CS) = some false)
    (sCI : PySem.W.subIn K (.ref CS) (.type "int") = some false)
    (hcdC : PySem.W.clsIn K CS = some cdC)
    (hmrC : cdC.mro = [.ref CS, .type "object"])
    (nen : PySem.W.findIn K (.ref CS) "__ne__" = some (some (.builtin "object.__ne__")))
    (mob : PySem.W.mroIn K CS (.type "object") = some true)
    (ca : PySem.W.findIn K (.ref CS) "__class__" = some (some (.builtin "object.__class__")))
    (cn : PySem.W.specialIn K (.builtin "object.__class__") "__get__" = some (some (.builtin "getset_descriptor.__get__")))
    (ct : PySem.W.takesIn K (.builtin "object.__class__") = some true)
    (gL : PySem.W.nsIn K mainGlobals "LimitError" = some (some (.ref CL)))
    (gN : PySem.W.nsIn K mainGlobals "NoSet" = some (some (.ref CN)))
    (eN : K.lookup CN = some (excClassObj nmN qqN CN NNN bsN bmN true snN subN abN colN ddN k0N k1N k2N k3N k5N "ValueError.__new__"))
    (rN : PySem.HandSPX.refsVE bmN = true)
    (sN : PySem.W.findIn K (.ref CN) "__setattr__" = some (some (.builtin "object.__setattr__")))
    (bbN : PySem.W.subIn K (.ref CN) (.type "BaseException") = some true)
    (tN : PySem.W.typeIn K (.ref CN) = some (.type "type"))
    (pN : PySem.W.keepIn K (.ref CN) = true)
    (noN : PySem.W.findIn K (.ref CN) "place" = some none)
    (gaN : PySem.W.findIn K (.ref CN) "__getattribute__" = some (some (.builtin "BaseException.__getattribute__")))
    (ggN : PySem.W.findIn K (.ref CN) "__getattr__" = some none)
    (hdN : PySem.W.hasDictIn K CN = true)
    (inN : PySem.W.findIn K (.ref CN) "__init__" = some (some (.ref fxN)))
    (tyN : PySem.W.typeIn K (.ref fxN) = some (.type "function"))
    (lxN : K.lookup fxN = some ⟨ocxN, odxN, .func (PySem.W.fnOf "__init__" "NoSet.__init__" (defArgs s_NoSet_init) (defBody s_NoSet_init) (defScope s_NoSet_init) .none kVxN dcxN pmxN anxN cdxN ctxN), slxN⟩)
    (cxN : PySem.W.codeIn K cdxN "NoSet.__init__" = true)
    (kxN : PySem.W.keepIn K (.ref fxN) = true)
    (caN : PySem.W.findIn K (.ref CN) "__class__" = some (some (.builtin "object.__class__")))
    (moN : PySem.W.mroIn K CN (.type "object") = some true)
    (gT : PySem.W.nsIn K mainGlobals "TooLarge" = some (some (.ref CT)))
    (eT : K.lookup CT = some (excClassObj nmT qqT CT NNT bsT bmT true snT subT abT colT ddT k0T k1T k2T k3T k5T "ValueError.__new__"))
    (rT : PySem.HandSPX.refsVE bmT = true)
    (sT : PySem.W.findIn K (.ref CT) "__setattr__" = some (some (.builtin "object.__setattr__")))
    (bbT : PySem.W.subIn K (.ref CT) (.type "BaseException") = some true)
    (tT : PySem.W.typeIn K (.ref CT) = some (.type "type"))
    (pT : PySem.W.keepIn K (.ref CT) = true)
    (noT : PySem.W.findIn K (.ref CT) "limit" = some none)
    (gaT : PySem.W.findIn K (.ref CT) "__getattribute__" = some (some (.builtin "BaseException.__getattribute__")))
    (ggT : PySem.W.findIn K (.ref CT) "__getattr__" = some none)
    (hdT : PySem.W.hasDictIn K CT = true)
    (inT : PySem.W.findIn K (.ref CT) "__init__" = some (some (.ref fxT)))
    (tyT : PySem.W.typeIn K (.ref fxT) = some (.type "function"))
    (lxT : K.lookup fxT = some ⟨ocxT, odxT, .func (PySem.W.fnOf "__init__" "TooLarge.__init__" (defArgs s_TooLarge_init) (defBody s_TooLarge_init) (defScope s_TooLarge_init) .none kVxT dcxT pmxT anxT cdxT ctxT), slxT⟩)
    (cxT : PySem.W.codeIn K cdxT "TooLarge.__init__" = true)
    (kxT : PySem.W.keepIn K (.ref fxT) = true)
    (caT : PySem.W.findIn K (.ref CT) "__class__" = some (some (.builtin "object.__class__")))
    (moT : PySem.W.mroIn K CT (.type "object") = some true)
    (neNT : CN ≠ CT)
    (sNN : PySem.W.subIn K (.ref CN) (.ref CN) = some true)
    (sTN : PySem.W.subIn K (.ref CT) (.ref CN) = some false)
    (sTT : PySem.W.subIn K (.ref CT) (.ref CT) = some true)
    (sNL : PySem.W.subIn K (.ref CN) (.ref CL) = some true)
    (sNV : PySem.W.subIn K (.ref CN) (.type "ValueError") = some true)
    (sTL : PySem.W.subIn K (.ref CT) (.ref CL) = some true)
    (icL : PySem.W.isClsIn K CL = true)
    (tyL : PySem.W.typeIn K (.ref CL) = some (.type "type"))
    :
    ∃ fd : FuncData, (∀ (s : Shared) (v : Value), BindsTo s fd ⟨[v], []⟩ [("script", v)]) ∧ ∀ base : Heap, K.In base → base.Ns mainGlobals mg → FnOk l.prog w K mg base CX0 17 fa fd ["script"] (spLaw K) := by
  have e := hfa.symm.trans (PySem.W.mg_of X G a27)
  cases e
  have F1 := fun_mk (st := s_is_integer) l1 c1 k1
  have b1 := F1.binds (ps := ["value"]) fun _ _ _ _ _ _ us hl => match us, hl with | [_], _ => rfl
  have A1 : At K mg "is_integer" s_is_integer ["value"] f1 _ := ⟨F1, PySem.W.mg_of X G a1, b1⟩
  have F2 := fun_mk (st := s_common_divisor) l2 c2 k2
  have b2 := F2.binds (ps := ["one", "two"]) fun _ _ _ _ _ _ us hl => match us, hl with | [_, _], _ => rfl
  have A2 : At K mg "common_divisor" s_common_divisor ["one", "two"] f2 _ := ⟨F2, PySem.W.mg_of X G a2, b2⟩
  have F3 := fun_mk (st := s_common_multiple) l3 c3 k3
  have b3 := F3.binds (ps := ["one", "two"]) fun _ _ _ _ _ _ us hl => match us, hl with | [_, _], _ => rfl
  have A3 : At K mg "common_multiple" s_common_multiple ["one", "two"] f3 _ := ⟨F3, PySem.W.mg_of X G a3, b3⟩
  have F4 := fun_mk (st := s_check_size) l4 c4 k4
  have b4 := F4.binds (ps := ["number", "low", "place"]) fun _ _ _ _ _ _ us hl => match us, hl with | [_, _, _], _ => rfl
  have A4 : At K mg "check_size" s_check_size ["number", "low", "place"] f4 _ := ⟨F4, PySem.W.mg_of X G a4, b4⟩
  have F5 := fun_mk (st := s_check_numbers) l5 c5 k5
  have b5 := F5.binds (ps := ["numbers", "bound", "place"]) fun _ _ _ _ _ _ us hl => match us, hl with | [_, _, _], _ => rfl
  have A5 : At K mg "check_numbers" s_check_numbers ["numbers", "bound", "place"] f5 _ := ⟨F5, PySem.W.mg_of X G a5, b5⟩
  have F6 := fun_mk (st := s_marks_for) l6 c6 k6
  have b6 := F6.binds (ps := ["numbers", "many"]) fun _ _ _ _ _ _ us hl => match us, hl with | [_, _], _ => rfl
  have A6 : At K mg "marks_for" s_marks_for ["numbers", "many"] f6 _ := ⟨F6, PySem.W.mg_of X G a6, b6⟩
  have F7 := fun_mk (st := s_least_period) l7 c7 k7
  have b7 := F7.binds (ps := ["marks"]) fun _ _ _ _ _ _ us hl => match us, hl with | [_], _ => rfl
  have A7 : At K mg "least_period" s_least_period ["marks"] f7 _ := ⟨F7, PySem.W.mg_of X G a7, b7⟩
  have F8 := fun_mk (st := s_least_start) l8 c8 k8
  have b8 := F8.binds (ps := ["marks", "cycle"]) fun _ _ _ _ _ _ us hl => match us, hl with | [_, _], _ => rfl
  have A8 : At K mg "least_start" s_least_start ["marks", "cycle"] f8 _ := ⟨F8, PySem.W.mg_of X G a8, b8⟩
  have F9 := fun_mk (st := s_marks_of) l9 c9 k9
  have b9 := F9.binds (ps := ["lengths", "start", "period"]) fun _ _ _ _ _ _ us hl => match us, hl with | [_, _, _], _ => rfl
  have A9 : At K mg "marks_of" s_marks_of ["lengths", "start", "period"] f9 _ := ⟨F9, PySem.W.mg_of X G a9, b9⟩
  have F10 := fun_mk (st := s_set_of) l10 c10 k10
  have b10 := F10.binds (ps := ["marks", "start"]) fun _ _ _ _ _ _ us hl => match us, hl with | [_, _], _ => rfl
  have A10 : At K mg "set_of" s_set_of ["marks", "start"] f10 _ := ⟨F10, PySem.W.mg_of X G a10, b10⟩
  have F11 := fun_mk (st := s_paired) l11 c11 k11
  have b11 := F11.binds (ps := ["one", "two"]) fun _ _ _ _ _ _ us hl => match us, hl with | [_, _], _ => rfl
  have A11 : At K mg "paired" s_paired ["one", "two"] f11 _ := ⟨F11, PySem.W.mg_of X G a11, b11⟩
  have F12 := fun_mk (st := s_raised) l12 c12 k12
  have b12 := F12.binds (ps := ["lengths", "many"]) fun _ _ _ _ _ _ us hl => match us, hl with | [_, _], _ => rfl
  have A12 : At K mg "raised" s_raised ["lengths", "many"] f12 _ := ⟨F12, PySem.W.mg_of X G a12, b12⟩
  have F13 := fun_mk (st := s_lowered) l13 c13 k13
  have b13 := F13.binds (ps := ["lengths", "many"]) fun _ _ _ _ _ _ us hl => match us, hl with | [_, _], _ => rfl
  have A13 : At K mg "lowered" s_lowered ["lengths", "many"] f13 _ := ⟨F13, PySem.W.mg_of X G a13, b13⟩
  have F14 := fun_mk (st := s_law_pool) l14 c14 k14
  have b14 := F14.binds (ps := ["script", "k"]) fun _ _ _ _ _ _ us hl => match us, hl with | [_, _], _ => rfl
  have A14 : At K mg "_law_pool" s_law_pool ["script", "k"] f14 _ := ⟨F14, PySem.W.mg_of X G a14, b14⟩
  have F15 := fun_mk (st := s_law_draw) l15 c15 k15
  have b15 := F15.binds (ps := ["pool", "count"]) fun _ _ _ _ _ _ us hl => match us, hl with | [_, _], _ => rfl
  have A15 : At K mg "_law_draw" s_law_draw ["pool", "count"] f15 _ := ⟨F15, PySem.W.mg_of X G a15, b15⟩
  have F16 := fun_mk (st := s_law_some) l16 c16 k16
  have b16 := F16.binds (ps := ["pool", "size"]) fun _ _ _ _ _ _ us hl => match us, hl with | [_, _], _ => rfl
  have A16 : At K mg "_law_some" s_law_some ["pool", "size"] f16 _ := ⟨F16, PySem.W.mg_of X G a16, b16⟩
  have F17 := fun_mk (st := s_law_fields) l17 c17 k17
  have b17 := F17.binds (ps := ["pool"]) fun _ _ _ _ _ _ us hl => match us, hl with | [_], _ => rfl
  have A17 : At K mg "_law_fields" s_law_fields ["pool"] f17 _ := ⟨F17, PySem.W.mg_of X G a17, b17⟩
  have F18 := fun_mk (st := s_law_has) l18 c18 k18
  have b18 := F18.binds (ps := ["fields", "number"]) fun _ _ _ _ _ _ us hl => match us, hl with | [_, _], _ => rfl
  have A18 : At K mg "_law_has" s_law_has ["fields", "number"] f18 _ := ⟨F18, PySem.W.mg_of X G a18, b18⟩
  have F19 := fun_mk (st := s_law_members) l19 c19 k19
  have b19 := F19.binds (ps := ["lengths"]) fun _ _ _ _ _ _ us hl => match us, hl with | [_], _ => rfl
  have A19 : At K mg "_law_members" s_law_members ["lengths"] f19 _ := ⟨F19, PySem.W.mg_of X G a19, b19⟩
  have F20 := fun_mk (st := s_law_made) l20 c20 k20
  have b20 := F20.binds (ps := ["fields"]) fun _ _ _ _ _ _ us hl => match us, hl with | [_], _ => rfl
  have A20 : At K mg "_law_made" s_law_made ["fields"] f20 _ := ⟨F20, PySem.W.mg_of X G a20, b20⟩
  have F21 := fun_mk (st := s_law_signs) l21 c21 k21
  have b21 := F21.binds (ps := ["one", "two"]) fun _ _ _ _ _ _ us hl => match us, hl with | [_, _], _ => rfl
  have A21 : At K mg "_law_signs" s_law_signs ["one", "two"] f21 _ := ⟨F21, PySem.W.mg_of X G a21, b21⟩
  have F22 := fun_mk (st := s_law_shifts) l22 c22 k22
  have b22 := F22.binds (ps := ["fields", "many"]) fun _ _ _ _ _ _ us hl => match us, hl with | [_, _], _ => rfl
  have A22 : At K mg "_law_shifts" s_law_shifts ["fields", "many"] f22 _ := ⟨F22, PySem.W.mg_of X G a22, b22⟩
  have F23 := fun_mk (st := s_law_answer) l23 c23 k23
  have b23 := F23.binds (ps := ["a", "many", "kind"]) fun _ _ _ _ _ _ us hl => match us, hl with | [_, _, _], _ => rfl
  have A23 : At K mg "_law_answer" s_law_answer ["a", "many", "kind"] f23 _ := ⟨F23, PySem.W.mg_of X G a23, b23⟩
  have F24 := fun_mk (st := s_law_refused) l24 c24 k24
  have b24 := F24.binds (ps := ["a", "pool"]) fun _ _ _ _ _ _ us hl => match us, hl with | [_, _], _ => rfl
  have A24 : At K mg "_law_refused" s_law_refused ["a", "pool"] f24 _ := ⟨F24, PySem.W.mg_of X G a24, b24⟩
  have F25 := fun_mk (st := s_law_joined) l25 c25 k25
  have b25 := F25.binds (ps := ["one", "other", "kind"]) fun _ _ _ _ _ _ us hl => match us, hl with | [_, _, _], _ => rfl
  have A25 : At K mg "_law_joined" s_law_joined ["one", "other", "kind"] f25 _ := ⟨F25, PySem.W.mg_of X G a25, b25⟩
  have F26 := fun_mk (st := s_law_periods_right) l26 c26 k26
  have b26 := F26.binds (ps := ["rest"]) fun _ _ _ _ _ _ us hl => match us, hl with | [_], _ => rfl
  have A26 : At K mg "_law_periods_right" s_law_periods_right ["rest"] f26 _ := ⟨F26, PySem.W.mg_of X G a26, b26⟩
  have F27 := fun_mk (st := s_law) l27 c27 k27
  have T : Txt K mg := ⟨PySem.W.mg_none_of X G z_len, PySem.W.mg_none_of X G z_list, PySem.W.mg_none_of X G z_tuple, PySem.W.mg_none_of X G z_int, PySem.W.mg_none_of X G z_abs, PySem.W.mg_none_of X G z_bool, PySem.W.mg_none_of X G z_range, PySem.W.mg_none_of X G z_isinstance, PySem.W.mg_none_of X G z_ValueError, ⟨_, PySem.W.mg_of X G gM⟩⟩
  have DF : FunD K "is_from" "is_from" (defArgs s_is_from) (defBody s_is_from) (defScope s_is_from) [.non] [] fF _ := ⟨⟨_, _, _, _, _, _, _, _, _, _, rfl, lF, cF, .inr ⟨by simp, tF, _, [.none], _, rfl, vF, rfl, .cons rfl .nil⟩, .inl rfl⟩, kF⟩
  have AF : AtD K mg "is_from" s_is_from ["value", "low", "high"] [.non] fF _ := ⟨DF, PySem.W.mg_of X G aF, by
      obtain ⟨ds, hv, hb⟩ := DF.binds1 (ps := ["value", "low", "high"]) 3 1 (by simp) (by rfl) (fun T kV doc pm an cdv ct us its hu hi => match us, hu, its, hi with | [_, _, _], _, [_], _ => ⟨_, rfl, rfl⟩)
      cases hv
      exact hb, DF.binds1 (ps := ["value", "low", "high"]) 2 0 (by simp) (by rfl) (fun T kV doc pm an cdv ct us its hu hi => match us, hu, its, hi with | [_, _], _, [_], _ => ⟨_, rfl, rfl⟩)⟩
  have S : SetC K mg CS := ⟨PySem.W.mg_of X G gC, ⟨pg, hd, po, sa⟩, n_period, n_cycle, n_start, n_marks⟩
  have I : SetI K CS := ⟨ca, cn, ct, mob⟩
  have DI : FunD K "__init__" "LengthSet.__init__" (defArgs s_LengthSet_init) (defBody s_LengthSet_init) (defScope s_LengthSet_init) [.ref t0, .int 0, .int 1, .ref t1] [] fI _ := ⟨⟨_, _, _, _, _, _, _, _, _, _, rfl, lI, cI, .inr ⟨by simp, tI, _, [.ref t0, .int 0 tk0, .int 1 tk1, .ref t1], _, rfl, vI, rfl, .cons rfl (.cons ⟨_, rfl⟩ (.cons ⟨_, rfl⟩ (.cons rfl .nil)))⟩, .inl rfl⟩, kI⟩
  have FE := fun_mk (st := s_LengthSet_early) lE cE kE
  have FR := fun_mk (st := s_LengthSet_rests) lR cR kR
  have FO := fun_mk (st := s_LengthSet_contains) lO cO kO
  have FQ := fun_mk (st := s_LengthSet_eq) lQ cQ kQ
  have FN := fun_mk (st := s_NoSet_init) lxN cxN kxN
  have FT := fun_mk (st := s_TooLarge_init) lxT cxT kxT
  have bE := FE.binds (ps := ["self"]) fun _ _ _ _ _ _ us hl => match us, hl with | [_], _ => rfl
  have bR := FR.binds (ps := ["self"]) fun _ _ _ _ _ _ us hl => match us, hl with | [_], _ => rfl
  have bO := FO.binds (ps := ["self", "x"]) fun _ _ _ _ _ _ us hl => match us, hl with | [_, _], _ => rfl
  have bQ := FQ.binds (ps := ["self", "other"]) fun _ _ _ _ _ _ us hl => match us, hl with | [_, _], _ => rfl
  have bN := FN.binds (ps := ["self", "place"]) fun _ _ _ _ _ _ us hl => match us, hl with | [_, _], _ => rfl
  have bT := FT.binds (ps := ["self", "limit"]) fun _ _ _ _ _ _ us hl => match us, hl with | [_, _], _ => rfl
  have ON : OexC K CN := ⟨⟨_, _, _, _, _, _, _, _, _, _, _, _, _, _, _, eN, rN⟩, sN, bbN, tN, pN⟩
  have OT : OexC K CT := ⟨⟨_, _, _, _, _, _, _, _, _, _, _, _, _, _, _, eT, rT⟩, sT, bbT, tT, pT⟩
  refine ⟨PySem.W.fnOf "law" "law" (defArgs s_law) (defBody s_law) (defScope s_law) .none kV27 dc27 pm27 an27 cd27 ct27, fun s v => .of_eq rfl, fun base _ _ => ?_⟩
  have ErN : ErrC l.prog w K mg base "NoSet" CN "place" := ⟨PySem.W.mg_of X G gN, ON, noN, ⟨gaN, ggN, bbN, hdN⟩, fxN, _, _, inN, tyN, ok_initE FN sc_NoSet_init rfl ON noN (Or.inl rfl) (Or.inl rfl) (fun _ => rfl) (by decide) (by decide), bN⟩
  have ErT : ErrC l.prog w K mg base "TooLarge" CT "limit" := ⟨PySem.W.mg_of X G gT, OT, noT, ⟨gaT, ggT, bbT, hdT⟩, fxT, _, _, inT, tyT, ok_initE FT sc_TooLarge_init rfl OT noT (Or.inl rfl) (Or.inl rfl) (fun _ => rfl) (by decide) (by decide), bT⟩
  have Er : Errs l.prog w K mg base CN CT CL := ⟨ErN, ErT, neNT, PySem.W.mg_of X G gL, PySem.W.exm_ref bbN hdN tN sNN, PySem.W.exm_ref bbN hdN tN sTN, PySem.W.exm_ref bbT hdT tT sTT, kit_own icL tyL sNL, kit_err sNV, kit_own icL tyL sTL, ⟨gaN, ggN, bbN, hdN, caN, cn, ct, moN⟩, ⟨gaT, ggT, bbT, hdT, caT, cn, ct, moT⟩⟩
  have C_is_integer := A1.cal (ok_is_integer (P := l.prog) (w := w) (base := base) T A1)
  have C_is_from : CalFrom l.prog w K mg base := AF.cal (ok_is_from (P := l.prog) (w := w) (base := base) T C_is_integer AF)
  have C_check_size := A4.calE (ok_check_size (P := l.prog) (w := w) (base := base) T ErN ErT C_is_from A4)
  have C_check_numbers := A5.calE (ok_check_numbers (P := l.prog) (w := w) (base := base) T ErN C_is_from A5)
  have C_marks_for := A6.cal (ok_marks_for (P := l.prog) (w := w) (base := base) T A6)
  have C_least_period := A7.cal (ok_least_period (P := l.prog) (w := w) (base := base) T A7)
  have C_least_start := A8.cal (ok_least_start (P := l.prog) (w := w) (base := base) T A8)
  have Fi := ok_init (P := l.prog) (w := w) (base := base) T S C_check_size C_check_numbers C_marks_for C_least_period C_least_start DI
  have E0_ : ∀ B, Dt K B (.ref t0) (.tuple []) := fun B => .tup (.inr ⟨_, _, _, v0, rfl, rfl, (by show 0 ≤ sizeLine; decide), .nil⟩) .nil
  have E1_ : ∀ B, Dt K B (.ref t1) (.tuple []) := fun B => .tup (.inr ⟨_, _, _, v1, rfl, rfl, (by show 0 ≤ sizeLine; decide), .nil⟩) .nil
  have M : MkS l.prog w K mg base CN CT CS t0 t1 := by
    refine ⟨⟨fI, _, ⟨mk, aI, iI, kC⟩, Fi, ?_, ?_, ?_, ?_⟩, E0_, E1_⟩
    · obtain ⟨ds, hv, hb⟩ := DI.binds1 (ps := ["self", "early", "start", "period", "rests"]) 5 4 (by simp) (by rfl) (fun T kV doc pm an cdv ct us its hu hi => match us, hu, its, hi with | [_, _, _, _, _], _, [_, _, _, _], _ => ⟨_, rfl, rfl⟩)
      cases hv
      exact hb
    · exact DI.binds1 (ps := ["self", "early", "start", "period", "rests"]) 1 0 (by simp) (by rfl) (fun T kV doc pm an cdv ct us its hu hi => match us, hu, its, hi with | [_], _, [_, _, _, _], _ => ⟨_, rfl, rfl⟩)
    · exact DI.binds1 (ps := ["self", "early", "start", "period", "rests"]) 3 2 (by simp) (by rfl) (fun T kV doc pm an cdv ct us its hu hi => match us, hu, its, hi with | [_, _, _], _, [_, _, _, _], _ => ⟨_, rfl, rfl⟩)
    · obtain ⟨its, hk⟩ := DI.kbindsD (ps := ["self", "early", "start", "period", "rests"]) 2 ["start", "period", "rests"] (fun us _ ws => us ++ ws) (by simp) (fun r1 _ r3 => r1.append r3) (fun T kV doc pm an cdv ct us its ws hu hi hw => match us, hu, its, hi, ws, hw with | [_, _], _, [_, _, _, _], _, [_, _, _], _ => ⟨_, rfl, rfl⟩)
      exact ⟨_, hk⟩
  have Os : OpsS l.prog w K mg base CS := ⟨⟨fO, _, qO1, qO2, ok_has (P := l.prog) (w := w) (base := base) T S C_is_from FO, bO⟩, ⟨fQ, _, qQ1, qQ2, ok_eq (P := l.prog) (w := w) (base := base) T S I FQ, bQ⟩, nen, mob⟩
  have Pe : PropP l.prog w K mg base CS "early" (SpIdx K CS (·.marks)) := ⟨⟨pE, fE, _, ⟨qE1, qE2, qE3, ⟨_, qE4⟩⟩, ok_early (P := l.prog) (w := w) (base := base) T S FE, bE⟩, S.cls⟩
  have Pr : PropP l.prog w K mg base CS "rests" (SpIdx K CS (·.cycle)) := ⟨⟨pR, fR, _, ⟨qR1, qR2, qR3, ⟨_, qR4⟩⟩, ok_rests (P := l.prog) (w := w) (base := base) T S FR, bR⟩, S.cls⟩
  have Tz : mg "zip" = none := PySem.W.mg_none_of X G z_zip
  have Tall : mg "all" = none := PySem.W.mg_none_of X G z_all
  have Tany : mg "any" = none := PySem.W.mg_none_of X G z_any
  have C_is_integerS := A1.cal (ok_is_integerS (P := l.prog) (w := w) (base := base) T S I sCI A1)
  have C_common_multiple := A3.cal (ok_common_multiple (P := l.prog) (w := w) (base := base) T A3 A2)
  have C_marks_of := A9.cal (ok_marks_of (P := l.prog) (w := w) (base := base) T S A9)
  have C_set_of := A10.cal (ok_set_of (P := l.prog) (w := w) (base := base) T S M A10)
  have C_paired := A11.calE (ok_paired (P := l.prog) (w := w) (base := base) T Tz S ErT C_common_multiple C_marks_of A11)
  have C_raised := A12.calE (ok_raised (P := l.prog) (w := w) (base := base) T S ErN M Pe A12)
  have C_lowered := A13.calE (ok_lowered (P := l.prog) (w := w) (base := base) T S ErN M Os A13)
  have FM1 := fun_mk (st := s_LengthSet_or) lM1 cM1 kM1
  have bM1 := FM1.binds (ps := ["self", "other"]) fun _ _ _ _ _ _ us hl => match us, hl with | [_, _], _ => rfl
  have FM2 := fun_mk (st := s_LengthSet_and) lM2 cM2 kM2
  have bM2 := FM2.binds (ps := ["self", "other"]) fun _ _ _ _ _ _ us hl => match us, hl with | [_, _], _ => rfl
  have FM3 := fun_mk (st := s_LengthSet_sub) lM3 cM3 kM3
  have bM3 := FM3.binds (ps := ["self", "other"]) fun _ _ _ _ _ _ us hl => match us, hl with | [_, _], _ => rfl
  have FM4 := fun_mk (st := s_LengthSet_add) lM4 cM4 kM4
  have bM4 := FM4.binds (ps := ["self", "other"]) fun _ _ _ _ _ _ us hl => match us, hl with | [_, _], _ => rfl
  have FM5 := fun_mk (st := s_LengthSet_radd) lM5 cM5 kM5
  have bM5 := FM5.binds (ps := ["self", "other"]) fun _ _ _ _ _ _ us hl => match us, hl with | [_, _], _ => rfl
  have FM6 := fun_mk (st := s_LengthSet_invert) lM6 cM6 kM6
  have bM6 := FM6.binds (ps := ["self"]) fun _ _ _ _ _ _ us hl => match us, hl with | [_], _ => rfl
  have FM7 := fun_mk (st := s_LengthSet_bool) lM7 cM7 kM7
  have bM7 := FM7.binds (ps := ["self"]) fun _ _ _ _ _ _ us hl => match us, hl with | [_], _ => rfl
  have FM8 := fun_mk (st := s_LengthSet_le) lM8 cM8 kM8
  have bM8 := FM8.binds (ps := ["self", "other"]) fun _ _ _ _ _ _ us hl => match us, hl with | [_, _], _ => rfl
  have Oa : OpsA l.prog w K mg base CN CT CS := ⟨⟨cdC, hcdC, hmrC⟩, sfC, sIC, sCI, ⟨fM1, _, by rw [du_or]; exact qM11, qM12, ok_or (P := l.prog) (w := w) (base := base) T S I C_paired C_set_of FM1, bM1⟩, ⟨fM2, _, by rw [du_and]; exact qM21, qM22, ok_and (P := l.prog) (w := w) (base := base) T S I C_paired C_set_of FM2, bM2⟩,
    ⟨fM3, _, by rw [du_sub]; exact qM31, qM32, ok_sub (P := l.prog) (w := w) (base := base) T S I C_lowered C_is_integerS C_paired C_set_of FM3, bM3⟩, ⟨fM3, _, by rw [du_sub]; exact qM31, qM32, ok_subI (P := l.prog) (w := w) (base := base) T S C_paired C_set_of C_lowered C_is_integer FM3, bM3⟩,
    ⟨fM4, _, by rw [du_add]; exact qM41, qM42, ok_add (P := l.prog) (w := w) (base := base) T S C_raised C_is_integer FM4, bM4⟩, ⟨fM5, _, by rw [dr_add]; exact qM51, qM52, ok_radd (P := l.prog) (w := w) (base := base) T S C_raised C_is_integer FM5, bM5⟩, ⟨fM6, _, qM61, qM62, ok_invert (P := l.prog) (w := w) (base := base) T S C_set_of FM6, bM6⟩,
    ⟨fM7, _, qM71, qM72, ok_bool (P := l.prog) (w := w) (base := base) T Tany S FM7, bM7⟩, ⟨fM8, _, qM81, qM82, ok_le (P := l.prog) (w := w) (base := base) T Tall S I C_paired FM8, bM8⟩, by rw [dr_sub]; exact rsb, by rw [di_add]; exact iad, by rw [di_sub]; exact isb⟩
  have C_law_pool := A14.cal (ok_law_pool (P := l.prog) (w := w) (base := base) T A14)
  have C_law_draw := A15.cal (ok_law_draw (P := l.prog) (w := w) (base := base) T A15)
  have C_law_fields := A17.cal (ok_law_fields (P := l.prog) (w := w) (base := base) T A17 A15 A16)
  have C_law_has := A18.cal (ok_law_has (P := l.prog) (w := w) (base := base) T A18)
  have C_law_made := A20.cal (ok_law_made (P := l.prog) (w := w) (base := base) T S M A20)
  have C_law_members := A19.cal (ok_law_members (P := l.prog) (w := w) (base := base) T S Os A19)
  have C_law_signs := A21.cal (ok_law_signs (P := l.prog) (w := w) (base := base) T S Os Oa C_law_made C_law_has C_law_members A21)
  have C_law_shifts := A22.cal (ok_law_shifts (P := l.prog) (w := w) (base := base) T S Os Oa C_law_made C_law_has C_law_members A22)
  have C_law_answer := A23.cal (ok_law_answer (P := l.prog) (w := w) (base := base) T Er Oa A23)
  have C_law_joined := A25.cal (ok_law_joined (P := l.prog) (w := w) (base := base) T Er Oa A25)
  have C_law_periods_right := A26.cal (ok_law_periods_right (P := l.prog) (w := w) (base := base) T S M C_law_joined A26)
  have C_law_refused := A24.cal (ok_law_refused (P := l.prog) (w := w) (base := base) T S C_law_draw C_law_answer neNT A24)
  exact ok_law T C_law_pool C_law_draw C_law_fields C_law_periods_right C_law_signs C_law_shifts C_law_made C_law_refused F27
theorem walk {l : PySem.W.OpenLaw} {q : Program} {loose : List Str} {XP : (Str → Option Value) → Heap → Prop} {YP : World → Heap → Prop} {d : DefRec} {K : Params → PySem.W.Frag} (hn : l.most = some 63) (hdf : d.params.defaults = [])
    (hY : ∀ (w : World) (h : Heap), YP w h → (K w.params).In h)
    (F : ∀ (w : World) (mg : Str → Option Value) (fa : Addr) (h : Heap), (K w.params).In h → h.Ns mainGlobals mg → mg d.name = some (.ref fa) →
      ∃ fd : FuncData, (∀ (s : Shared) (u : Value), BindsTo s fd ⟨[u], []⟩ [("script", u)]) ∧ ∀ base : Heap, (K w.params).In base → base.Ns mainGlobals mg → FnOk l.prog w (K w.params) mg base CX0 17 fa fd ["script"] (spLaw (K w.params))) :
    PySem.W.WalkO q loose XP YP l.row.toRowW d [] (fun f vs => PySem.call f vs) :=
  L2.walk_of (n := 63) (k := 17) (x := "script") (CX := fun _ => CX0) (sp := fun w => spLaw (K w.params)) hn (by decide) hdf ⟨rfl, by decide, by decide⟩ hY F (fun _ _ a ns hl _ hS => ⟨a, ns, rfl, hS, hl, fun _ => rfl⟩) fun _ _ _ _ _ z => z
end Toy

set_option Elab.async false
set_option linter.all false
open PySem PySem.W PyProof.Rows
set_option maxRecDepth 100000 in
set_option maxHeartbeats 0 in
theorem PySem.Challenge.cw_withinlimits_k51_operators_of_sets_holds : PySem.Challenge.rw_withinlimits_k51_operators_of_sets.Holds := by
  w_on; o_law; k_head; (case hw => w_witness2)
  k_fill
  refine Toy.walk (l := PySem.Challenge.rw_withinlimits_k51_operators_of_sets) rfl rfl (fun w h Y => PySem.W.kIn_of Y) ?F
  case F =>
    intro w mg fa h KX G hmg
    refine' Toy.all_mk KX G hmg ?a1 ?l1 ?c1 ?k1 ?a2 ?l2 ?c2 ?k2 ?a3 ?l3 ?c3 ?k3 ?a4 ?l4 ?c4 ?k4 ?a5 ?l5 ?c5 ?k5 ?a6 ?l6 ?c6 ?k6 ?a7 ?l7 ?c7 ?k7 ?a8 ?l8 ?c8 ?k8 ?a9 ?l9 ?c9 ?k9 ?a10 ?l10 ?c10 ?k10 ?a11 ?l11 ?c11 ?k11 ?a12 ?l12 ?c12 ?k12 ?a13 ?l13 ?c13 ?k13 ?a14 ?l14 ?c14 ?k14 ?a15 ?l15 ?c15 ?k15 ?a16 ?l16 ?c16 ?k16 ?a17 ?l17 ?c17 ?k17 ?a18 ?l18 ?c18 ?k18 ?a19 ?l19 ?c19 ?k19 ?a20 ?l20 ?c20 ?k20 ?a21 ?l21 ?c21 ?k21 ?a22 ?l22 ?c22 ?k22 ?a23 ?l23 ?c23 ?k23 ?a24 ?l24 ?c24 ?k24 ?a25 ?l25 ?c25 ?k25 ?a26 ?l26 ?c26 ?k26 ?a27 ?l27 ?c27 ?k27 ?z_len ?z_list ?z_tuple ?z_int ?z_abs ?z_bool ?z_range ?z_isinstance ?z_ValueError ?z_all ?z_any ?z_zip ?gM ?aF ?lF ?cF ?kF ?vF ?gC ?pg ?hd ?po ?sa ?n_period ?n_cycle ?n_start ?n_marks ?mk ?aI ?iI ?kC ?lI ?cI ?kI ?vI ?v0 ?v1 ?qE1 ?qE2 ?qE3 ?qE4 ?lE ?cE ?kE ?qR1 ?qR2 ?qR3 ?qR4 ?lR ?cR ?kR ?qO1 ?qO2 ?lO ?cO ?kO ?qQ1 ?qQ2 ?lQ ?cQ ?kQ ?qM11 ?qM12 ?lM1 ?cM1 ?kM1 ?qM21 ?qM22 ?lM2 ?cM2 ?kM2 ?qM31 ?qM32 ?lM3 ?cM3 ?kM3 ?qM41 ?qM42 ?lM4 ?cM4 ?kM4 ?qM51 ?qM52 ?lM5 ?cM5 ?kM5 ?qM61 ?qM62 ?lM6 ?cM6 ?kM6 ?qM71 ?qM72 ?lM7 ?cM7 ?kM7 ?qM81 ?qM82 ?lM8 ?cM8 ?kM8 ?rsb ?iad ?isb ?sfC ?sIC ?sCI ?hcdC ?hmrC ?nen ?mob ?ca ?cn ?ct ?gL ?gN ?eN ?rN ?sN ?bbN ?tN ?pN ?noN ?gaN ?ggN ?hdN ?inN ?tyN ?lxN ?cxN ?kxN ?caN ?moN ?gT ?eT ?rT ?sT ?bbT ?tT ?pT ?noT ?gaT ?ggT ?hdT ?inT ?tyT ?lxT ?cxT ?kxT ?caT ?moT ?neNT ?sNN ?sTN ?sTT ?sNL ?sNV ?sTL ?icL ?tyL
    (case a1 => k_is)
    (case l1 => k_is)
    (case c1 => k_is)
    (case k1 => k_is)
    (case a2 => k_is)
    (case l2 => k_is)
    (case c2 => k_is)
    (case k2 => k_is)
    (case a3 => k_is)
    (case l3 => k_is)
    (case c3 => k_is)
    (case k3 => k_is)
    (case a4 => k_is)
    (case l4 => k_is)
    (case c4 => k_is)
    (case k4 => k_is)
    (case a5 => k_is)
    (case l5 => k_is)
    (case c5 => k_is)
    (case k5 => k_is)
    (case a6 => k_is)
    (case l6 => k_is)
    (case c6 => k_is)
    (case k6 => k_is)
    (case a7 => k_is)
    (case l7 => k_is)
    (case c7 => k_is)
    (case k7 => k_is)
    (case a8 => k_is)
    (case l8 => k_is)
    (case c8 => k_is)
    (case k8 => k_is)
    (case a9 => k_is)
    (case l9 => k_is)
    (case c9 => k_is)
    (case k9 => k_is)
    (case a10 => k_is)
    (case l10 => k_is)
    (case c10 => k_is)
    (case k10 => k_is)
    (case a11 => k_is)
    (case l11 => k_is)
    (case c11 => k_is)
    (case k11 => k_is)
    (case a12 => k_is)
    (case l12 => k_is)
    (case c12 => k_is)
    (case k12 => k_is)
    (case a13 => k_is)
    (case l13 => k_is)
    (case c13 => k_is)
    (case k13 => k_is)
    (case a14 => k_is)
    (case l14 => k_is)
    (case c14 => k_is)
    (case k14 => k_is)
    (case a15 => k_is)
    (case l15 => k_is)
    (case c15 => k_is)
    (case k15 => k_is)
    (case a16 => k_is)
    (case l16 => k_is)
    (case c16 => k_is)
    (case k16 => k_is)
    (case a17 => k_is)
    (case l17 => k_is)
    (case c17 => k_is)
    (case k17 => k_is)
    (case a18 => k_is)
    (case l18 => k_is)
    (case c18 => k_is)
    (case k18 => k_is)
    (case a19 => k_is)
    (case l19 => k_is)
    (case c19 => k_is)
    (case k19 => k_is)
    (case a20 => k_is)
    (case l20 => k_is)
    (case c20 => k_is)
    (case k20 => k_is)
    (case a21 => k_is)
    (case l21 => k_is)
    (case c21 => k_is)
    (case k21 => k_is)
    (case a22 => k_is)
    (case l22 => k_is)
    (case c22 => k_is)
    (case k22 => k_is)
    (case a23 => k_is)
    (case l23 => k_is)
    (case c23 => k_is)
    (case k23 => k_is)
    (case a24 => k_is)
    (case l24 => k_is)
    (case c24 => k_is)
    (case k24 => k_is)
    (case a25 => k_is)
    (case l25 => k_is)
    (case c25 => k_is)
    (case k25 => k_is)
    (case a26 => k_is)
    (case l26 => k_is)
    (case c26 => k_is)
    (case k26 => k_is)
    (case a27 => k_is)
    (case l27 => k_is)
    (case c27 => k_is)
    (case k27 => k_is)
    (case z_len => k_is)
    (case z_list => k_is)
    (case z_tuple => k_is)
    (case z_int => k_is)
    (case z_abs => k_is)
    (case z_bool => k_is)
    (case z_range => k_is)
    (case z_isinstance => k_is)
    (case z_ValueError => k_is)
    (case z_all => k_is)
    (case z_any => k_is)
    (case z_zip => k_is)
    (case gM => k_is)
    (case aF => k_is)
    (case lF => k_is)
    (case cF => k_is)
    (case kF => k_is)
    (case vF => k_is)
    (case gC => k_is)
    (case pg => k_is)
    (case hd => k_is)
    (case po => k_is)
    (case sa => k_is)
    (case n_period => k_is)
    (case n_cycle => k_is)
    (case n_start => k_is)
    (case n_marks => k_is)
    (case mk => k_is)
    (case aI => k_is)
    (case iI => k_is)
    (case kC => k_is)
    (case lI => k_is)
    (case cI => k_is)
    (case kI => k_is)
    (case vI => k_is)
    (case v0 => k_is)
    (case v1 => k_is)
    (case qE1 => k_is)
    (case qE2 => k_is)
    (case qE3 => k_is)
    (case qE4 => k_is)
    (case lE => k_is)
    (case cE => k_is)
    (case kE => k_is)
    (case qR1 => k_is)
    (case qR2 => k_is)
    (case qR3 => k_is)
    (case qR4 => k_is)
    (case lR => k_is)
    (case cR => k_is)
    (case kR => k_is)
    (case qO1 => k_is)
    (case qO2 => k_is)
    (case lO => k_is)
    (case cO => k_is)
    (case kO => k_is)
    (case qQ1 => k_is)
    (case qQ2 => k_is)
    (case lQ => k_is)
    (case cQ => k_is)
    (case kQ => k_is)
    (case qM11 => k_is)
    (case qM12 => k_is)
    (case lM1 => k_is)
    (case cM1 => k_is)
    (case kM1 => k_is)
    (case qM21 => k_is)
    (case qM22 => k_is)
    (case lM2 => k_is)
    (case cM2 => k_is)
    (case kM2 => k_is)
    (case qM31 => k_is)
    (case qM32 => k_is)
    (case lM3 => k_is)
    (case cM3 => k_is)
    (case kM3 => k_is)
    (case qM41 => k_is)
    (case qM42 => k_is)
    (case lM4 => k_is)
    (case cM4 => k_is)
    (case kM4 => k_is)
    (case qM51 => k_is)
    (case qM52 => k_is)
    (case lM5 => k_is)
    (case cM5 => k_is)
    (case kM5 => k_is)
    (case qM61 => k_is)
    (case qM62 => k_is)
    (case lM6 => k_is)
    (case cM6 => k_is)
    (case kM6 => k_is)
    (case qM71 => k_is)
    (case qM72 => k_is)
    (case lM7 => k_is)
    (case cM7 => k_is)
    (case kM7 => k_is)
    (case qM81 => k_is)
    (case qM82 => k_is)
    (case lM8 => k_is)
    (case cM8 => k_is)
    (case kM8 => k_is)
    (case rsb => k_is)
    (case iad => k_is)
    (case isb => k_is)
    (case sfC => k_is)
    (case sIC => k_is)
    (case sCI => k_is)
    (case hcdC => k_is)
    (case hmrC => rfl)
    (case nen => k_is)
    (case mob => k_is)
    (case ca => k_is)
    (case cn => k_is)
    (case ct => k_is)
    (case gL => k_is)
    (case gN => k_is)
    (case eN => k_is)
    (case rN => decide +kernel)
    (case sN => k_is)
    (case bbN => k_is)
    (case tN => k_is)
    (case pN => k_is)
    (case noN => k_is)
    (case gaN => k_is)
    (case ggN => k_is)
    (case hdN => k_is)
    (case inN => k_is)
    (case tyN => k_is)
    (case lxN => k_is)
    (case cxN => k_is)
    (case kxN => k_is)
    (case caN => k_is)
    (case moN => k_is)
    (case gT => k_is)
    (case eT => k_is)
    (case rT => decide +kernel)
    (case sT => k_is)
    (case bbT => k_is)
    (case tT => k_is)
    (case pT => k_is)
    (case noT => k_is)
    (case gaT => k_is)
    (case ggT => k_is)
    (case hdT => k_is)
    (case inT => k_is)
    (case tyT => k_is)
    (case lxT => k_is)
    (case cxT => k_is)
    (case kxT => k_is)
    (case caT => k_is)
    (case moT => k_is)
    (case neNT => decide)
    (case sNN => k_is)
    (case sTN => k_is)
    (case sTT => k_is)
    (case sNL => k_is)
    (case sNV => k_is)
    (case sTL => k_is)
    (case icL => k_is)
    (case tyL => k_is)

