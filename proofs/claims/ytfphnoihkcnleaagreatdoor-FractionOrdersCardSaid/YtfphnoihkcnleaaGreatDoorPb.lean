/- The contracts of the functions of package fraction on quotients: sign, opposite, integer, split. -/
import Derived.Test.YtfphnoihkcnleaaGreatDoorPa
import Derived.Test.YtfphnoihkcnleaaGreatDoorNg
import Derived.Test.YtfphnoihkcnleaaGreatDoorNi
namespace Go.Proofs.YtfphnoihkcnleaaGreatDoor
open Go.RowKit

theorem IsNat.form {k : IntKind} {B : Nat} {w : World} {v : Value} {n m : Nat} (h : IsNat k B w v n m) : ∃ ao l c, v = .slice ao l c := by
  obtain ⟨l, h1, _⟩ := h
  obtain ⟨ao, cap, h2, _⟩ := h1.form
  exact ⟨ao, _, cap, h2⟩

/-- A struct value is a quotient with a sign. -/
def RatIs (w : World) (x : Value) (b : Bool) (m n p : Nat) : Prop := ∃ u v, x = .agg #[.bool b, u, v] ∧ IsNat .u32 1000000000 w u m p ∧ IsNat .u32 1000000000 w v n p
theorem RatIs.below {w w' : World} {x : Value} {b : Bool} {m n p : Nat} (h : RatIs w x b m n p) {C : Nat} (hb : Below C w w') (hC : w.heap.size ≤ C) : RatIs w' x b m n p := by
  obtain ⟨u, v, h1, h2, h3⟩ := h
  exact ⟨u, v, h1, h2.below hb hC, h3.below hb hC⟩

/-- A struct value is a rational number. -/
def RatQ (w : World) (x : Value) (q : Rat) (p : Nat) : Prop := ∃ b m n, RatIs w x b m n p ∧ 0 < n ∧ Fr.num b m n = q
theorem RatQ.below {w w' : World} {x : Value} {q : Rat} {p : Nat} (h : RatQ w x q p) {C : Nat} (hb : Below C w w') (hC : w.heap.size ≤ C) : RatQ w' x q p := by
  obtain ⟨b, m, n, h1, h2⟩ := h
  exact ⟨b, m, n, h1.below hb hC, h2⟩
/-- What a call leaves that returns a rational number. -/
def Newer (B : Nat) (x : Value) : Prop := ∀ b u v, x = .agg #[.bool b, u, v] → ∀ g, g < B → u.ownBlock ≠ some g ∧ v.ownBlock ≠ some g
theorem Newer.mk {B g h : Nat} {b : Bool} {u v : Value} (hu : u.ownBlock = some g) (hv : v.ownBlock = some h) (hg : B ≤ g) (hh : B ≤ h) : Newer B (.agg #[.bool b, u, v]) := by
  intro b' u' v' he t ht
  cases he
  rw [hu, hv]
  exact ⟨fun e => by have := Option.some.inj e; omega, fun e => by have := Option.some.inj e; omega⟩
def QPost (w : World) (q : Rat) (p : Nat) (e : Ending) (w' : World) : Prop := ∃ x, e = .returned x ∧ Below w.heap.size w w' ∧ RatQ w' x q p ∧ Newer w.heap.size x

/-- What a call leaves that returns a quotient. -/
def RatPost (w : World) (b : Bool) (m n p : Nat) (e : Ending) (w' : World) : Prop := ∃ x, e = .returned x ∧ Below w.heap.size w w' ∧ RatIs w' x b m n p

theorem not_run (b : Bool) : ∀ w : World, (Op.unary .not (.bool b)).run Tryz.prog w = .ok (.bool (!b)) w := fun _ => rfl

set_option maxRecDepth 100000 in
theorem sign_any (x : Value) (b : Bool) (m n p : Nat) (w : World) (h : RatIs w x b m n p) :
    Calls Tryz.prog 52 #[x] w fun e w' => e = .returned (.int .i64 (if m = 0 then 0 else if b then -1 else 1)) ∧ Below w.heap.size w w' := by
  obtain ⟨u, v, rfl, ⟨l, sl, nl, el, ll⟩, _⟩ := h
  obtain ⟨ao, ca, rfl, a1, a2, _⟩ := sl.opened
  clear sl
  by_cases h0 : l.length = 0
  · have hm : m = 0 := by rw [← el]; exact (Limb.norm_zero (by omega) nl).2 h0
    have hb0 : ((l.length : Int) == 0) = true := by simp [h0]
    rw [if_pos hm]
    clear h0 el nl hm
    go_enter Tryz.func52, Tryz.ntmps52
    go_wp2
    go_ret
    exact ⟨rfl, (Below.refl _ _).alloc (Nat.le_refl _) _⟩
  · have hm : ¬ m = 0 := by
      intro hm
      exact h0 ((Limb.norm_zero (B := 1000000000) (by omega) nl).1 (by rw [el]; exact hm))
    have hb0 : ((l.length : Int) == 0) = false := beq_eq_false_iff_ne.2 (by omega)
    rw [if_neg hm]
    clear h0 el nl hm
    cases b
    all_goals
      go_enter Tryz.func52, Tryz.ntmps52
      go_wp2
      go_ret
      exact ⟨rfl, (Below.refl _ _).alloc (Nat.le_refl _) _⟩

set_option maxRecDepth 100000 in
theorem opposite_any (x : Value) (b : Bool) (m n p : Nat) (w : World) (h : RatIs w x b m n p) :
    Calls Tryz.prog 75 #[x] w (RatPost w (!b) m n p) := by
  obtain ⟨u, v, rfl, hu, hv⟩ := h
  have hnot := not_run b
  obtain ⟨ua, ul, uc, rfl⟩ := hu.form
  obtain ⟨va, vl, vc, rfl⟩ := hv.form
  have HU := Lib.hid hu
  have HV := Lib.hid hv
  clear hu hv
  go_enter Tryz.func75, Tryz.ntmps75
  go_wp2
  have hbel : ∀ o1 o2, Below w.heap.size w ((w.alloc o1).alloc o2) := fun o1 o2 => ((Below.refl _ _).alloc (Nat.le_refl _) _).alloc (by simp) _
  refine bodyPost_ret (v := .agg #[.bool (!b), .slice ua ul uc, .slice va vl vc]) (by simp [results, Tryz.results75, go_sem]) rfl ⟨_, rfl, hbel _ _, _, _, rfl, HU.out.below (hbel _ _) (Nat.le_refl _), HV.out.below (hbel _ _) (Nat.le_refl _)⟩

end Go.Proofs.YtfphnoihkcnleaaGreatDoor
