/- readWait of package stroke. -/
import Derived.Test.YtecfbncfhehdcaaDoorQN
import Derived.Lib.AtoiAllCases
namespace Sk
open Go
/-- The number with a text, if there is one that is not 0. -/
def wtV (l : List UInt8) : Int × Bool := if Tm.numOk l && decide (Fr.dv l ≠ 0) then (((Fr.dv l : Nat) : Int), true) else (0, false)
theorem numOk_render7 {n : Nat} (h : (Fr.render n).length ≤ 7) : Tm.numOk (Fr.render n) = true := by
  unfold Tm.numOk
  have h1 := Fr.render_all n
  have h2 := Fr.render_pos n
  have h4 : (Fr.render n).isEmpty = false := by cases hr : Fr.render n with | nil => rw [hr] at h2; simp at h2 | cons c l => rfl
  rw [h1, h4]
  simp only [Bool.not_false, Bool.true_and, Bool.and_true, Bool.and_eq_true, decide_eq_true_eq]
  refine ⟨h, ?_⟩
  by_cases h0 : n = 0
  · subst h0; rw [Fr.render_zero]; rfl
  · have := Fr.render_head h0
    simp [this]
theorem atoi_num {l : List UInt8} (h : Tm.numOk l = true) : Lib.atoiAll l = .ok ((Fr.dv l : Nat) : Int) := by
  obtain ⟨h1, h2, -, -⟩ := Tm.numOk_all h
  have hlt := Tm.numOk_lt h
  have hm := Fr.atoi_digs h1 h2
  rw [if_pos (by omega)] at hm
  cases l with
  | nil => exact absurd rfl h2
  | cons c r =>
    have hc : Fr.isDig c = true := by simp at h1; exact h1.1
    unfold Fr.isDig at hc
    rw [Bool.and_eq_true, decide_eq_true_iff, decide_eq_true_iff] at hc
    rw [Lib.atoiAll_plain c r (by omega) (by omega), hm]
    unfold Lib.signless
    simp only
    rw [if_neg (by omega)]
/-- Where Atoi gives a number: it is the one, or it is none. -/
theorem wt_ok {l : List UInt8} {v : Int} (h : Lib.atoiAll l = .ok v) : wtV l = if 0 < v ∧ l.length ≤ 7 ∧ Fr.render v.toNat = l then (v, true) else (0, false) := by
  unfold wtV
  by_cases hn : Tm.numOk l = true
  · have hv : v = ((Fr.dv l : Nat) : Int) := by
      have := atoi_num hn
      rw [h] at this
      cases this; rfl
    subst hv
    obtain ⟨-, -, h3, -⟩ := Tm.numOk_all hn
    have hb := Tm.numOk_back hn
    rw [hn, Bool.true_and, Int.toNat_natCast]
    by_cases h0 : Fr.dv l = 0
    · rw [if_neg (by simp [h0]), if_neg (by omega)]
    · rw [if_pos (by simpa using h0), if_pos ⟨by omega, h3, hb⟩]
  · rw [if_neg (by simp [hn]), if_neg]
    rintro ⟨h1, h2, h3⟩
    rw [← h3] at h2 hn
    exact hn (numOk_render7 h2)
theorem wt_no {l : List UInt8} (h : ∀ v, Lib.atoiAll l ≠ .ok v) : wtV l = (0, false) := by
  unfold wtV
  by_cases hn : Tm.numOk l = true
  · exact absurd (atoi_num hn) (h _)
  · rw [if_neg (by simp [hn])]
end Sk
namespace Go.Proofs.YtecfbncfhehdcaaDoor
open Go.RowKit
/-- What the package variables of the library hold when a call begins. -/
structure StQ (w : World) : Prop where
  st : St w
  range : ∃ tp p, w.var? Tryd.prog "strconv.ErrRange" = some #[.iface tp p]
  form : ∃ tp p, w.var? Tryd.prog "strconv.ErrSyntax" = some #[.iface tp p]
theorem Tryd.range_global : Tryd.prog.globalNamed "strconv.ErrRange" = some 2 := by kernel_rfl
theorem Tryd.form_global : Tryd.prog.globalNamed "strconv.ErrSyntax" = some 1 := by kernel_rfl
theorem StQ.below {w w' : World} (h : StQ w) {B : Nat} (hb : Below B w w') (hB : 4 ≤ B) : StQ w' := by
  obtain ⟨h0, ⟨t1, p1, h1⟩, ⟨t2, p2, h2⟩⟩ := h
  exact ⟨h0.below hb hB, ⟨t1, p1, var?_below hb Tryd.range_global (by omega) h1⟩, ⟨t2, p2, var?_below hb Tryd.form_global (by omega) h2⟩⟩
theorem StQ.step {w w' : World} (h : StQ w) (hb : Below w.heap.size w w') : StQ w' := h.below hb h.st.size
theorem below_bytes (w : World) (e : TypeId) (s : ByteArray) : Below w.heap.size w (Lib.bytesWorld w e s) :=
  ⟨rfl, rfl, rfl, by rw [Lib.bytesWorld_size]; omega, fun k hk => Lib.bytesWorld_at_old w e s k hk⟩
/-- strconv.Atoi. -/
theorem atoi_good (s : ByteArray) (v : Int) (w : World) (hz : s.size ≤ 1000000) (h : Lib.atoiAll s.data.toList = .ok v) :
    Calls Tryd.prog 104 #[.string s] w fun e w' => e = .returned (.tuple #[.int .i64 v, .nilIface]) ∧ Below w.heap.size w w' :=
  (Tryd.strconv_Atoi_ok s (by omega) v h w).mono (by
    rintro e w2 ⟨rfl, hw2⟩
    refine ⟨rfl, ?_⟩
    rcases hw2 with rfl | ⟨t, rfl⟩
    · exact Below.refl _ _
    · exact below_bytes _ _ _)
theorem atoi_bad (s : ByteArray) (w : World) (hst : StQ w) (hz : s.size ≤ 1000000) (h : ∀ v, Lib.atoiAll s.data.toList ≠ .ok v) :
    Calls Tryd.prog 104 #[.string s] w fun e w' => ∃ n N, e = .returned (.tuple #[.int .i64 n, .iface 167 (.pointer (some ⟨N, 0, none⟩))]) ∧ Below w.heap.size w w' := by
  obtain ⟨-, ⟨t1, p1, g1⟩, ⟨t2, p2, g2⟩⟩ := hst
  rcases h1 : Lib.atoiAll s.data.toList with v | _ | _
  · exact absurd h1 (h v)
  · have h9 : Calls Tryd.prog 104 #[.string s] w fun e w' => ∃ N, e = .returned (.tuple #[.int .i64 0, .iface 167 (.pointer (some ⟨N, 0, none⟩))]) ∧ w.heap.size ≤ N ∧ w'.heap[N]? = some (.cells #[.string ⟨#[65, 116, 111, 105]⟩, .string s, .iface t2 p2] 186 (0, 0)) ∧ Below w.heap.size w w' :=
      Any.strconv_Atoi_syntax_var Tryd.laysC172 s (by omega) h1 t2 p2 w g2
    exact h9.mono fun e w' ⟨N, r1, _, _, r4⟩ => ⟨_, N, r1, r4⟩
  · exact (Tryd.strconv_Atoi_range_var s (by omega) h1 t1 p1 w g1).mono fun e w' ⟨N, r1, _, _, r4⟩ => ⟨_, N, r1, r4⟩
end Go.Proofs.YtecfbncfhehdcaaDoor

