/- The contracts of the functions of package fraction that read fractions: split, parse. -/
import Derived.Test.YtfphnoihkcnleaaGreatDoorPf
import Derived.WalkSmall
namespace Go.Proofs.YtfphnoihkcnleaaGreatDoor
open Go.RowKit

/-- What the package variables of the library hold when a call begins. -/
structure St (w : World) : Prop where
  size : 8 ≤ w.heap.size
  maxLen : ∃ m : Int, w.cell? ⟨2, 0, none⟩ = some (.int .i64 m)
  pow10 : Lib.TabIs Tryz.prog w "internal/strconv.uint64pow10" .u64 Lib.pow10Tab
theorem Tryz.pow10_global : Tryz.prog.globalNamed "internal/strconv.uint64pow10" = some 3 := by kernel_rfl
theorem St.below {w w' : World} (h : St w) {B : Nat} (hb : Below B w w') (hB : 8 ≤ B) : St w' := by
  obtain ⟨h1, ⟨m, h2⟩, h3⟩ := h
  exact ⟨Nat.le_trans h1 hb.size, ⟨m, (hb.cell (p := ⟨2, 0, none⟩) (by show 2 < B; omega)).trans h2⟩, var?_below hb Tryz.pow10_global (by omega) h3⟩
theorem St.next {w w' : World} (h : St w) (hb : Below w.heap.size w w') : St w' := h.below hb h.size

theorem index_slash : ∀ l : List UInt8, (Lib.index l [47] = -1 ∧ Fr.cut l = (l, none)) ∨ (∃ k : Nat, Lib.index l [47] = k ∧ Fr.cut l = (l.take k, some (l.drop (k + 1))))
  | [] => .inl ⟨rfl, rfl⟩
  | c :: l => by
    by_cases hc : c = 47
    · subst hc
      exact .inr ⟨0, by simp [Lib.index, List.isPrefixOf], by simp [Fr.cut]⟩
    · have hp : ([47] : List UInt8).isPrefixOf (c :: l) = false := by
        simp [List.isPrefixOf]; exact fun h => hc h.symm
      rcases index_slash l with ⟨h1, h2⟩ | ⟨k, h1, h2⟩
      · left
        refine ⟨by rw [Lib.index, hp, h1]; rfl, by rw [Fr.cut, if_neg hc, h2]⟩
      · right
        refine ⟨k + 1, ?_, by rw [Fr.cut, if_neg hc, h2]; rfl⟩
        rw [Lib.index, hp, h1]
        have : (((k : Nat) : Int) == -1) = false := by rw [beq_eq_false_iff_ne]; omega
        rw [if_neg (by simp), if_neg (by rw [this]; simp)]
        omega
theorem cut_slash (l : List UInt8) : Lib.cut l [47] = (Fr.numT l, (Fr.cut l).2.getD [], (Fr.cut l).2.isSome) := by
  unfold Lib.cut Fr.numT
  rcases index_slash l with ⟨h1, h2⟩ | ⟨k, h1, h2⟩
  · rw [h1, h2, if_neg (by omega)]; rfl
  · rw [h1, h2, if_pos (by omega)]; simp

def numB (s : ByteArray) : ByteArray := ⟨(Fr.numT s.data.toList).toArray⟩
def denB (s : ByteArray) : ByteArray := ⟨(Fr.denT s.data.toList).toArray⟩

theorem split_any (s : ByteArray) (w : World) (hst : St w) (hs : s.size ≤ 1000000) :
    Calls Tryz.prog 49 #[.string s] w fun e w' => e = .returned (.tuple #[.string (numB s), .string (denB s), .bool (Fr.cut s.data.toList).2.isSome]) ∧ ∃ n, w' = w.drewN n := by
  obtain ⟨m, hm⟩ := hst.maxLen
  have CC := Lib.hid (Tryz.strings_Cut s ⟨#[47]⟩ m w (by omega) hm)
  have h0 : Lib.cut s.data.toList (ByteArray.mk #[47]).data.toList = _ := cut_slash s.data.toList
  rw [h0] at CC
  clear hm hst
  cases hcut : (Fr.cut s.data.toList).2 with
  | none =>
    have hd : denB s = ⟨#[49]⟩ := by unfold denB Fr.denT; rw [hcut]; rfl
    rw [hcut] at CC
    rw [hd]
    have HN := Lib.hid (show (⟨(Fr.numT s.data.toList).toArray⟩ : ByteArray) = numB s from rfl)
    rw [HN.out] at CC
    generalize numB s = a at *
    clear HN hd hcut h0
    go_enter Tryz.func49, Tryz.ntmps49
    go_wp2_with (go_at_call 88; refine (CC.out).mono ?_; rintro e w' ⟨rfl, n, rfl⟩)
    go_ret3
    exact ⟨rfl, n, rfl⟩
  | some d =>
    have hd : denB s = ⟨d.toArray⟩ := by unfold denB Fr.denT; rw [hcut]; rfl
    rw [hcut] at CC
    rw [hd]
    have HN := Lib.hid (show (⟨(Fr.numT s.data.toList).toArray⟩ : ByteArray) = numB s from rfl)
    rw [HN.out] at CC
    generalize numB s = a at *
    clear HN hd hcut h0
    go_enter Tryz.func49, Tryz.ntmps49
    go_wp2_with (go_at_call 88; refine (CC.out).mono ?_; rintro e w' ⟨rfl, n, rfl⟩)
    go_ret3
    exact ⟨rfl, n, rfl⟩

end Go.Proofs.YtfphnoihkcnleaaGreatDoor
