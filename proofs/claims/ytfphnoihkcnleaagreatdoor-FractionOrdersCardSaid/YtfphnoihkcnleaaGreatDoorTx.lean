/- The contracts of package fraction on the texts of rational numbers that are not too large. -/
import Derived.Test.YtfphnoihkcnleaaGreatDoorPn
import Derived.Test.YtfphnoihkcnleaaGreatDoorBd
namespace Go.Proofs.YtfphnoihkcnleaaGreatDoor
open Go.RowKit

/-- The text of a rational number. -/
def txB (q : Rat) : ByteArray := ⟨(Fr.text q).toArray⟩
theorem txB_list (q : Rat) : (txB q).data.toList = Fr.text q := rfl
theorem txB_size {q : Rat} (h : Fr.fits q = true) : (txB q).size ≤ 122 := Fr.text_len h
theorem txB_of {s : ByteArray} (h : Fr.chk s.data.toList = 0) : s = txB (Fr.rat s.data.toList) := bytes_eq (Fr.text_rat h).symm
theorem txB_inj {p q : Rat} : txB p = txB q ↔ p = q := by
  constructor
  · intro h
    exact Fr.text_inj.1 (congrArg (fun b : ByteArray => b.data.toList) h)
  · rintro rfl; rfl
theorem txB_beq (p q : Rat) : ((txB p).toList == (txB q).toList) = decide (p = q) := by
  rw [ByteArray.toList_eq, ByteArray.toList_eq, txB_list, txB_list]
  by_cases h : p = q
  · subst h; simp
  · rw [decide_eq_false h, beq_eq_false_iff_ne]
    exact fun e => h (Fr.text_inj.1 e)

def TxPost (w : World) (q : Rat) (e : Ending) (w' : World) : Prop := e = .returned (.tuple #[.string (txB q), .int .i64 0]) ∧ Below w.heap.size w w'

theorem bi_tx {p q : Rat} (hp : Fr.fits p = true) (hq : Fr.fits q = true) (o : List UInt8 × Int) : bi (Fr.text p) (Fr.text q) o = o := by
  unfold bi two
  rw [if_pos (Fr.chk_text hp), if_pos (Fr.chk_text hq)]
theorem out_tx {q : Rat} (h : Fr.fits q = true) : Fr.out q = (Fr.text q, 0) := by unfold Fr.out; rw [if_pos h]

section
variable {p q r : Rat} (hp : Fr.fits p = true) (hq : Fr.fits q = true) (hr : Fr.fits r = true) (w : World) (hst : St w)
include hp hst
include hq hr in
theorem add_tx (h : p + q = r) : Calls Tryz.prog 25 #[.string (txB p), .string (txB q)] w (TxPost w r) := by
  have h1 := fAdd_any (txB p) (txB q) w hst (Nat.le_trans (txB_size hp) (by omega)) (Nat.le_trans (txB_size hq) (by omega))
  rw [txB_list, txB_list, bi_tx hp hq, Fr.rat_text, Fr.rat_text, h, out_tx hr] at h1
  exact h1
include hq hr in
theorem sub_tx (h : p - q = r) : Calls Tryz.prog 27 #[.string (txB p), .string (txB q)] w (TxPost w r) := by
  have h1 := fSub_any (txB p) (txB q) w hst (Nat.le_trans (txB_size hp) (by omega)) (Nat.le_trans (txB_size hq) (by omega))
  rw [txB_list, txB_list, bi_tx hp hq, Fr.rat_text, Fr.rat_text, h, out_tx hr] at h1
  exact h1
include hq hr in
theorem mul_tx (h : p * q = r) : Calls Tryz.prog 29 #[.string (txB p), .string (txB q)] w (TxPost w r) := by
  have h1 := fMul_any (txB p) (txB q) w hst (Nat.le_trans (txB_size hp) (by omega)) (Nat.le_trans (txB_size hq) (by omega))
  rw [txB_list, txB_list, bi_tx hp hq, Fr.rat_text, Fr.rat_text, h, out_tx hr] at h1
  exact h1
include hq hr in
theorem div_tx (h0 : q ≠ 0) (h : p / q = r) : Calls Tryz.prog 31 #[.string (txB p), .string (txB q)] w (TxPost w r) := by
  have h1 := fDiv_any (txB p) (txB q) w hst (Nat.le_trans (txB_size hp) (by omega)) (Nat.le_trans (txB_size hq) (by omega))
  rw [txB_list, txB_list, bi_tx hp hq, Fr.rat_text, Fr.rat_text] at h1
  unfold divV at h1
  rw [if_neg h0, h, out_tx hr] at h1
  exact h1
include hq in
theorem div_zero_tx (h0 : q = 0) : Calls Tryz.prog 31 #[.string (txB p), .string (txB q)] w fun e w' => e = .returned (.tuple #[.string ⟨#[]⟩, .int .i64 10]) ∧ Below w.heap.size w w' := by
  have h1 := fDiv_any (txB p) (txB q) w hst (Nat.le_trans (txB_size hp) (by omega)) (Nat.le_trans (txB_size hq) (by omega))
  rw [txB_list, txB_list, bi_tx hp hq, Fr.rat_text, Fr.rat_text] at h1
  unfold divV at h1
  rw [if_pos h0] at h1
  exact h1
include hr in
theorem neg_tx (h : -p = r) : Calls Tryz.prog 35 #[.string (txB p)] w (TxPost w r) := by
  have h1 := fNeg_any (txB p) w hst (Nat.le_trans (txB_size hp) (by omega))
  unfold un at h1
  rw [txB_list, if_pos (Fr.chk_text hp), Fr.rat_text, h, out_tx hr] at h1
  exact h1
include hr in
theorem floor_tx (h : ((p.floor : Int) : Rat) = r) : Calls Tryz.prog 37 #[.string (txB p)] w (TxPost w r) := by
  have h1 := fFloor_any (txB p) w hst (Nat.le_trans (txB_size hp) (by omega))
  unfold un at h1
  rw [txB_list, if_pos (Fr.chk_text hp), Fr.rat_text, h, out_tx hr] at h1
  exact h1
include hr in
theorem ceil_tx (h : -(((-p).floor : Int) : Rat) = r) : Calls Tryz.prog 39 #[.string (txB p)] w (TxPost w r) := by
  have h1 := fCeil_any (txB p) w hst (Nat.le_trans (txB_size hp) (by omega))
  unfold un at h1
  rw [txB_list, if_pos (Fr.chk_text hp), Fr.rat_text, h, out_tx hr] at h1
  exact h1
include hq in
theorem cmp_tx {c : Int} (h : Fr.cmpQ p q = c) : Calls Tryz.prog 33 #[.string (txB p), .string (txB q)] w fun e w' => e = .returned (.tuple #[.int .i64 c, .int .i64 0]) ∧ Below w.heap.size w w' := by
  have h1 := fCompare_any (txB p) (txB q) w hst (Nat.le_trans (txB_size hp) (by omega)) (Nat.le_trans (txB_size hq) (by omega))
  unfold two at h1
  rw [txB_list, txB_list, if_pos (Fr.chk_text hp), Fr.chk_text hq, if_pos rfl, Fr.rat_text, Fr.rat_text, h] at h1
  exact h1
theorem sign_tx {c : Int} (h : Fr.sgnQ p = c) : Calls Tryz.prog 15 #[.string (txB p)] w fun e w' => e = .returned (.tuple #[.int .i64 c, .int .i64 0]) ∧ Below w.heap.size w w' := by
  have h1 := fSign_any (txB p) w hst (Nat.le_trans (txB_size hp) (by omega))
  rw [txB_list, if_pos (Fr.chk_text hp), Fr.chk_text hp, Fr.rat_text, h] at h1
  exact h1
theorem check_tx : Calls Tryz.prog 19 #[.string (txB p)] w fun e w' => e = .returned (.int .i64 0) ∧ Below w.heap.size w w' := by
  have h1 := fCheck_any (txB p) w hst (Nat.le_trans (txB_size hp) (by omega))
  rw [txB_list, Fr.chk_text hp] at h1
  exact h1
theorem parts_tx : Calls Tryz.prog 13 #[.string (txB p)] w fun e w' => e = .returned (.tuple #[.string (txB (p.num : Rat)), .string (txB ((p.den : Int) : Rat)), .int .i64 0]) ∧ Below w.heap.size w w' := by
  have h1 := fParts_any (txB p) w hst (Nat.le_trans (txB_size hp) (by omega))
  unfold partsV at h1
  have h2 := Fr.cut_text p
  have e1 : numB (txB p) = txB (p.num : Rat) := by
    unfold numB txB
    rw [show (ByteArray.mk (Fr.text p).toArray).data.toList = Fr.text p from rfl, h2.1]
    unfold Fr.text
    rw [show ((p.num : Int) : Rat).num = p.num from rfl, show ((p.num : Int) : Rat).den = 1 from rfl, if_pos rfl, List.append_nil]
  have e2 : denB (txB p) = txB ((p.den : Int) : Rat) := by
    unfold denB txB
    rw [show (ByteArray.mk (Fr.text p).toArray).data.toList = Fr.text p from rfl, h2.2.1]
    unfold Fr.text
    rw [show (((p.den : Nat) : Int) : Rat).num = (p.den : Int) from rfl, show (((p.den : Nat) : Int) : Rat).den = 1 from rfl, if_pos rfl, List.append_nil, if_neg (by omega)]
    rfl
  rw [txB_list, if_pos (Fr.chk_text hp), Fr.chk_text hp, e1, e2] at h1
  exact h1
end

theorem chkI_tx {z : Int} (h : Fr.fits (z : Rat) = true) : chkI (Fr.text (z : Rat)) = 0 := by
  have h1 := Fr.chk_text h
  obtain ⟨h2, _, h3, _⟩ := Fr.chk_zero h1
  have h4 := (Fr.cut_text (z : Rat)).1
  have e : Fr.numT (Fr.text (z : Rat)) = Fr.text (z : Rat) := by
    rw [h4]
    unfold Fr.text
    rw [show ((z : Int) : Rat).num = z from rfl, show ((z : Int) : Rat).den = 1 from rfl, if_pos rfl, List.append_nil]
  rw [e] at h2 h3
  unfold chkI
  rw [h2, h3]
  rfl
theorem sv_tx (z : Int) : Fr.sv (Fr.text (z : Rat)) = z := by
  have h := (Fr.sign_text (z : Rat)).2.2.2
  have e : (if ((z : Int) : Rat).num < 0 then [45] else []) ++ Fr.render ((z : Int) : Rat).num.natAbs = Fr.text (z : Rat) := by
    unfold Fr.text
    rw [show ((z : Int) : Rat).den = 1 from rfl, if_pos rfl, List.append_nil]
  rw [e] at h
  exact h
theorem text_zero_iff (z : Int) : Fr.text (z : Rat) = [48] ↔ z = 0 := by
  constructor
  · intro h
    have h1 := sv_tx z
    rw [h] at h1
    rw [← h1]; rfl
  · rintro rfl; rfl
theorem make_tx {m n : Int} {r : Rat} (hm : Fr.fits (m : Rat) = true) (hn : Fr.fits (n : Rat) = true) (h0 : n ≠ 0) (hr : Fr.fits r = true) (h : (m : Rat) / (n : Rat) = r) (w : World) :
    Calls Tryz.prog 48 #[.string (txB (m : Rat)), .string (txB (n : Rat))] w (TxPost w r) := by
  have h1 := fMake_any (txB (m : Rat)) (txB (n : Rat)) w (Nat.le_trans (txB_size hm) (by omega)) (Nat.le_trans (txB_size hn) (by omega))
  unfold mkV at h1
  rw [txB_list, txB_list, if_pos (chkI_tx hm), if_pos (chkI_tx hn), if_neg (fun e => h0 ((text_zero_iff n).1 e)), sv_tx, sv_tx, h, out_tx hr] at h1
  exact h1
theorem whole_tx (n : Int) (w : World) (hst : St w) (h0 : -9223372036854775808 ≤ n) (h1 : n ≤ 9223372036854775807) :
    Calls Tryz.prog 23 #[.int .i64 n] w fun e w' => e = .returned (.string (txB (n : Rat))) ∧ Below w.heap.size w w' := fWhole_any n w hst h0 h1

end Go.Proofs.YtfphnoihkcnleaaGreatDoor
