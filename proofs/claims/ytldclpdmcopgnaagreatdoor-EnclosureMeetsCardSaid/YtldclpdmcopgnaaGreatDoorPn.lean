/- The contracts of Add, Sub, Mul, Div, Compare, Whole of package fraction. The contracts of Make, Of and Sum of package fraction. The contracts of package fraction on the texts of rational numbers that are not too large. The contract of awake of the statements about fractions: the examples of the chapter. -/
import Derived.Test.YtldclpdmcopgnaaGreatDoorPl
import Derived.Test.YtldclpdmcopgnaaGreatDoorNum
namespace Go.Proofs.YtldclpdmcopgnaaGreatDoor
open Go.RowKit

/-- The quotient of two numbers, or the error. -/
def divV (p q : Rat) : List UInt8 × Int := if q = 0 then ([], 10) else Fr.out (p / q)
theorem compute_0 (s t : ByteArray) (w : World) (hst : St w) (hs : s.size ≤ 800) (ht : t.size ≤ 800) :
    Calls Tryz.prog 86 #[.int .i64 0, .string s, .string t] w (OutPost w (bi s.data.toList t.data.toList (Fr.out (Fr.rat s.data.toList + Fr.rat t.data.toList)))) := by
  unfold bi
  by_cases h : two s.data.toList t.data.toList = 0
  · rw [if_pos h]
    exact compute_add s t w hst hs ht h
  · rw [if_neg h]
    exact compute_bad _ s t w hst hs ht h
theorem fAdd_any (s t : ByteArray) (w : World) (hst : St w) (hs : s.size ≤ 800) (ht : t.size ≤ 800) :
    Calls Tryz.prog 44 #[.string s, .string t] w (OutPost w (bi s.data.toList t.data.toList (Fr.out (Fr.rat s.data.toList + Fr.rat t.data.toList)))) := by
  have CC := Lib.hid (compute_0 s t w hst hs ht)
  clear hst
  generalize bi s.data.toList t.data.toList (Fr.out (Fr.rat s.data.toList + Fr.rat t.data.toList)) = o at *
  go_enter Tryz.func44, Tryz.ntmps44
  go_wp2_with (go_at_call 86; refine (CC.out).mono ?_; rintro e w1 ⟨rfl, hb1⟩)
  go_ret2
  exact ⟨rfl, hb1⟩
theorem compute_1 (s t : ByteArray) (w : World) (hst : St w) (hs : s.size ≤ 800) (ht : t.size ≤ 800) :
    Calls Tryz.prog 86 #[.int .i64 1, .string s, .string t] w (OutPost w (bi s.data.toList t.data.toList (Fr.out (Fr.rat s.data.toList - Fr.rat t.data.toList)))) := by
  unfold bi
  by_cases h : two s.data.toList t.data.toList = 0
  · rw [if_pos h]
    exact compute_subtract s t w hst hs ht h
  · rw [if_neg h]
    exact compute_bad _ s t w hst hs ht h
theorem fSub_any (s t : ByteArray) (w : World) (hst : St w) (hs : s.size ≤ 800) (ht : t.size ≤ 800) :
    Calls Tryz.prog 45 #[.string s, .string t] w (OutPost w (bi s.data.toList t.data.toList (Fr.out (Fr.rat s.data.toList - Fr.rat t.data.toList)))) := by
  have CC := Lib.hid (compute_1 s t w hst hs ht)
  clear hst
  generalize bi s.data.toList t.data.toList (Fr.out (Fr.rat s.data.toList - Fr.rat t.data.toList)) = o at *
  go_enter Tryz.func45, Tryz.ntmps45
  go_wp2_with (go_at_call 86; refine (CC.out).mono ?_; rintro e w1 ⟨rfl, hb1⟩)
  go_ret2
  exact ⟨rfl, hb1⟩
theorem compute_2 (s t : ByteArray) (w : World) (hst : St w) (hs : s.size ≤ 800) (ht : t.size ≤ 800) :
    Calls Tryz.prog 86 #[.int .i64 2, .string s, .string t] w (OutPost w (bi s.data.toList t.data.toList (Fr.out (Fr.rat s.data.toList * Fr.rat t.data.toList)))) := by
  unfold bi
  by_cases h : two s.data.toList t.data.toList = 0
  · rw [if_pos h]
    exact compute_multiply s t w hst hs ht h
  · rw [if_neg h]
    exact compute_bad _ s t w hst hs ht h
theorem fMul_any (s t : ByteArray) (w : World) (hst : St w) (hs : s.size ≤ 800) (ht : t.size ≤ 800) :
    Calls Tryz.prog 46 #[.string s, .string t] w (OutPost w (bi s.data.toList t.data.toList (Fr.out (Fr.rat s.data.toList * Fr.rat t.data.toList)))) := by
  have CC := Lib.hid (compute_2 s t w hst hs ht)
  clear hst
  generalize bi s.data.toList t.data.toList (Fr.out (Fr.rat s.data.toList * Fr.rat t.data.toList)) = o at *
  go_enter Tryz.func46, Tryz.ntmps46
  go_wp2_with (go_at_call 86; refine (CC.out).mono ?_; rintro e w1 ⟨rfl, hb1⟩)
  go_ret2
  exact ⟨rfl, hb1⟩
theorem compute_3 (s t : ByteArray) (w : World) (hst : St w) (hs : s.size ≤ 800) (ht : t.size ≤ 800) :
    Calls Tryz.prog 86 #[.int .i64 3, .string s, .string t] w (OutPost w (bi s.data.toList t.data.toList (divV (Fr.rat s.data.toList) (Fr.rat t.data.toList)))) := by
  unfold bi
  by_cases h : two s.data.toList t.data.toList = 0
  · rw [if_pos h]
    unfold divV
    by_cases hq : Fr.rat t.data.toList = 0
    · rw [if_pos hq]
      exact compute_zero s t w hst hs ht h hq
    · rw [if_neg hq]
      exact compute_divide s t w hst hs ht h hq
  · rw [if_neg h]
    exact compute_bad _ s t w hst hs ht h
theorem fDiv_any (s t : ByteArray) (w : World) (hst : St w) (hs : s.size ≤ 800) (ht : t.size ≤ 800) :
    Calls Tryz.prog 47 #[.string s, .string t] w (OutPost w (bi s.data.toList t.data.toList (divV (Fr.rat s.data.toList) (Fr.rat t.data.toList)))) := by
  have CC := Lib.hid (compute_3 s t w hst hs ht)
  clear hst
  generalize bi s.data.toList t.data.toList (divV (Fr.rat s.data.toList) (Fr.rat t.data.toList)) = o at *
  go_enter Tryz.func47, Tryz.ntmps47
  go_wp2_with (go_at_call 86; refine (CC.out).mono ?_; rintro e w1 ⟨rfl, hb1⟩)
  go_ret2
  exact ⟨rfl, hb1⟩

set_option maxRecDepth 100000 in
set_option maxHeartbeats 2000000 in
theorem fCompare_any (s t : ByteArray) (w : World) (hst : St w) (hs : s.size ≤ 800) (ht : t.size ≤ 800) :
    Calls Tryz.prog 96 #[.string s, .string t] w fun e w' => e = .returned (.tuple #[.int .i64 (if two s.data.toList t.data.toList = 0 then Fr.cmpQ (Fr.rat s.data.toList) (Fr.rat t.data.toList) else 0), .int .i64 (two s.data.toList t.data.toList)]) ∧ Below w.heap.size w w' := by
  by_cases h : two s.data.toList t.data.toList = 0
  · rw [if_pos h, h]
    obtain ⟨h1, h2⟩ := two_zero h
    have CB := fun W hW => Lib.hid (both_good s t W (hst.next hW) hs ht h1 h2)
    clear hst h h1 h2
    generalize Fr.rat s.data.toList = p at *
    generalize Fr.rat t.data.toList = q at *
    go_enter Tryz.func96, Tryz.ntmps96
    go_wp2_with fail
    refine ((CB _ (by first | exact Below.refl _ _ | exact (Below.refl _ _).alloc (Nat.le_refl _) _ | exact ((Below.refl _ _).alloc (Nat.le_refl _) _).alloc (by simp) _)).out).mono ?_
    rintro e w1 ⟨x, y, rfl, hb1, hx, hy⟩
    obtain ⟨xb, xa, xl, xc, ya, yl, yc, rfl⟩ := hx.form
    obtain ⟨zb, za, zl, zc, ta, tl, tc, rfl⟩ := hy.form
    have hA : Below w1.heap.size w1 ((w1.alloc (.cells #[.bool xb, .slice xa xl xc, .slice ya yl yc] 105)).alloc (.cells #[.bool zb, .slice za zl zc, .slice ta tl tc] 105)) := ((Below.refl _ _).alloc (Nat.le_refl _) _).alloc (by simp) _
    have HX := Lib.hid (hx.below hA (Nat.le_refl _))
    have HY := Lib.hid (hy.below hA (Nat.le_refl _))
    have hB1 := hb1.trans (hA.mono hb1.size)
    clear hx hy hb1 hA
    go_wp2_with fail
    refine (subtract_q HX.out HY.out).mono ?_
    rintro e w3 ⟨v3, rfl, hb3, hv3, _⟩
    have hB2 := hB1.trans (hb3.mono hB1.size)
    go_wp2_with fail
    refine (sign_q hv3).mono ?_
    rintro e w4 ⟨rfl, hb4⟩
    have hB3 := hB2.trans (hb4.mono hB2.size)
    rw [Fr.cmpQ_sub]
    go_wp2
    go_ret2
    exact ⟨rfl, hB3⟩
  · rw [if_neg h]
    have CB := fun W hW => Lib.hid (both_bad s t W (hst.next hW) hs ht h)
    have hne : (two s.data.toList t.data.toList != 0) = true := by simpa using h
    clear hst h
    generalize two s.data.toList t.data.toList = c at *
    go_enter Tryz.func96, Tryz.ntmps96
    go_wp2_with fail
    refine ((CB _ (by first | exact Below.refl _ _ | exact (Below.refl _ _).alloc (Nat.le_refl _) _ | exact ((Below.refl _ _).alloc (Nat.le_refl _) _).alloc (by simp) _)).out).mono ?_
    rintro e w1 ⟨rfl, hb1⟩
    go_wp2
    go_ret2
    exact ⟨rfl, (hb1.alloc hb1.size _).alloc (by simp; have := hb1.size; omega) _⟩

end Go.Proofs.YtldclpdmcopgnaaGreatDoor

namespace Go.Proofs.YtldclpdmcopgnaaGreatDoor
open Go.RowKit

/-- The error of an integer text. -/
def chkI (l : List UInt8) : Int := if Fr.isInt l then (if Fr.isLong l then 11 else 0) else 3
theorem chkI_zero {l : List UInt8} (h : chkI l = 0) : Fr.isInt l = true ∧ Fr.isLong l = false := by
  unfold chkI at h
  cases h1 : Fr.isInt l with
  | false => rw [h1] at h; simp at h
  | true =>
    cases h2 : Fr.isLong l with
    | false => exact ⟨rfl, rfl⟩
    | true => rw [h1, h2] at h; simp at h
theorem chkI_bad {l : List UInt8} (h : chkI l ≠ 0) : (Fr.isInt l = false ∧ chkI l = 3) ∨ (Fr.isInt l = true ∧ Fr.isLong l = true ∧ chkI l = 11) := by
  unfold chkI at h ⊢
  cases h1 : Fr.isInt l with
  | false => exact .inl ⟨rfl, rfl⟩
  | true =>
    cases h2 : Fr.isLong l with
    | false => rw [h1, h2] at h; simp at h
    | true => exact .inr ⟨rfl, rfl, rfl⟩

theorem toList_eq_iff (t : ByteArray) (l : List UInt8) : (t.toList == l) = (t.data.toList == l) := by rw [ByteArray.toList_eq]

/-- What Make returns. -/
def mkV (m n : List UInt8) : List UInt8 × Int :=
  if chkI m = 0 then (if chkI n = 0 then (if n = [48] then ([], 10) else Fr.out ((Fr.sv m : Rat) / (Fr.sv n : Rat))) else ([], chkI n)) else ([], chkI m)

/-- What Of returns. -/
def ofV (a b : Int) : List UInt8 × Int := if b = 0 then ([], 10) else Fr.out ((a : Rat) / (b : Rat))
theorem chkI_itxt (a : Int) (h : -9223372036854775808 ≤ a ∧ a < 9223372036854775808) : chkI (Fr.itxt a) = 0 := by
  unfold chkI; rw [(Fr.itxt_int a).1, (Fr.itxt_len a h).1]; rfl
theorem itxt_zero (a : Int) : Fr.itxt a = [48] ↔ a = 0 := by
  constructor
  · intro h
    have h1 := (Fr.itxt_int a).2
    rw [h] at h1
    rw [← h1]; rfl
  · rintro rfl; rfl
theorem mkV_itxt (a b : Int) (ha : -9223372036854775808 ≤ a ∧ a < 9223372036854775808) (hb : -9223372036854775808 ≤ b ∧ b < 9223372036854775808) : mkV (Fr.itxt a) (Fr.itxt b) = ofV a b := by
  unfold mkV ofV
  rw [if_pos (chkI_itxt a ha), if_pos (chkI_itxt b hb), (Fr.itxt_int a).2, (Fr.itxt_int b).2]
  by_cases h : b = 0
  · rw [if_pos h, if_pos ((itxt_zero b).2 h)]
  · rw [if_neg h, if_neg (fun h1 => h ((itxt_zero b).1 h1))]

end Go.Proofs.YtldclpdmcopgnaaGreatDoor

namespace Go.Proofs.YtldclpdmcopgnaaGreatDoor
open Go.RowKit

/-- The text of a rational number. -/
def txB (q : Rat) : ByteArray := ⟨(Fr.text q).toArray⟩
theorem txB_list (q : Rat) : (txB q).data.toList = Fr.text q := rfl
theorem txB_size {q : Rat} (h : Fr.fits q = true) : (txB q).size ≤ 122 := Fr.text_len h
theorem txB_of {s : ByteArray} (h : Fr.chk s.data.toList = 0) : s = txB (Fr.rat s.data.toList) := bytes_eq (Fr.text_rat h).symm
theorem txB_inj {p q : Rat} : txB p = txB q ↔ p = q := by
  constructor
  · intro h
    exact Fr.text_inj.1 (congrArg (fun b : ByteArray => b.data.toList) h)
  · rintro rfl; rfl
theorem txB_beq (p q : Rat) : ((txB p).toList == (txB q).toList) = decide (p = q) := by
  rw [ByteArray.toList_eq, ByteArray.toList_eq, txB_list, txB_list]
  by_cases h : p = q
  · subst h; simp
  · rw [decide_eq_false h, beq_eq_false_iff_ne]
    exact fun e => h (Fr.text_inj.1 e)

def TxPost (w : World) (q : Rat) (e : Ending) (w' : World) : Prop := e = .returned (.tuple #[.string (txB q), .int .i64 0]) ∧ Below w.heap.size w w'

theorem bi_tx {p q : Rat} (hp : Fr.fits p = true) (hq : Fr.fits q = true) (o : List UInt8 × Int) : bi (Fr.text p) (Fr.text q) o = o := by
  unfold bi two
  rw [if_pos (Fr.chk_text hp), if_pos (Fr.chk_text hq)]
theorem out_tx {q : Rat} (h : Fr.fits q = true) : Fr.out q = (Fr.text q, 0) := by unfold Fr.out; rw [if_pos h]

section
variable {p q r : Rat} (hp : Fr.fits p = true) (hq : Fr.fits q = true) (hr : Fr.fits r = true) (w : World) (hst : St w)
include hp hst
include hq hr in
theorem add_tx (h : p + q = r) : Calls Tryz.prog 44 #[.string (txB p), .string (txB q)] w (TxPost w r) := by
  have h1 := fAdd_any (txB p) (txB q) w hst (Nat.le_trans (txB_size hp) (by omega)) (Nat.le_trans (txB_size hq) (by omega))
  rw [txB_list, txB_list, bi_tx hp hq, Fr.rat_text, Fr.rat_text, h, out_tx hr] at h1
  exact h1
include hq hr in
theorem sub_tx (h : p - q = r) : Calls Tryz.prog 45 #[.string (txB p), .string (txB q)] w (TxPost w r) := by
  have h1 := fSub_any (txB p) (txB q) w hst (Nat.le_trans (txB_size hp) (by omega)) (Nat.le_trans (txB_size hq) (by omega))
  rw [txB_list, txB_list, bi_tx hp hq, Fr.rat_text, Fr.rat_text, h, out_tx hr] at h1
  exact h1
include hq hr in
theorem mul_tx (h : p * q = r) : Calls Tryz.prog 46 #[.string (txB p), .string (txB q)] w (TxPost w r) := by
  have h1 := fMul_any (txB p) (txB q) w hst (Nat.le_trans (txB_size hp) (by omega)) (Nat.le_trans (txB_size hq) (by omega))
  rw [txB_list, txB_list, bi_tx hp hq, Fr.rat_text, Fr.rat_text, h, out_tx hr] at h1
  exact h1
include hq hr in
theorem div_tx (h0 : q ≠ 0) (h : p / q = r) : Calls Tryz.prog 47 #[.string (txB p), .string (txB q)] w (TxPost w r) := by
  have h1 := fDiv_any (txB p) (txB q) w hst (Nat.le_trans (txB_size hp) (by omega)) (Nat.le_trans (txB_size hq) (by omega))
  rw [txB_list, txB_list, bi_tx hp hq, Fr.rat_text, Fr.rat_text] at h1
  unfold divV at h1
  rw [if_neg h0, h, out_tx hr] at h1
  exact h1
include hq in
theorem div_zero_tx (h0 : q = 0) : Calls Tryz.prog 47 #[.string (txB p), .string (txB q)] w fun e w' => e = .returned (.tuple #[.string ⟨#[]⟩, .int .i64 10]) ∧ Below w.heap.size w w' := by
  have h1 := fDiv_any (txB p) (txB q) w hst (Nat.le_trans (txB_size hp) (by omega)) (Nat.le_trans (txB_size hq) (by omega))
  rw [txB_list, txB_list, bi_tx hp hq, Fr.rat_text, Fr.rat_text] at h1
  unfold divV at h1
  rw [if_pos h0] at h1
  exact h1
include hr in
theorem neg_tx (h : -p = r) : Calls Tryz.prog 106 #[.string (txB p)] w (TxPost w r) := by
  have h1 := fNeg_any (txB p) w hst (Nat.le_trans (txB_size hp) (by omega))
  unfold un at h1
  rw [txB_list, if_pos (Fr.chk_text hp), Fr.rat_text, h, out_tx hr] at h1
  exact h1
include hq in
theorem cmp_tx {c : Int} (h : Fr.cmpQ p q = c) : Calls Tryz.prog 96 #[.string (txB p), .string (txB q)] w fun e w' => e = .returned (.tuple #[.int .i64 c, .int .i64 0]) ∧ Below w.heap.size w w' := by
  have h1 := fCompare_any (txB p) (txB q) w hst (Nat.le_trans (txB_size hp) (by omega)) (Nat.le_trans (txB_size hq) (by omega))
  unfold two at h1
  rw [txB_list, txB_list, if_pos (Fr.chk_text hp), Fr.chk_text hq, if_pos rfl, Fr.rat_text, Fr.rat_text, h] at h1
  exact h1
theorem sign_tx {c : Int} (h : Fr.sgnQ p = c) : Calls Tryz.prog 49 #[.string (txB p)] w fun e w' => e = .returned (.tuple #[.int .i64 c, .int .i64 0]) ∧ Below w.heap.size w w' := by
  have h1 := fSign_any (txB p) w hst (Nat.le_trans (txB_size hp) (by omega))
  rw [txB_list, if_pos (Fr.chk_text hp), Fr.chk_text hp, Fr.rat_text, h] at h1
  exact h1
theorem check_tx : Calls Tryz.prog 52 #[.string (txB p)] w fun e w' => e = .returned (.int .i64 0) ∧ Below w.heap.size w w' := by
  have h1 := fCheck_any (txB p) w hst (Nat.le_trans (txB_size hp) (by omega))
  rw [txB_list, Fr.chk_text hp] at h1
  exact h1
theorem parts_tx : Calls Tryz.prog 128 #[.string (txB p)] w fun e w' => e = .returned (.tuple #[.string (txB (p.num : Rat)), .string (txB ((p.den : Int) : Rat)), .int .i64 0]) ∧ Below w.heap.size w w' := by
  have h1 := fParts_any (txB p) w hst (Nat.le_trans (txB_size hp) (by omega))
  unfold partsV at h1
  have h2 := Fr.cut_text p
  have e1 : numB (txB p) = txB (p.num : Rat) := by
    unfold numB txB
    rw [show (ByteArray.mk (Fr.text p).toArray).data.toList = Fr.text p from rfl, h2.1]
    unfold Fr.text
    rw [show ((p.num : Int) : Rat).num = p.num from rfl, show ((p.num : Int) : Rat).den = 1 from rfl, if_pos rfl, List.append_nil]
  have e2 : denB (txB p) = txB ((p.den : Int) : Rat) := by
    unfold denB txB
    rw [show (ByteArray.mk (Fr.text p).toArray).data.toList = Fr.text p from rfl, h2.2.1]
    unfold Fr.text
    rw [show (((p.den : Nat) : Int) : Rat).num = (p.den : Int) from rfl, show (((p.den : Nat) : Int) : Rat).den = 1 from rfl, if_pos rfl, List.append_nil, if_neg (by omega)]
    rfl
  rw [txB_list, if_pos (Fr.chk_text hp), Fr.chk_text hp, e1, e2] at h1
  exact h1
end

theorem chkI_tx {z : Int} (h : Fr.fits (z : Rat) = true) : chkI (Fr.text (z : Rat)) = 0 := by
  have h1 := Fr.chk_text h
  obtain ⟨h2, _, h3, _⟩ := Fr.chk_zero h1
  have h4 := (Fr.cut_text (z : Rat)).1
  have e : Fr.numT (Fr.text (z : Rat)) = Fr.text (z : Rat) := by
    rw [h4]
    unfold Fr.text
    rw [show ((z : Int) : Rat).num = z from rfl, show ((z : Int) : Rat).den = 1 from rfl, if_pos rfl, List.append_nil]
  rw [e] at h2 h3
  unfold chkI
  rw [h2, h3]
  rfl
theorem sv_tx (z : Int) : Fr.sv (Fr.text (z : Rat)) = z := by
  have h := (Fr.sign_text (z : Rat)).2.2.2
  have e : (if ((z : Int) : Rat).num < 0 then [45] else []) ++ Fr.render ((z : Int) : Rat).num.natAbs = Fr.text (z : Rat) := by
    unfold Fr.text
    rw [show ((z : Int) : Rat).den = 1 from rfl, if_pos rfl, List.append_nil]
  rw [e] at h
  exact h
theorem text_zero_iff (z : Int) : Fr.text (z : Rat) = [48] ↔ z = 0 := by
  constructor
  · intro h
    have h1 := sv_tx z
    rw [h] at h1
    rw [← h1]; rfl
  · rintro rfl; rfl
end Go.Proofs.YtldclpdmcopgnaaGreatDoor

namespace Go.Proofs.YtldclpdmcopgnaaGreatDoor
open Go.RowKit

def exA : ByteArray := ⟨#[51, 47, 50, 48]⟩
def exB : ByteArray := ⟨#[50, 47, 49, 53]⟩
def exC : ByteArray := ⟨#[45, 49, 49, 47, 52]⟩

theorem awake_add : bi exA.data.toList exB.data.toList (Fr.out (Fr.rat exA.data.toList + Fr.rat exB.data.toList)) = ([49, 55, 47, 54, 48], 0) := by decide +kernel
theorem awake_sub : bi exA.data.toList exB.data.toList (Fr.out (Fr.rat exA.data.toList - Fr.rat exB.data.toList)) = ([49, 47, 54, 48], 0) := by decide +kernel
theorem awake_mul : bi exA.data.toList exB.data.toList (Fr.out (Fr.rat exA.data.toList * Fr.rat exB.data.toList)) = ([49, 47, 53, 48], 0) := by decide +kernel
theorem awake_div : bi exA.data.toList exB.data.toList (divV (Fr.rat exA.data.toList) (Fr.rat exB.data.toList)) = ([57, 47, 56], 0) := by decide +kernel
theorem awake_floor : un exC.data.toList (Fr.out (((Fr.rat exC.data.toList).floor : Int) : Rat)) = ([45, 51], 0) := by decide +kernel
theorem awake_ceil : un exC.data.toList (Fr.out (-(((-(Fr.rat exC.data.toList)).floor : Int) : Rat))) = ([45, 50], 0) := by decide +kernel
theorem awake_of : ofV 26 (-10) = ([45, 49, 51, 47, 53], 0) := by decide +kernel
theorem awake_chk1 : Fr.chk (ByteArray.mk #[49, 50, 47, 56]).data.toList = 3 := by decide +kernel
theorem awake_chk2 : Fr.chk (ByteArray.mk #[52, 47, 49]).data.toList = 3 := by decide +kernel
theorem awake_whole : Fr.itxt (-7) = [45, 55] := by decide +kernel

end Go.Proofs.YtldclpdmcopgnaaGreatDoor

