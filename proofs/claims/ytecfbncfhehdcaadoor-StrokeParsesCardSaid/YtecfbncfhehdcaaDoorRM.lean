/- The texts of steps, of the reference. -/
import Derived.Test.YtecfbncfhehdcaaDoorRG
namespace Sk
open Go
theorem join_snoc (r : List (List UInt8)) (x sep : List UInt8) : Lib.join (r ++ [x]) sep = if r.length = 0 then x else (Lib.join r sep ++ sep) ++ x := by
  cases r with
  | nil =>
    show Lib.join [x] sep = _
    rw [Lib.join_one]; rfl
  | cons y r =>
    rw [if_neg (by simp), List.cons_append, Lib.join_cons, Lib.join_cons]
    simp [Lib.joinTail]
theorem ln_take {l : List Str} {i : Nat} (hi : i < l.length) : lnT (l.take (i + 1)) = if i = 0 then strT (l.getD i d0) else (lnT (l.take i) ++ [32]) ++ strT (l.getD i d0) := by
  unfold lnT
  rw [take_map strT d0 hi, join_snoc]
  have : ((l.take i).map strT).length = i := by simp; omega
  rw [this]
theorem fm_take {L : List Stp} {i : Nat} (hi : i < L.length) : fmtT (L.take (i + 1)) = if i = 0 then stpT (L.getD i t0) else (fmtT (L.take i) ++ [59, 32]) ++ stpT (L.getD i t0) := by
  unfold fmtT
  rw [take_map stpT t0 hi, join_snoc]
  have : ((L.take i).map stpT).length = i := by simp; omega
  rw [this]
theorem lnT_take_len {l : List Str} (h : l.length ≤ 6) (i : Nat) : (lnT (l.take i)).length ≤ 18 := lnT_len (by rw [List.length_take]; omega)
theorem fmT_take_len {L : List Stp} (h : chkF L = 0) (hl : L.length ≤ 64) (i : Nat) : (fmtT (L.take i)).length ≤ 1792 :=
  fmtT_len (chkF_of (fun j hj => by
    rw [List.length_take] at hj
    have : (L.take i).getD j t0 = L.getD j t0 := by rw [List.getD_eq_getElem?_getD, List.getD_eq_getElem?_getD, List.getElem?_take, if_pos (by omega)]
    rw [this]; exact chkF_at h (by omega))) (by rw [List.length_take]; omega)
end Sk
namespace Go.Proofs.YtecfbncfhehdcaaDoor
open Go.RowKit
end Go.Proofs.YtecfbncfhehdcaaDoor

