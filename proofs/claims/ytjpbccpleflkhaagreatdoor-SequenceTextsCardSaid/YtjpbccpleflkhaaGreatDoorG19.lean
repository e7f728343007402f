/- The texts of steps, of the reference. Format of the reference. -/
import Derived.Test.YtjpbccpleflkhaaGreatDoorG08
namespace Sk
open Go
theorem join_snoc (r : List (List UInt8)) (x sep : List UInt8) : Lib.join (r ++ [x]) sep = if r.length = 0 then x else (Lib.join r sep ++ sep) ++ x := by
  cases r with
  | nil =>
    show Lib.join [x] sep = _
    rw [Lib.join_one]; rfl
  | cons y r =>
    rw [if_neg (by simp), List.cons_append, Lib.join_cons, Lib.join_cons]
    simp [Lib.joinTail]
theorem ln_take {l : List Str} {i : Nat} (hi : i < l.length) : lnT (l.take (i + 1)) = if i = 0 then strT (l.getD i d0) else (lnT (l.take i) ++ [32]) ++ strT (l.getD i d0) := by
  unfold lnT
  rw [take_map strT d0 hi, join_snoc]
  have : ((l.take i).map strT).length = i := by simp; omega
  rw [this]
theorem fm_take {L : List Stp} {i : Nat} (hi : i < L.length) : fmtT (L.take (i + 1)) = if i = 0 then stpT (L.getD i t0) else (fmtT (L.take i) ++ [59, 32]) ++ stpT (L.getD i t0) := by
  unfold fmtT
  rw [take_map stpT t0 hi, join_snoc]
  have : ((L.take i).map stpT).length = i := by simp; omega
  rw [this]
theorem lnT_take_len {l : List Str} (h : l.length ≤ 6) (i : Nat) : (lnT (l.take i)).length ≤ 18 := lnT_len (by rw [List.length_take]; omega)
theorem fmT_take_len {L : List Stp} (h : chkF L = 0) (hl : L.length ≤ 64) (i : Nat) : (fmtT (L.take i)).length ≤ 1792 :=
  fmtT_len (chkF_of (fun j hj => by
    rw [List.length_take] at hj
    have : (L.take i).getD j t0 = L.getD j t0 := by rw [List.getD_eq_getElem?_getD, List.getD_eq_getElem?_getD, List.getElem?_take, if_pos (by omega)]
    rw [this]; exact chkF_at h (by omega))) (by rw [List.length_take]; omega)
end Sk
namespace Go.Proofs.YtjpbccpleflkhaaGreatDoor
open Go.RowKit
set_option maxHeartbeats 8000000 in
set_option maxRecDepth 100000 in
theorem rLine_any (v : Value) (l : List Sk.Str) (n : Int) (w : World) (hs : SeeK w v l) (hc : Sk.chkP l n = 0) : Calls Tryz.prog 38 #[.agg #[v, .int .i64 n]] w fun e w' => e = .returned (.string ⟨(Sk.stpT (l, n)).toArray⟩) ∧ Below w.heap.size w w' := by
  obtain ⟨hR, hn0, hn1⟩ := Sk.chkP_ok hc
  obtain ⟨ao, cap, rfl, hcap1, hcap2, hC⟩ := hs
  have HC := Lib.hid hC
  have HAct := Lib.hid (fun i (hi : i < l.length) => RtAct hR hi)
  have hl6 := hR.le6
  have HTk := Lib.hid (fun i (hi : i < l.length) => Sk.ln_take hi)
  have HLn := Lib.hid (fun i => Sk.lnT_take_len hl6 i)
  obtain ⟨P0, L0, z0⟩ := boxP_new w (.slice ao l.length cap) (.int .i64 n) 40
  have HL := Lib.hid L0
  have HP := Lib.hid P0
  have hq : Sk.stpT (l, n) = Sk.lnT (l.take l.length) ++ (if n = 0 then [] else 32 :: Fr.render n.toNat) := by rw [List.take_length]; rfl
  have HQ := Lib.hid hq
  clear hC P0 L0 z0 hR hc hq
  go_enter Tryz.func38, Tryz.ntmps38
  go_wp2
  go_loopw [3, 4] (fun s3 s4 wr => ∃ i : Nat, i ≤ l.length ∧ s4 = .int .i64 (i : Int) ∧ s3 = .string ⟨(Sk.lnT (l.take i)).toArray⟩ ∧ Hid (Below w.heap.size w wr) ∧ Hid (BoxP wr w.heap.size (.slice ao l.length cap) (.int .i64 n))) (fun _ s4 _ => l.length - (intOf s4).toNat)
  case atStart => exact ⟨0, Nat.zero_le _, rfl, rfl, HL, HP⟩
  case round =>
    clear HP HL
    obtain ⟨i, hi, rfl, rfl, HBW, HP⟩ := hrel
    obtain ⟨x0, x1, x2⟩ := HP.out
    have hwi : IntKind.i64.wrap (i : Int) = (i : Int) := IntWalk.i64_in _ (by omega)
    have hz1 := HLn.out i
    by_cases hil : i < l.length
    · obtain ⟨g, off, rfl, hg, c1, c2⟩ := HC.out.at HBW.out hil
      obtain ⟨k, o, hko, hk⟩ := HAct.out i hil
      have HTi := Lib.hid (HTk.out i hil)
      have CW := fun W => Lib.hid (rWri_any k o hk W)
      have hz2 : (⟨(Sk.strT ((k : Int), o)).toArray⟩ : ByteArray).size ≤ 2 := by rw [size_mk]; exact Nat.le_refl _
      rw [hko] at c1 c2 HTi
      clear HTk HAct HLn
      rw [← size_mk] at hz1
      by_cases h0 : i = 0
      · subst h0
        have hT2 : (⟨(Sk.lnT (l.take 0)).toArray⟩ : ByteArray) ++ ⟨(Sk.strT ((k : Int), o)).toArray⟩ = ⟨(Sk.lnT (l.take (0 + 1))).toArray⟩ := by rw [HTi.out, if_pos rfl, cat_lists]; rfl
        simp only [Nat.zero_mul, Nat.add_zero] at c1 c2
        obtain ⟨T2, hE2⟩ : ∃ T2, (⟨(Sk.lnT (l.take (0 + 1))).toArray⟩ : ByteArray) = T2 := ⟨_, rfl⟩
        rw [hE2] at hT2
        have HE2 := Lib.hid hE2
        clear hE2
        generalize (⟨(Sk.lnT (l.take 0)).toArray⟩ : ByteArray) = T1 at *
        generalize (⟨(Sk.strT ((k : Int), o)).toArray⟩ : ByteArray) = S at *
        clear HTi
        go_wp2_with fail
        refine ((CW _).out).mono ?_
        rintro e w1 ⟨rfl, hb1⟩
        have HB1 := Lib.hid (below_nxt HBW.out hb1)
        have HP1 := Lib.hid (HP.out.step hb1)
        clear hb1 CW x0 x1 x2 c1 c2
        go_wp2
        exact ⟨⟨0 + 1, by omega, by first | rfl | go_num, by rw [HE2.out], HB1, HP1⟩, by simp [intOf]; omega⟩
      · have hT2 : ((⟨(Sk.lnT (l.take i)).toArray⟩ : ByteArray) ++ ⟨#[32]⟩) ++ ⟨(Sk.strT ((k : Int), o)).toArray⟩ = ⟨(Sk.lnT (l.take (i + 1))).toArray⟩ := by rw [HTi.out, if_neg h0, show (⟨#[32]⟩ : ByteArray) = ⟨[(32 : UInt8)].toArray⟩ from rfl, cat_lists, cat_lists]
        have hip : (0 : Int) < (i : Int) := by omega
        obtain ⟨T2, hE2⟩ : ∃ T2, (⟨(Sk.lnT (l.take (i + 1))).toArray⟩ : ByteArray) = T2 := ⟨_, rfl⟩
        rw [hE2] at hT2
        have HE2 := Lib.hid hE2
        clear hE2
        generalize (⟨(Sk.lnT (l.take i)).toArray⟩ : ByteArray) = T1 at *
        generalize (⟨(Sk.strT ((k : Int), o)).toArray⟩ : ByteArray) = S at *
        clear HTi
        go_wp2_with fail
        refine ((CW _).out).mono ?_
        rintro e w1 ⟨rfl, hb1⟩
        have HB1 := Lib.hid (below_nxt HBW.out hb1)
        have HP1 := Lib.hid (HP.out.step hb1)
        clear hb1 CW x0 x1 x2 c1 c2
        go_wp2
        exact ⟨⟨i + 1, by omega, by first | rfl | go_num, by rw [HE2.out], HB1, HP1⟩, by simp [intOf]; omega⟩
    · obtain rfl : i = l.length := by omega
      clear HTk HAct HLn
      rw [← size_mk] at hz1
      by_cases hn : n = 0
      · subst hn
        have HE := Lib.hid (show (⟨(Sk.lnT (l.take l.length)).toArray⟩ : ByteArray) = ⟨(Sk.stpT (l, 0)).toArray⟩ by rw [HQ.out, if_pos rfl, List.append_nil])
        generalize (⟨(Sk.lnT (l.take l.length)).toArray⟩ : ByteArray) = T1 at *
        go_wp2
        go_ret
        exact ⟨by rw [HE.out]; rfl, HBW.out⟩
      · obtain ⟨m, rfl⟩ := Int.eq_ofNat_of_zero_le hn0
        have CD := fun W => Lib.hid (rDigits_any m W (by omega))
        have HE := Lib.hid (show (⟨(Sk.lnT (l.take l.length)).toArray⟩ : ByteArray) ++ ((⟨#[32]⟩ : ByteArray) ++ ⟨(Fr.render m).toArray⟩) = ⟨(Sk.stpT (l, (m : Int))).toArray⟩ by rw [HQ.out, if_neg hn, show (⟨#[32]⟩ : ByteArray) = ⟨[(32 : UInt8)].toArray⟩ from rfl, cat_lists, cat_lists]; rfl)
        have hz3 : (⟨(Fr.render m).toArray⟩ : ByteArray).size ≤ 7 := by rw [size_mk]; exact Tm.render_seven (by omega)
        have hmp : (0 : Int) < (m : Int) := by omega
        generalize (⟨(Sk.lnT (l.take l.length)).toArray⟩ : ByteArray) = T1 at *
        generalize (⟨(Fr.render m).toArray⟩ : ByteArray) = S at *
        go_wp2_with fail
        refine ((CD _).out).mono ?_
        rintro e w1 ⟨rfl, rfl⟩
        go_wp2
        go_ret
        exact ⟨by rw [HE.out]; rfl, HBW.out⟩
end Go.Proofs.YtjpbccpleflkhaaGreatDoor

namespace Go.Proofs.YtjpbccpleflkhaaGreatDoor
open Go.RowKit
set_option maxHeartbeats 8000000 in
set_option maxRecDepth 100000 in
theorem rLines_any (v : Value) (L : List Sk.Stp) (w : World) (hs : SeeT w v L) (hc : Sk.chkF L = 0) (hl : L.length ≤ 64) : Calls Tryz.prog 20 #[v] w fun e w' => e = .returned (.string ⟨(Sk.fmtT L).toArray⟩) ∧ Below w.heap.size w w' := by
  obtain ⟨ao, cap, rfl, hcap1, hcap2, hC⟩ := hs
  have HC := Lib.hid hC
  have HAct := Lib.hid (fun i (hi : i < L.length) => Sk.chkF_at hc hi)
  have HTk := Lib.hid (fun i (hi : i < L.length) => Sk.fm_take hi)
  have HLn := Lib.hid (fun i => Sk.fmT_take_len hc hl i)
  have HQ : Hid (Sk.fmtT (L.take L.length) = Sk.fmtT L) := Lib.hid (by rw [List.take_length])
  clear hC hc
  go_enter Tryz.func20, Tryz.ntmps20
  go_wp2
  go_loopw [3, 4] (fun s3 s4 wr => ∃ i : Nat, i ≤ L.length ∧ s4 = .int .i64 (i : Int) ∧ s3 = .string ⟨(Sk.fmtT (L.take i)).toArray⟩ ∧ Hid (Below w.heap.size w wr)) (fun _ s4 _ => L.length - (intOf s4).toNat)
  case atStart => exact ⟨0, Nat.zero_le _, rfl, rfl, Lib.hid (Below.refl _ _)⟩
  case round =>
    obtain ⟨i, hi, rfl, rfl, HBW⟩ := hrel
    have hwi : IntKind.i64.wrap (i : Int) = (i : Int) := IntWalk.i64_in _ (by omega)
    have hz1 := HLn.out i
    by_cases hil : i < L.length
    · obtain ⟨g, off, ak, ck, rfl, hg, c1, c2, hk⟩ := (HC.out.step HBW.out).at (Below.refl _ _) hil
      have hck := HAct.out i hil
      have HTi := Lib.hid (HTk.out i hil)
      generalize L.getD i Sk.t0 = y at *
      obtain ⟨l, n⟩ := y
      simp only at c1 c2 hk hck
      have hK := Sk.chkP_ok hck
      have CW := fun W (h : SeeK W (.slice ak l.length ck) l) => Lib.hid (rLine_any _ l n W h hck)
      have hz2 : (⟨(Sk.stpT (l, n)).toArray⟩ : ByteArray).size ≤ 26 := by rw [size_mk]; exact Sk.stpT_len hK.1.le6 hK.2.1 hK.2.2
      have HK := Lib.hid hk
      clear HTk HAct HLn hK hk hck
      rw [← size_mk] at hz1
      by_cases h0 : i = 0
      · subst h0
        have hT2 : (⟨(Sk.fmtT (L.take 0)).toArray⟩ : ByteArray) ++ ⟨(Sk.stpT (l, n)).toArray⟩ = ⟨(Sk.fmtT (L.take (0 + 1))).toArray⟩ := by rw [HTi.out, if_pos rfl, cat_lists]; rfl
        simp only [Nat.zero_mul, Nat.add_zero] at c1 c2
        obtain ⟨T2, hE2⟩ : ∃ T2, (⟨(Sk.fmtT (L.take (0 + 1))).toArray⟩ : ByteArray) = T2 := ⟨_, rfl⟩
        rw [hE2] at hT2
        have HE2 := Lib.hid hE2
        clear hE2
        generalize (⟨(Sk.fmtT (L.take 0)).toArray⟩ : ByteArray) = T1 at *
        generalize (⟨(Sk.stpT (l, n)).toArray⟩ : ByteArray) = S at *
        clear HTi
        go_wp2_with fail
        refine ((CW _ HK.out).out).mono ?_
        rintro e w1 ⟨rfl, hb1⟩
        have HB1 := Lib.hid (below_nxt HBW.out hb1)
        clear hb1 CW c1 c2
        go_wp2
        exact ⟨⟨0 + 1, by omega, by first | rfl | go_num, by rw [HE2.out], HB1⟩, by simp [intOf]; omega⟩
      · have hT2 : ((⟨(Sk.fmtT (L.take i)).toArray⟩ : ByteArray) ++ ⟨#[59, 32]⟩) ++ ⟨(Sk.stpT (l, n)).toArray⟩ = ⟨(Sk.fmtT (L.take (i + 1))).toArray⟩ := by rw [HTi.out, if_neg h0, show (⟨#[59, 32]⟩ : ByteArray) = ⟨[(59 : UInt8), 32].toArray⟩ from rfl, cat_lists, cat_lists]
        have hip : (0 : Int) < (i : Int) := by omega
        obtain ⟨T2, hE2⟩ : ∃ T2, (⟨(Sk.fmtT (L.take (i + 1))).toArray⟩ : ByteArray) = T2 := ⟨_, rfl⟩
        rw [hE2] at hT2
        have HE2 := Lib.hid hE2
        clear hE2
        generalize (⟨(Sk.fmtT (L.take i)).toArray⟩ : ByteArray) = T1 at *
        generalize (⟨(Sk.stpT (l, n)).toArray⟩ : ByteArray) = S at *
        clear HTi
        go_wp2_with fail
        refine ((CW _ HK.out).out).mono ?_
        rintro e w1 ⟨rfl, hb1⟩
        have HB1 := Lib.hid (below_nxt HBW.out hb1)
        clear hb1 CW c1 c2
        go_wp2
        exact ⟨⟨i + 1, by omega, by first | rfl | go_num, by rw [HE2.out], HB1⟩, by simp [intOf]; omega⟩
    · obtain rfl : i = L.length := by omega
      rw [HQ.out]
      go_wp2
      go_ret
      exact ⟨rfl, HBW.out⟩
end Go.Proofs.YtjpbccpleflkhaaGreatDoor
