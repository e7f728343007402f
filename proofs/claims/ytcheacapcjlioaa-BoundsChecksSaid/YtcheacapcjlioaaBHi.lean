/- Holds of the reference. -/
import Derived.Test.YtcheacapcjlioaaBHf
import Derived.Test.YtcheacapcjlioaaBi
namespace Go.Proofs.Ytcheacapcjlioaa
open Go.RowKit
set_option maxHeartbeats 8000000 in
set_option maxRecDepth 100000 in
theorem rKept_any (N : Nat) (v il : Value) (R : List (List Int)) (ts : List Int) (w : World) (hN : N ≤ 12) (hts : ts.length = N) (hnum : ts.all Bn.num = true) (hS : Bn.Shp N R) (hR : Bn.Rt N (Bn.mx R)) (hs : SeesR w v R) (hl : SeeI w il ts) (hnil : ∀ n c, il = .slice none n c → c = 0) :
    Calls Try.prog 44 #[.agg #[.int .i64 (N : Int), v], il] w fun e w' => e = .returned (.bool (Bn.hldB N R ts)) ∧ Below w.heap.size w w' := by
  obtain ⟨i0, hi0, hz0, hz1, hz2⟩ := info_int
  have HS := Lib.hid hs
  have HI := Lib.hid hl
  have hnil := Lib.hid hnil
  have HSh := Lib.hid hS
  have HTm := Lib.hid (fun k => Bn.tm_bd hnum k)
  have HMx := Lib.hid (fun i j (hi : i ≤ N) (hj : j ≤ N) => Bn.hl1_bd hR hi hj)
  obtain ⟨ao, cap, rfl, hcap1, hcap2, -⟩ := hs
  obtain ⟨io, icap, rfl, hi1, hi2, hI⟩ := hl
  obtain ⟨B0, L0⟩ := boxB_new w (N : Int) (.slice ao R.length cap) 24
  have HL := Lib.hid L0
  have HB := Lib.hid B0
  have HNo := Lib.hid (fun i j (hi : i ≤ N) (hj : j ≤ N) (h : Bn.hl1 R ts i j = false) => show Bn.hldB N R ts = false by
    cases g : Bn.hldB N R ts with
    | false => rfl
    | true => have := Bn.hldB_iff.1 g i j hi hj; rw [h] at this; cases this)
  have HYes := Lib.hid (fun (h : ∀ i j, i ≤ N → j ≤ N → Bn.hl1 R ts i j = true) => show Bn.hldB N R ts = true from Bn.hldB_iff.2 h)
  obtain ⟨X, hX⟩ : ∃ X, X = w.alloc (.cells #[.int .i64 (N : Int), .slice ao R.length cap] 24) := ⟨_, rfl⟩
  have hzX : X.heap.size = w.heap.size + 1 := by rw [hX]; simp
  have HZX := Lib.hid hzX
  have HR0 : Hid (RowI X.heap.size 3 (X.alloc (.cells #[.int .i64 0] 3)) (.slice (some ⟨X.heap.size, 0, none⟩) 1 1) [0]) := Lib.hid (RowI.one X.heap.size 3 X (Nat.le_refl _) 0)
  have HS0 : Hid (SeeI (X.alloc (.cells #[.int .i64 0] 3)) (.slice io ts.length icap) ts) := Lib.hid (by
    rw [hX]; exact (HI.out.step L0).step ((Below.refl _ _).alloc (Nat.le_refl _) (.cells #[.int .i64 0] 3)))
  rw [hzX] at HR0
  clear L0 hI B0 hS hR hnum hzX
  generalize Bn.hldB N R ts = q at *
  rw [hX] at HR0 HS0 HZX
  go_enter Try.func44, Try.ntmps44
  go_wp2_with (at_builtin; refine wpList_append_see rfl _ _ 25 rfl 3 i0 Try.underlying25 hi0 hz0 hz1 hz2 _ _ [0] ts (ts.length + 1) (by simp; omega) rfl rfl (w.heap.size + 1) HR0.out HS0.out hnil.out (by simp; omega) (by simp) ?_; intro a5 p5 w5 hr5 hg5; have hb5a := RowI.belowOwn (C := w.heap.size + 1) HR0.out hg5 (by simp) (Nat.le_refl _); have hb5 : Below X.heap.size X w5 := (by rw [hX, HZX.out]; exact ((Below.refl _ _).alloc (by simp) _).trans hb5a); have HR5 := Lib.hid hr5.sees.opened; have HX5 := Lib.hid ((show BoxB X w.heap.size N (.slice ao R.length cap) by rw [hX]; exact HB.out).step hb5); have HW5 := Lib.hid (below_nxt (show Below w.heap.size w X by rw [hX]; exact HL.out) hb5); clear hr5 hg5 hb5 hb5a)
  clear hX HZX HR0 HS0
  go_loopw [6] (fun s8 wr => ∃ i : Nat, i ≤ N + 1 ∧ s8 = .int .i64 (i : Int) ∧ Hid (Below w5.heap.size w5 wr) ∧ Hid (∀ a b, a < i → b ≤ N → Bn.hl1 R ts a b = true)) (fun s8 _ => N + 1 - (intOf s8).toNat)
  case atStart => exact ⟨0, Nat.zero_le _, rfl, Lib.hid (Below.refl _ _), Lib.hid (fun a b h => by omega)⟩
  case round =>
    obtain ⟨i, hi, rfl, HBW, HJ⟩ := hrel
    obtain ⟨b0, b1, b2⟩ := HX5.out.step HBW.out
    by_cases hil : i < N + 1
    · have hqi : (i : Int) ≤ (N : Int) := by omega
      obtain ⟨wo, rfl⟩ : ∃ wo, wo = wr := ⟨_, rfl⟩
      go_wp2
      go_loopw [7] (fun s9 wr => ∃ j : Nat, j ≤ N + 1 ∧ s9 = .int .i64 (j : Int) ∧ Hid (Below w5.heap.size w5 wr) ∧ Hid (∀ b, b < j → Bn.hl1 R ts i b = true)) (fun s9 _ => N + 1 - (intOf s9).toNat)
      case atStart => exact ⟨0, Nat.zero_le _, rfl, HBW, Lib.hid (fun b h => by omega)⟩
      case round =>
        clear HBW b0 b1 b2
        obtain ⟨j, hj, rfl, HBW, HK⟩ := hrel
        obtain ⟨b0, b1, b2⟩ := HX5.out.step HBW.out
        by_cases hjl : j < N + 1
        · have hqj : (j : Int) ≤ (N : Int) := by omega
          obtain ⟨cb, coff, ccp, cd, co2, ccr, hce, hcb, c1, hcd, c2⟩ := HS.out.get (below_nxt HW5.out HBW.out) (i := i) (j := j) (by rw [HSh.out.1]; exact hil) (by rw [HSh.out.2 i (by omega)]; exact hjl)
          simp only [Value.slice.injEq] at hce
          obtain ⟨rfl, -, rfl⟩ := hce
          rw [HSh.out.2 i (by omega)] at c1
          have zS : i < R.length := by rw [HSh.out.1]; exact hil
          obtain ⟨ra, rc, hre, rc1, rc2, hRC⟩ := HR5.out
          simp only [Value.slice.injEq] at hre
          obtain ⟨rfl, -, rfl⟩ := hre
          obtain ⟨rb, roff, rfl, hrb, d1⟩ := hRC.at HBW.out (i := i) (by simp; omega)
          obtain ⟨rb', roff', he, -, d2⟩ := hRC.at HBW.out (i := j) (by simp; omega)
          simp only [Option.some.injEq, Addr.mk.injEq, and_true] at he
          obtain ⟨rfl, rfl⟩ := he
          change wr.cell? ⟨rb, roff + i, none⟩ = some (.int .i64 (Bn.tm ts i)) at d1
          change wr.cell? ⟨rb, roff + j, none⟩ = some (.int .i64 (Bn.tm ts j)) at d2
          have zi : (i : Int) < (ts.length : Int) + 1 := by omega
          have zj : (j : Int) < (ts.length : Int) + 1 := by omega
          obtain ⟨ti1, ti2⟩ := HTm.out i
          obtain ⟨tj1, tj2⟩ := HTm.out j
          obtain ⟨mx1, mx2⟩ := HMx.out i j (by omega) (by omega)
          have HN := Lib.hid (HNo.out i j (by omega) (by omega))
          have HE : Hid (Bn.hl1 R ts i j = (decide (Bn.mx R i j = -1099511627776) || decide (Bn.tm ts j - Bn.tm ts i ≤ Bn.mx R i j))) := Lib.hid rfl
          have HK2 := Lib.hid (fun (h : Bn.hl1 R ts i j = true) b (hb : b < j + 1) => show Bn.hl1 R ts i b = true by
            by_cases e : b = j
            · rw [e]; exact h
            · exact HK.out b (by omega))
          clear HNo HYes HK hRC rc1
          generalize Bn.hl1 R ts i j = bb at *
          generalize Bn.mx R i j = y at *
          generalize Bn.tm ts i = ti at *
          generalize Bn.tm ts j = tj at *
          by_cases hy : y = -1099511627776
          · have hbb : bb = true := by rw [HE.out]; simp [hy]
            have HK3 := Lib.hid (HK2.out hbb)
            subst hy
            clear HN HK2 HE hbb
            go_wp2
            go_quiet (fail)
            go_wp2
            exact ⟨⟨j + 1, by omega, by first | rfl | go_num, Lib.hid (HBW.out.trans (below_drewN _ _)), HK3⟩, by simp [intOf]; omega⟩
          · have hy' : (y != -1099511627776) = true := by simpa using hy
            by_cases hxy : tj - ti ≤ y
            · have hbb : bb = true := by rw [HE.out]; simp [hxy]
              have HK3 := Lib.hid (HK2.out hbb)
              have hd : decide (y < tj - ti) = false := by simpa using hxy
              clear HN HK2 HE hbb hxy
              go_wp2
              go_quiet (fail)
              go_wp2
              exact ⟨⟨j + 1, by omega, by first | rfl | go_num, Lib.hid (HBW.out.trans (below_drewN _ _)), HK3⟩, by simp [intOf]; omega⟩
            · have hbb : bb = false := by rw [HE.out]; simp [hxy, hy]
              have hq := HN.out hbb
              have hd : decide (y < tj - ti) = true := by simpa using hxy
              subst hq
              clear HN HK2 HE hbb hxy
              go_wp2
              go_quiet (fail)
              go_wp2
              go_ret
              exact ⟨rfl, (below_nxt HW5.out HBW.out).trans (below_drewN _ _)⟩
        · have hjj : j = N + 1 := by omega
          subst j
          rw [show ((N + 1 : Nat) : Int) = (N : Int) + 1 from rfl]
          have HJ2 : Hid (∀ a b, a < i + 1 → b ≤ N → Bn.hl1 R ts a b = true) := Lib.hid (fun a b ha hb => by
            by_cases e : a = i
            · rw [e]; exact HK.out b (by omega)
            · exact HJ.out a b (by omega) hb)
          clear HJ HK
          go_wp2
          exact ⟨⟨i + 1, by omega, by first | rfl | go_num, HBW, HJ2⟩, by simp [intOf]; omega⟩
    · have hii : i = N + 1 := by omega
      subst i
      rw [show ((N + 1 : Nat) : Int) = (N : Int) + 1 from rfl]
      have hq := HYes.out (fun a b ha hb => HJ.out a b (by omega) hb)
      clear HYes HNo HJ
      subst hq
      go_wp2
      go_ret
      exact ⟨rfl, below_nxt HW5.out HBW.out⟩
end Go.Proofs.Ytcheacapcjlioaa
