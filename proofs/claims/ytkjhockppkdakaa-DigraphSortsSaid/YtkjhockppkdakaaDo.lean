/- Cycle of package digraph. -/
import Derived.Test.YtkjhockppkdakaaDn
namespace Dg
/-- Whether a vertex lies on a cycle, as the program finds it. -/
def onC (n : Nat) (es : List (Nat × Nat)) (v : Nat) : Bool := (near (distL n (rv es) v) (nb es v)).2
/-- The cycle from a vertex. -/
def cyc (n : Nat) (es : List (Nat × Nat)) (v : Nat) : List Nat := v :: (pth n es v (nx n es v v) (dt n es v (nx n es v v)).toNat).take (dt n es v (nx n es v v)).toNat
end Dg
namespace Go.Proofs.Ytkjhockppkdakaa
open Go.RowKit Go.Shelf

theorem SeesI.take {w : World} {ao : Option Addr} {len cap : Nat} {l : List Int} (h : SeesI w (.slice ao len cap) l) {m : Nat} (hm : m ≤ l.length) : SeesI w (.slice ao m cap) (l.take m) := by
  rcases h with ⟨h1, rfl⟩ | ⟨b, off, c, h1, h2, h3, h4, h5⟩
  · obtain rfl : m = 0 := by simpa using hm
    cases h1
    exact .inl ⟨rfl, rfl⟩
  · simp only [Value.slice.injEq] at h1
    obtain ⟨rfl, rfl, rfl⟩ := h1
    have hl : (l.take m).length = m := by simp; omega
    refine .inr ⟨b, off, cap, by rw [hl], by omega, h3, h4, fun i hi => ?_⟩
    rw [h5 i (by omega)]
    rw [hl] at hi
    congr 2
    simp [List.getD_eq_getElem?_getD, hi]

theorem SeesI.cap {w : World} {ao : Option Addr} {len cap : Nat} {l : List Int} (h : SeesI w (.slice ao len cap) l) : len ≤ cap := by
  obtain ⟨a, c, h1, h2, _⟩ := h.opened
  simp only [Value.slice.injEq] at h1
  obtain ⟨_, rfl, rfl⟩ := h1
  exact h2

set_option maxHeartbeats 4000000 in
set_option maxRecDepth 100000 in
theorem dCyc_ok (n : Nat) (es : List (Nat × Nat)) (v : Value) (w : World) (hE : Dg.Ok n es) (hn : n ≤ 16) (he : es.length ≤ 64) (hv : SeesE w v (Dg.cst es)) :
    Calls Try.prog 25 #[.agg #[.int .i64 n, v]] w fun e w' => Below w.heap.size w w' ∧ ((∃ x u, x < n ∧ (∀ y, y < x → Dg.onC n es y = false) ∧ Dg.onC n es x = true ∧ e = .returned (.tuple #[u, .int .i64 0]) ∧ SeesI w' u (Dg.ci (Dg.cyc n es x))) ∨ ((∀ y, y < n → Dg.onC n es y = false) ∧ e = .returned (.tuple #[.slice none 0 0, .int .i64 6]))) := by
  have CK := fun W h => Lib.hid (dChk_any n v (Dg.cst es) W h)
  rw [Dg.ok_chk (by omega) (by omega) hE] at CK
  have CR := fun W h => Lib.hid (dRev_any n v (Dg.cst es) W (by rw [Dg.cst_len]; omega) h)
  rw [Dg.swp_cst] at CR
  have CN := fun W h => Lib.hid (dNb_any n v es W (by omega) (by omega) hE h)
  have CNr := fun rv W h => Lib.hid (dNb_any n rv (Dg.rv es) W (by omega) (by rw [Dg.rv_len]; omega) (Dg.rv_ok hE) h)
  have HV := Lib.hid hv
  obtain ⟨ao, cap, rfl⟩ := hv.slice
  obtain ⟨P0, L0, z0⟩ := gph_new w n (.slice ao (Dg.cst es).length cap) 24
  generalize hX : w.alloc (.cells #[.int .i64 n, .slice ao (Dg.cst es).length cap] 24) = X at *
  obtain ⟨p0, p1, p2⟩ := id P0
  have HL := Lib.hid L0
  have hzX : w.heap.size < X.heap.size := p0
  clear hv L0 z0
  go_enter Try.func25, Try.ntmps25
  go_wp2_with fail
  refine ((CK _ (HV.out.step HL.out)).out).mono ?_
  rintro e w1 ⟨rfl, hb⟩
  have HB1 := Lib.hid (below_nxt HL.out hb)
  have P1 := P0.step hb
  obtain ⟨p0', q1, q2⟩ := id P1
  have HD := Lib.hid (HB1.out.drew)
  have g1 : w1.drew.cell? ⟨w.heap.size, 0, none⟩ = some (.int .i64 n) := q1
  have g2 : w1.drew.cell? ⟨w.heap.size, 1, none⟩ = some (.slice ao (Dg.cst es).length cap) := q2
  clear hb p1 p2 p0
  go_wp2_with fail
  go_region_held3 (fun W => W.cell? ⟨w.heap.size, 0, none⟩ = some (.int .i64 n) ∧ W.cell? ⟨w.heap.size, 1, none⟩ = some (.slice ao (Dg.cst es).length cap))
    (first | (refine ⟨?_, ?_⟩ <;> with_reducible assumption) | (go_split_ands; refine ⟨?_, ?_⟩ <;> with_reducible assumption))
    (first
      | (go_at_call 50; (with_reducible refine ((CR _ (HV.out.step HB2.out)).out).mono ?_); rintro e w3 ⟨rv, rfl, hs3, hb⟩; have HB3 := Lib.hid (below_nxt HB2.out hb); have HSr := Lib.hid hs3; have HS3 := Lib.hid (HS2.out.step hb); have k3 := (hb.cell (p := ⟨w.heap.size, 0, none⟩) hz2).trans k1; have k4 := (hb.cell (p := ⟨w.heap.size, 1, none⟩) hz2).trans k2; have hz3 := Nat.lt_of_lt_of_le hz2 hb.size; clear hb hs3)
      | (go_at_call 47; (with_reducible refine ((CNr _ _ HSr.out).out).mono ?_); rintro e w4 ⟨bv, rfl, hs4, hb⟩; have HB4 := Lib.hid (below_nxt HB3.out hb); have HSb := Lib.hid hs4; have HS4 := Lib.hid (HS3.out.step hb); have k5 := (hb.cell (p := ⟨w.heap.size, 0, none⟩) hz3).trans k3; have k6 := (hb.cell (p := ⟨w.heap.size, 1, none⟩) hz3).trans k4; have hz4 := Nat.lt_of_lt_of_le hz3 hb.size; clear hb hs4)
      | (go_at_call 47; (with_reducible refine ((CN _ (HV.out.step HD.out)).out).mono ?_); rintro e w2 ⟨nv, rfl, hs2, hb⟩; have HB2 := Lib.hid (below_nxt HD.out hb); have HS2 := Lib.hid hs2; have k1 := (hb.cell (p := ⟨w.heap.size, 0, none⟩) p0').trans g1; have k2 := (hb.cell (p := ⟨w.heap.size, 1, none⟩) p0').trans g2; have hz2 : w.heap.size < w2.heap.size := Nat.lt_of_lt_of_le (show w.heap.size < w1.drew.heap.size from p0') hb.size; clear hb hs2))
  have HN := HS4
  obtain ⟨N, cn, rfl, hcn1, hcn2, hNlt, hNc⟩ := HS4.out
  rw [Dg.nbL_len] at *
  have HNC := Lib.hid hNc
  clear hNc k1 k2 k3 k4 g1 g2 q1 q2 p0' hz2 hz3 HS2 HS3 CR CN CNr CK P0 P1
  have HE := Lib.hid hE
  obtain ⟨i0, hi0, hz0, hz1, hz2⟩ := info_int
  clear k5 k6 hE
  go_wp2
  go_loopw [24] (fun s24 wr => ∃ j : Nat, j ≤ n ∧ s24 = .int .i64 j ∧ Hid (∀ y, y < j → Dg.onC n es y = false) ∧ Hid (Below w4.heap.size w4 wr)) (fun s24 _ => n - (intOf s24).toNat)
  case atStart => exact ⟨0, Nat.zero_le _, rfl, Lib.hid (fun y hy => absurd hy (Nat.not_lt_zero y)), Lib.hid (Below.refl _ _)⟩
  case round =>
    obtain ⟨j, hj, rfl, HY, HB⟩ := hrel
    by_cases hjn : j < n
    · have CD := Lib.hid (dDists_any n (Dg.rv es) j bv wr (Dg.rv_ok HE.out) hjn hn (by rw [Dg.rv_len]; omega) (HSb.out.step HB.out))
      obtain ⟨uv, n1, n2⟩ := HNC.out _ hjn
      rw [Dg.nbL_at es hjn] at n2
      have N2 := Lib.hid n2
      have N1 := Lib.hid n1
      clear n1 n2
      go_wp2_with fail
      refine CD.out.mono ?_
      rintro e w5 ⟨lv, rfl, hs5, hb⟩
      have HB5 := Lib.hid (below_nxt HB.out hb)
      have HS5 := Lib.hid hs5
      have n3 := (HB5.out.cell (p := ⟨N, j, none⟩) hNlt).trans N1.out
      have CX := Lib.hid (dNear_any n (Dg.nb es j) (Dg.distL n (Dg.rv es) j) uv lv w5 (by omega) (Dg.nb_ok HE.out j) Dg.distL_len (fun x hx => by rw [Dg.distL_at hx]; exact Dg.dist_ge) (N2.out.step HB5.out) HS5.out)
      have HOC : Hid ((Dg.near (Dg.distL n (Dg.rv es) j) (Dg.nb es j)).2 = Dg.onC n es j) := Lib.hid rfl
      rw [HOC.out] at CX
      have HNO := Lib.hid (Dg.near_ok (t := j) HE.out j)
      rw [HOC.out] at HNO
      clear hb hs5 CD
      generalize hb1 : (Dg.near (Dg.distL n (Dg.rv es) j) (Dg.nb es j)).1 = b1 at *
      cases hoc : Dg.onC n es j
      · rw [hoc] at CX
        have HJ : Hid (Dg.onC n es j = false) := Lib.hid hoc
        clear HNO hb1 HOC hoc
        go_wp2_with fail
        refine CX.out.mono ?_
        rintro e w6 ⟨rfl, hb⟩
        have HB6 := Lib.hid (below_nxt HB5.out hb)
        clear hb CX n3
        go_wp2
        exact ⟨⟨j + 1, by omega, by first | rfl | go_num, Lib.hid (fun y hy => by rcases Nat.lt_or_ge y j with h | h; exact HY.out y h; exact (show y = j by omega) ▸ HJ.out), HB6⟩, by simp [intOf]; omega⟩
      · rw [hoc] at CX HNO
        obtain ⟨h1, h2, h3, h4, -, -⟩ := HNO.out rfl
        obtain ⟨k, hk⟩ : ∃ k : Nat, Dg.dt n es j (Dg.nx n es j j) = k := ⟨_, (Int.toNat_of_nonneg h4).symm⟩
        have hkn : k < n := by
          have := Dg.dist_lt (n := n) (E := Dg.rv es) (s := j) hjn (v := Dg.nx n es j j)
          unfold Dg.dt at hk; omega
        have CDe := fun W hA hB => Lib.hid (dDesc_any n es j (Dg.nx n es j j) k (.slice (some ⟨N, 0, none⟩) n cn) lv W HE.out hjn (by omega) h2 hk hA hB)
        have HCY : Hid (Dg.cyc n es j = j :: (Dg.pth n es j (Dg.nx n es j j) k).take k) := Lib.hid (by unfold Dg.cyc; rw [hk, Int.toNat_natCast])
        have HPL := Lib.hid (Dg.pth_len n es j (Dg.nx n es j j) k)
        have HJ : Hid (Dg.onC n es j = true) := Lib.hid hoc
        clear hb1
        subst h3
        clear HNO HOC h1 h4 hk hoc
        generalize Dg.nx n es j j = x at *
        go_wp2_with fail
        refine CX.out.mono ?_
        rintro e w6 ⟨rfl, hb⟩
        have HB6 := Lib.hid (below_nxt HB5.out hb)
        have HS6 := Lib.hid (HS5.out.step hb)
        clear hb CX n3
        go_wp2_with fail
        have BX := fun (W : World) (o : Obj) => (Below.refl W.heap.size W).alloc (Nat.le_refl _) o
        have HB6w := Lib.hid (HB4.out.trans (HB6.out.mono HB4.out.size))
        refine ((CDe _ ((HN.out.step HB6.out).step (BX _ _)) (HS6.out.step (BX _ _))).out).mono ?_
        rintro e w7 ⟨u, rfl, hu7, hb⟩
        have HU7 := Lib.hid hu7.sees
        obtain ⟨ua, uc, rfl⟩ := hu7.form
        have HR7 := Lib.hid ((RowI.one w.heap.size 3 w6 HB6w.out.size (j : Int)).step hb)
        have HB7 := Lib.hid (below_box HB6w.out hb)
        have HLEN := Lib.hid (show (Dg.ci (Dg.pth n es j x k)).length = k + 1 by rw [Dg.ci_len, HPL.out])
        clear hu7 hb CDe HPL
        go_wp2_with (at_builtin; refine wpList_append_int rfl _ _ 27 rfl 3 i0 Try.underlying27 hi0 hz0 hz1 hz2 _ _ [(j : Int)] (Dg.ci (Dg.pth n es j x k)) rfl rfl w.heap.size HR7.out HU7.out (by rw [HLEN.out]; simp; omega) HB7.out.size ?_; intro a5 p5 w8 hr5 hg5 ho5; have HB8 := Lib.hid (HB7.out.trans (RowI.belowOwn (C := w.heap.size) HR7.out hg5 HB7.out.size (Nat.le_refl _))); rw [show [(j : Int)].length + (Dg.ci (Dg.pth n es j x k)).length = k + 2 by rw [HLEN.out]; simp; omega] at *; have HR8 := Lib.hid hr5.sees; have hcap8 : k + 2 ≤ p5 := hr5.sees.cap; clear hr5 hg5 ho5)
        exact bodyPost_ret (v := .tuple #[.slice a5 (k + 1) p5, .int .i64 0]) (by simp [results, Try.results25, go_sem]) rfl ⟨HB8.out, .inl ⟨j, _, hjn, HY.out, HJ.out, rfl, by
          have h8 := HR8.out.take (m := k + 1) (by rw [List.length_append, HLEN.out]; simp)
          rw [HCY.out]
          have he : ([(j : Int)] ++ Dg.ci (Dg.pth n es j x k)).take (k + 1) = Dg.ci (j :: (Dg.pth n es j x k).take k) := by simp [Dg.ci]
          rw [he] at h8
          exact h8⟩⟩
    · go_wp2
      exact bodyPost_ret (v := .tuple #[.slice none 0 0, .int .i64 6]) (by simp [results, Try.results25, go_sem]) rfl ⟨HB4.out.trans (HB.out.mono HB4.out.size), .inr ⟨fun y hy => HY.out y (by omega), rfl⟩⟩
end Go.Proofs.Ytkjhockppkdakaa
