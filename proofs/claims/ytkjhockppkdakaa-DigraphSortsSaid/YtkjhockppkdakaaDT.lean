/- The law DigraphEither. -/
import Derived.Test.YtkjhockppkdakaaDR
namespace Dg
theorem ord_idx {n : Nat} {es : List (Nat × Nat)} (hF : (ordL n es).length = n) {i : Nat} (hi : i < n) : Go.Lib.idxOf (ci (ordL n es)) ((ordL n es).getD i 0 : Nat) = i := by
  have h := Go.Lib.idxOf_hit (ci (ordL n es)) n i ((ordL n es).getD i 0 : Nat) hi (by rw [ci_len]; omega) (ci_at _ _) (fun j hj => by
    rw [ci_at]
    intro e
    have := full_inj hF (i := j) (j := i) (by omega) hi (by omega)
    omega)
  rwa [List.take_of_length_le (by rw [ci_len]; omega)] at h
theorem ord_edge {n : Nat} {es : List (Nat × Nat)} (hE : Ok n es) (hF : (ordL n es).length = n) {a b : Nat} (he : (a, b) ∈ es) : ∃ p q : Nat, Go.Lib.idxOf (ci (ordL n es)) (a : Int) = p ∧ Go.Lib.idxOf (ci (ordL n es)) (b : Int) = q ∧ p < q ∧ q < n := by
  obtain ⟨j, hj, rfl⟩ := full_all hF (hE _ he).2
  obtain ⟨i, hi, rfl⟩ := full_pre hF hj he
  exact ⟨i, j, ord_idx hF (by omega), ord_idx hF hj, hi, hj⟩
theorem contains_no {l : List Nat} {i : Nat} (_ : i < l.length) (h : ∀ j, j < i → l.getD j 0 ≠ l.getD i 0) : ((ci l).take i).contains ((l.getD i 0 : Nat) : Int) = false := by
  rw [Bool.eq_false_iff]
  intro hc
  obtain ⟨j, hj, e⟩ := mem_getD 0 (List.contains_iff_mem.1 hc)
  rw [List.length_take] at hj
  rw [List.getD_eq_getElem?_getD, List.getElem?_take_of_lt (by omega), ← List.getD_eq_getElem?_getD, ci_at] at e
  exact h j (by omega) (by omega)
end Dg
namespace Go.Proofs.Ytkjhockppkdakaa
open Go.RowKit Go.Shelf

theorem SeesE.cells {w : World} {ao : Option Addr} {k cap : Nat} {E : List (Int × Int)} (h : SeesE w (.slice ao k cap) E) : CellsE w ao E := by
  obtain ⟨ao', cap', h1, _, _, h4⟩ := h
  simp only [Value.slice.injEq] at h1
  rw [h1.1]; exact h4
theorem cst_mem {a b : Nat} {es : List (Nat × Nat)} (h : (a, b) ∈ es) : ((a : Int), (b : Int)) ∈ Dg.cst es := List.mem_map.2 ⟨(a, b), h, rfl⟩
theorem dOrder_full (n : Nat) (es : List (Nat × Nat)) (v : Value) (w : World) (hE : Dg.Ok n es) (hn : n ≤ 256) (he : es.length ≤ 4096) (hF : (Dg.ordL n es).length = n) (hv : SeesE w v (Dg.cst es)) :
    Calls Try.prog 27 #[.agg #[.int .i64 n, v]] w fun e w' => ∃ u, e = .returned (.tuple #[u, .int .i64 0]) ∧ SeesI w' u (Dg.ci (Dg.ordL n es)) ∧ Below w.heap.size w w' :=
  (dOrder_ok n es v w hE hn he hv).mono (by
    rintro e w' ⟨hb, ⟨u, _, rfl, hs⟩ | ⟨hl, _⟩⟩
    · exact ⟨u, rfl, hs, hb⟩
    · omega)
theorem dOrder_ring (n : Nat) (es : List (Nat × Nat)) (v : Value) (w : World) (hE : Dg.Ok n es) (hn : n ≤ 256) (he : es.length ≤ 4096) (hF : (Dg.ordL n es).length ≠ n) (hv : SeesE w v (Dg.cst es)) :
    Calls Try.prog 27 #[.agg #[.int .i64 n, v]] w fun e w' => e = .returned (.tuple #[.slice none 0 0, .int .i64 20]) ∧ Below w.heap.size w w' :=
  (dOrder_ok n es v w hE hn he hv).mono (by
    rintro e w' ⟨hb, ⟨u, hl, _, _⟩ | ⟨_, rfl⟩⟩
    · exact absurd hl hF
    · exact ⟨rfl, hb⟩)
theorem dCyc_none (n : Nat) (es : List (Nat × Nat)) (v : Value) (w : World) (hE : Dg.Ok n es) (hn : n ≤ 16) (he : es.length ≤ 64) (hF : (Dg.ordL n es).length = n) (hv : SeesE w v (Dg.cst es)) :
    Calls Try.prog 25 #[.agg #[.int .i64 n, v]] w fun e w' => e = .returned (.tuple #[.slice none 0 0, .int .i64 6]) ∧ Below w.heap.size w w' :=
  (dCyc_ok n es v w hE hn he hv).mono (by
    rintro e w' ⟨hb, ⟨x, u, hx, _, ho, _⟩ | ⟨_, rfl⟩⟩
    · rw [(Dg.full_iff hE).1 hF x hx] at ho; cases ho
    · exact ⟨rfl, hb⟩)
theorem dCyc_some (n : Nat) (es : List (Nat × Nat)) (v : Value) (w : World) (hE : Dg.Ok n es) (hn : n ≤ 16) (he : es.length ≤ 64) (hF : (Dg.ordL n es).length ≠ n) (hv : SeesE w v (Dg.cst es)) :
    Calls Try.prog 25 #[.agg #[.int .i64 n, v]] w fun e w' => ∃ u x, e = .returned (.tuple #[u, .int .i64 0]) ∧ (x < n ∧ Dg.onC n es x = true ∧ ∀ y, y < x → Dg.onC n es y = false) ∧ SeesI w' u (Dg.ci (Dg.cyc n es x)) ∧ Below w.heap.size w w' :=
  (dCyc_ok n es v w hE hn he hv).mono (by
    rintro e w' ⟨hb, ⟨x, u, hx, hy, ho, rfl, hs⟩ | ⟨h, _⟩⟩
    · exact ⟨u, x, rfl, ⟨hx, ho, hy⟩, hs, hb⟩
    · exact absurd ((Dg.full_iff hE).2 h) hF)

set_option maxHeartbeats 4000000 in
set_option maxRecDepth 100000 in
theorem either_any (n : Int) (E : List (Int × Int)) (v : Value) (w : World) (hv : SeesE w v E) :
    Calls Try.prog 7 #[.agg #[.int .i64 n, v]] w fun e w' => e = .returned (.bool true) ∧ Below w.heap.size w w' := by
  have CF := fun W h => right_any n v E W h
  have SG := Lib.hid hv
  cases hr : Dg.rgt n E
  · obtain ⟨ao, cap, rfl⟩ := hv.slice
    skip
    obtain ⟨P, L0, z0⟩ := gph_new w n (.slice ao E.length cap) 24
    generalize hX : w.alloc (.cells #[.int .i64 n, .slice ao E.length cap] 24) = X at *
    obtain ⟨-, P1, P2⟩ := id P
    have HB := Lib.hid L0
    have SGq := Lib.hid (SG.out.step HB.out)
    clear SG
    have SG := SGq
    clear SGq hv L0 z0
    go_enter Try.func7, Try.ntmps7
    have hf : Dg.rgt n E = false := hr
    go_wp2_with fail
    refine (CF _ SG.out).mono ?_
    rintro e w1 ⟨rfl, hb⟩
    have HBq := Lib.hid (below_nxt HB.out hb)
    have SGq := Lib.hid (SG.out.step hb)
    have Pq := P.step hb
    clear HB SG P
    have HB := HBq
    have SG := SGq
    have P := Pq
    clear HBq SGq Pq
    clear P1 P2
    clear hb
    obtain ⟨-, P1, P2⟩ := id P
    clear CF hX
    rw [hf]
    go_wp2_with fail
    refine (awake_any _).mono ?_
    rintro e w2 ⟨rfl, hb⟩
    have HBq := Lib.hid (below_nxt HB.out hb)
    have SGq := Lib.hid (SG.out.step hb)
    have Pq := P.step hb
    clear HB SG P
    have HB := HBq
    have SG := SGq
    have P := Pq
    clear HBq SGq Pq
    clear P1 P2
    clear hb
    obtain ⟨-, P1, P2⟩ := id P
    go_wp2
    go_ret
    exact ⟨rfl, HB.out⟩
  · obtain ⟨m, es, rfl, hm, rfl, hl, hE⟩ := Dg.rgt_ok hr
    rw [hr] at CF
    have HE := Lib.hid hE
    by_cases hF : (Dg.ordL m es).length = m
    · obtain ⟨ao, cap, rfl⟩ := hv.slice
      rw [Dg.cst_len] at *
      obtain ⟨P, L0, z0⟩ := gph_new w m (.slice ao es.length cap) 24
      generalize hX : w.alloc (.cells #[.int .i64 m, .slice ao es.length cap] 24) = X at *
      obtain ⟨-, P1, P2⟩ := id P
      have HB := Lib.hid L0
      have SGq := Lib.hid (SG.out.step HB.out)
      clear SG
      have SG := SGq
      clear SGq hv L0 z0
      go_enter Try.func7, Try.ntmps7
      have HOE := Lib.hid (fun a b (he : (a, b) ∈ es) => Dg.ord_edge HE.out hF he)
      have HF := Lib.hid hF
      go_wp2_with fail
      refine (CF _ SG.out).mono ?_
      rintro e w1 ⟨rfl, hb⟩
      have HBq := Lib.hid (below_nxt HB.out hb)
      have SGq := Lib.hid (SG.out.step hb)
      have Pq := P.step hb
      clear HB SG P
      have HB := HBq
      have SG := SGq
      have P := Pq
      clear HBq SGq Pq
      clear P1 P2
      clear hb
      obtain ⟨-, P1, P2⟩ := id P
      clear CF hX
      go_wp2_with fail
      refine (dOrder_full m es _ _ HE.out (by omega) (by omega) HF.out SG.out).mono ?_
      rintro e w2 ⟨ul, rfl, hs, hb⟩
      have HBq := Lib.hid (below_nxt HB.out hb)
      have SGq := Lib.hid (SG.out.step hb)
      have Pq := P.step hb
      clear HB SG P
      have HB := HBq
      have SG := SGq
      have P := Pq
      clear HBq SGq Pq
      have SL := Lib.hid hs
      clear P1 P2
      clear hb hs
      obtain ⟨-, P1, P2⟩ := id P
      go_wp2_with fail
      refine (dCyc_none m es _ _ HE.out (by omega) (by omega) HF.out SG.out).mono ?_
      rintro e w3 ⟨rfl, hb⟩
      have HBq := Lib.hid (below_nxt HB.out hb)
      have SGq := Lib.hid (SG.out.step hb)
      have SLq := Lib.hid (SL.out.step hb)
      have Pq := P.step hb
      clear HB SG SL P
      have HB := HBq
      have SG := SGq
      have SL := SLq
      have P := Pq
      clear HBq SGq SLq Pq
      clear P1 P2
      clear hb
      obtain ⟨-, P1, P2⟩ := id P
      obtain ⟨al, cl, rfl, hcl1, hcl2, -⟩ := SL.out.opened
      simp only [Dg.ci_len, HF.out] at hcl1 SL ⊢
      have hCE := SG.out.cells
      obtain ⟨wo, hwo⟩ : ∃ wo, wo = w3 := ⟨_, rfl⟩
      subst hwo
      clear hE hF hr
      go_wp2
      go_loopw [82] (fun s82 wr => ∃ i : Nat, i ≤ es.length ∧ s82 = .int .i64 i ∧ Hid (Below wo.heap.size wo wr)) (fun s82 _ => es.length - (intOf s82).toNat)
      case atStart => exact ⟨0, Nat.zero_le _, rfl, Lib.hid (Below.refl _ _)⟩
      case round =>
        obtain ⟨i, hi, rfl, HB1⟩ := hrel
        by_cases hil : i < es.length
        · obtain ⟨g, off, rfl, hg, c1, c2⟩ := hCE.at HB1.out (i := i) (by rw [Dg.cst_len]; exact hil)
          rw [Dg.cst_at] at c1 c2
          obtain ⟨p, q, hp, hq, hpq, hqm⟩ := HOE.out (es.getD i (0, 0)).1 (es.getD i (0, 0)).2 (Dg.getD_mem (d := (0, 0)) hil)
          generalize es.getD i (0, 0) = y at *
          obtain ⟨PE, LE, zE⟩ := edg_new wr (y.1 : Int) (y.2 : Int) 60
          generalize hZ : wr.alloc (.cells #[.int .i64 (y.1 : Int), .int .i64 (y.2 : Int)] 60) = Z at *
          obtain ⟨-, e1, e2⟩ := id PE
          have HZ := Lib.hid (below_nxt HB1.out LE).drew
          have d1 : Z.drew.cell? ⟨wr.heap.size, 0, none⟩ = some (.int .i64 (y.1 : Int)) := e1
          have d2 : Z.drew.cell? ⟨wr.heap.size, 1, none⟩ = some (.int .i64 (y.2 : Int)) := e2
          have C1 := Lib.hid (sIdxI_any _ _ (y.1 : Int) Z.drew (by rw [Dg.ci_len, HF.out]; omega) (SL.out.step HZ.out))
          have C2 := Lib.hid (sIdxI_any _ _ (y.2 : Int) Z.drew (by rw [Dg.ci_len, HF.out]; omega) (SL.out.step HZ.out))
          rw [hp] at C1
          rw [hq] at C2
          have hp0 : ¬ ((p : Int) < 0) := by omega
          have hqp : ¬ ((q : Int) ≤ (p : Int)) := by omega
          clear LE zE PE hp hq HOE
          go_wp2_with fail
          go_region_held3 (fun W => W.cell? ⟨wr.heap.size, 0, none⟩ = some (.int .i64 (y.1 : Int)) ∧ W.cell? ⟨wr.heap.size, 1, none⟩ = some (.int .i64 (y.2 : Int)))
            (first | (refine ⟨?_, ?_⟩ <;> with_reducible assumption) | (go_split_ands; refine ⟨?_, ?_⟩ <;> with_reducible assumption))
            (first | (go_at_call 39; (with_reducible refine (C1.out).mono ?_); rintro e w9 ⟨rfl, rfl⟩) | (go_at_call 39; (with_reducible refine (C2.out).mono ?_); rintro e w9 ⟨rfl, rfl⟩))
          go_wp2
          go_roundw
          case rel => exact ⟨i + 1, by omega, by first | rfl | go_num, HZ⟩
          case measure => simp [intOf]; omega
        · obtain rfl : i = es.length := by omega
          have HB2 := Lib.hid (below_nxt HB.out HB1.out)
          go_wp2_with fail
          refine (awake_any _).mono ?_
          rintro e w9 ⟨rfl, hb⟩
          have HB9 := Lib.hid (below_nxt HB2.out hb)
          clear hb
          go_wp2
          go_ret
          exact ⟨rfl, HB9.out⟩
    · obtain ⟨ao, cap, rfl⟩ := hv.slice
      rw [Dg.cst_len] at *
      obtain ⟨P, L0, z0⟩ := gph_new w m (.slice ao es.length cap) 24
      generalize hX : w.alloc (.cells #[.int .i64 m, .slice ao es.length cap] 24) = X at *
      obtain ⟨-, P1, P2⟩ := id P
      have HB := Lib.hid L0
      have SGq := Lib.hid (SG.out.step HB.out)
      clear SG
      have SG := SGq
      clear SGq hv L0 z0
      go_enter Try.func7, Try.ntmps7
      have HF := Lib.hid hF
      go_wp2_with fail
      refine (CF _ SG.out).mono ?_
      rintro e w1 ⟨rfl, hb⟩
      have HBq := Lib.hid (below_nxt HB.out hb)
      have SGq := Lib.hid (SG.out.step hb)
      have Pq := P.step hb
      clear HB SG P
      have HB := HBq
      have SG := SGq
      have P := Pq
      clear HBq SGq Pq
      clear P1 P2
      clear hb
      obtain ⟨-, P1, P2⟩ := id P
      clear CF hX
      go_wp2_with fail
      refine (dOrder_ring m es _ _ HE.out (by omega) (by omega) HF.out SG.out).mono ?_
      rintro e w2 ⟨rfl, hb⟩
      have HBq := Lib.hid (below_nxt HB.out hb)
      have SGq := Lib.hid (SG.out.step hb)
      have Pq := P.step hb
      clear HB SG P
      have HB := HBq
      have SG := SGq
      have P := Pq
      clear HBq SGq Pq
      clear P1 P2
      clear hb
      obtain ⟨-, P1, P2⟩ := id P
      go_wp2_with fail
      refine (dCyc_some m es _ _ HE.out (by omega) (by omega) HF.out SG.out).mono ?_
      rintro e w3 ⟨uc, x, rfl, ⟨hx, hox, -⟩, hs, hb⟩
      have HBq := Lib.hid (below_nxt HB.out hb)
      have SGq := Lib.hid (SG.out.step hb)
      have Pq := P.step hb
      clear HB SG P
      have HB := HBq
      have SG := SGq
      have P := Pq
      clear HBq SGq Pq
      have SC := Lib.hid hs
      clear P1 P2
      clear hb hs
      obtain ⟨-, P1, P2⟩ := id P
      obtain ⟨K, hK0, hKm, hlen, hedge, hne⟩ : ∃ K, 0 < K ∧ K ≤ m ∧ (Dg.cyc m es x).length = K ∧ (∀ i, i < K → ((Dg.cyc m es x).getD i 0, (Dg.cyc m es x).getD ((i + 1) % K) 0) ∈ es) ∧ ∀ i j, i < j → j < K → (Dg.cyc m es x).getD i 0 ≠ (Dg.cyc m es x).getD j 0 := by
        obtain ⟨k, hk, hlen, hlt, hedge, hne⟩ := Dg.cyc_spec HE.out hx hox
        exact ⟨k + 1, by omega, by omega, hlen, fun i hi => hedge i (by omega), fun i j hij hj => hne i j hij (by omega)⟩
      obtain ⟨ac, cc, rfl, hcc1, hcc2, hCc⟩ := SC.out.opened
      simp only [Dg.ci_len, hlen] at hcc1 SC ⊢
      have HLEN := Lib.hid hlen
      clear hlen
      obtain ⟨wo, hwo⟩ : ∃ wo, wo = w3 := ⟨_, rfl⟩
      subst hwo
      have hK1 : ¬ ((K : Int) = 0) := by omega
      have hK2 : ((K : Int) == 0) = false := by simp; omega
      have hK3 : ¬ K = 0 := by omega
      clear hE hF hr HF hox
      go_wp2
      go_loopw [38] (fun s38 wr => ∃ i : Nat, i ≤ K ∧ s38 = .int .i64 i ∧ Hid (Below wo.heap.size wo wr)) (fun s38 _ => K - (intOf s38).toNat)
      case atStart => exact ⟨0, Nat.zero_le _, rfl, Lib.hid (Below.refl _ _)⟩
      case round =>
        obtain ⟨i, hi, rfl, HB1⟩ := hrel
        by_cases hil : i < K
        · have hj : (i + 1) % (K) < K := Nat.mod_lt _ (by omega)
          obtain ⟨b, off, rfl, hb, c1⟩ := hCc.at HB1.out (i := i) (by rw [Dg.ci_len, HLEN.out]; exact hil)
          obtain ⟨b', off', he', -, c2⟩ := hCc.at HB1.out (i := (i + 1) % (K)) (by rw [Dg.ci_len, HLEN.out]; exact hj)
          simp only [Option.some.injEq, Addr.mk.injEq, and_true] at he'
          obtain ⟨rfl, rfl⟩ := he'
          rw [Dg.ci_at] at c1 c2
          have HD := Lib.hid HB1.out.drew
          have hpre := (SC.out.step HD.out)
          have hpre2 : SeesI wr.drew (.slice (some ⟨b, off, none⟩) i cc) ((Dg.ci (Dg.cyc m es x)).take i) := SeesI.pre (by rw [Dg.ci_len, HLEN.out]; exact hpre) (by rw [Dg.ci_len, HLEN.out]; omega)
          have C1 := Lib.hid (sConI_any _ _ ((Dg.cyc m es x).getD i 0 : Nat) wr.drew (by rw [List.length_take, Dg.ci_len, HLEN.out]; omega) hpre2)
          rw [Dg.contains_no (by rw [HLEN.out]; exact hil) (fun j hj => hne j i hj hil)] at C1
          have C2 := Lib.hid (sConE_mem _ _ (((Dg.cyc m es x).getD i 0 : Nat), ((Dg.cyc m es x).getD ((i + 1) % (K)) 0 : Nat)) wr.drew (SG.out.step HD.out) (cst_mem (hedge i hil)))
          have hrem : Int.tmod ((i : Int) + 1) (K : Int) = (((i + 1) % (K) : Nat) : Int) := by
            rw [Int.tmod_eq_emod_of_nonneg (by omega)]; norm_cast
          have g1 : wr.drew.cell? ⟨w.heap.size, 1, none⟩ = some (.slice ao es.length cap) := (P.step HD.out).2.2
          have HP := Lib.hid (P.step HD.out)
          have g2 : wr.drew.cell? ⟨b, off + (i + 1) % (K), none⟩ = some (.int .i64 ((Dg.cyc m es x).getD ((i + 1) % (K)) 0 : Nat)) := c2
          have HC := Lib.hid hCc
          have hic : (i : Int) ≤ (cc : Int) := by omega
          clear hpre hpre2 hne hedge hCc
          generalize (Dg.cyc m es x).getD i 0 = y at *
          generalize (Dg.cyc m es x).getD ((i + 1) % (K)) 0 = z at *
          generalize hj0 : (i + 1) % K = j at *
          have hrem2 : ((i : Int) + 1) % (K : Int) = (j : Int) := by rw [← hj0]; norm_cast
          have hwr : IntKind.i64.wrap ((i : Int) + 1) = (i : Int) + 1 := by rw [IntKind.wrap_i64]; omega
          go_wp2_with fail
          go_region_held3 (fun W => W.cell? ⟨w.heap.size, 1, none⟩ = some (.slice ao es.length cap) ∧ W.cell? ⟨b, off + j, none⟩ = some (.int .i64 (z : Nat)))
            (first | (refine ⟨?_, ?_⟩ <;> with_reducible assumption) | (go_split_ands; refine ⟨?_, ?_⟩ <;> with_reducible assumption))
            (first | (go_at_call 37; (with_reducible refine (C1.out).mono ?_); rintro e w9 ⟨rfl, rfl⟩) | (go_at_call 38; (with_reducible refine (C2.out).mono ?_); rintro e w9 ⟨rfl, hb9⟩; have HB9 := Lib.hid (below_nxt HD.out hb9); have k1 := (HP.out.step hb9).2.2; have k2 := (HB9.out.cell (p := ⟨b, off + j, none⟩) hb).trans ((HB1.out.cell (p := ⟨b, off + j, none⟩) hb).symm.trans c2); clear hb9))
          go_wp2
          go_roundw
          case rel => exact ⟨i + 1, by omega, by first | rfl | go_num, HB9⟩
          case measure => simp [intOf]; omega
        · obtain rfl : i = K := by omega
          have HB2 := Lib.hid (below_nxt HB.out HB1.out)
          go_wp2_with fail
          refine (awake_any _).mono ?_
          rintro e w9 ⟨rfl, hb⟩
          have HB9 := Lib.hid (below_nxt HB2.out hb)
          clear hb
          go_wp2
          go_ret
          exact ⟨rfl, HB9.out⟩
end Go.Proofs.Ytkjhockppkdakaa
