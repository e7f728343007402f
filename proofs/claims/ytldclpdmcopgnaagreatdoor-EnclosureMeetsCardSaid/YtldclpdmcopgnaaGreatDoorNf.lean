/- The contract of the division of natural numbers in package fraction. The contract of the greatest common divisor of natural numbers in package fraction. -/
import Derived.Test.YtldclpdmcopgnaaGreatDoorNd
import Derived.Deep.LoopGhost
namespace Go.Proofs.YtldclpdmcopgnaaGreatDoor
open Go.RowKit

theorem sees_one {k : IntKind} {w : World} (x : Nat) (T : TypeId) : Sees k (w.alloc (.cells #[.int k ((x : Nat) : Int)] T)) (.slice (some ⟨w.heap.size, 0, none⟩) 1 1) [x] := by
  refine .inr ⟨w.heap.size, 0, 1, rfl, Nat.le_refl _, by unfold maxLen; omega, by simp, fun i hi => ?_⟩
  have hi0 : i = 0 := by simpa using hi
  subst hi0
  simp

theorem addr_add (b off z : Nat) : (⟨b, off, none⟩ : Addr).add z = ⟨b, off + z, none⟩ := by unfold Addr.add; split <;> simp_all

theorem IsNat.cut {k : IntKind} {w : World} {v : Value} {n m c : Nat} (h : IsNat k 1000000000 w v n m) (hn : n < 1000000000 ^ c) : IsNat k 1000000000 w v n c := by
  obtain ⟨l, h1, h2, h3, h4⟩ := h
  exact ⟨l, h1, h2, h3, Limb.len_le (by omega) h2 (by rw [h3]; exact hn)⟩
theorem rest_lt {l v e q : Nat} (hv : 0 < v) (he : e = q) (hq : l / v = q) : l - v * e < v := by
  subst he
  subst hq
  have h1 := Nat.div_add_mod l v
  have h2 := Nat.mod_lt l hv
  omega
theorem rest_mod (m n : Nat) : m - m / n * n = m % n := by
  have h1 := Nat.div_add_mod m n
  rw [Nat.mul_comm] at h1
  omega
theorem quot_scale {d v m n sc : Nat} (hs : 0 < sc) (hd : d = m * sc) (hv : v = n * sc) : d / v = m / n := by rw [hd, hv, Nat.mul_div_mul_right _ _ hs]

theorem Sees.put {k : IntKind} {w : World} {v : Value} {l : List Nat} (h : Sees k w v l) {g i : Nat} (hg : v.ownBlock ≠ some g) (u : Value) : Sees k (w.setCell ⟨g, i, none⟩ u) v l := by
  rcases h with h | ⟨b, off, cap, rfl, h1, h2, h3, h4⟩
  · exact .inl h
  · refine .inr ⟨b, off, cap, rfl, h1, h2, by simpa [World.setCell] using h3, fun j hj => ?_⟩
    rw [← h4 j hj]
    exact World.cell?_of_block (Below.heap_setCell _ _ _ _ (fun e => hg (by simp [Value.ownBlock]; exact e)))
theorem IsNat.put {k : IntKind} {B : Nat} {w : World} {v : Value} {n m : Nat} (h : IsNat k B w v n m) {g i : Nat} (hg : v.ownBlock ≠ some g) (u : Value) : IsNat k B (w.setCell ⟨g, i, none⟩ u) v n m := by
  obtain ⟨l, h1, h2⟩ := h
  exact ⟨l, h1.put hg u, h2⟩

theorem order_nat {u v : Value} {m n p q : Nat} {w : World} (hu : IsNat .u32 1000000000 w u m p) (hv : IsNat .u32 1000000000 w v n q) {c : Int} (hc : Limb.cmpN m n = c) :
    Calls Tryz.prog 118 #[u, v] w fun e w' => e = .returned (.int .i64 c) ∧ ∃ n, w' = w.drewN n := by
  obtain ⟨a, sa, na, ea, la⟩ := hu
  obtain ⟨b, sb, nb, eb, lb⟩ := hv
  have h := order_any u v a b w sa sb na nb
  rw [ea, eb, hc] at h
  exact h
theorem times_one {v : Value} {b : List Nat} {w w' : World} {x : Nat} {y : Value} (sb : Sees .u32 w v b) (hb : Below w.heap.size w w') (nb : Limb.small 1000000000 b) (lb : b.length ≤ 900) (hx : x < 1000000000) (sy : Sees .u32 w' y [x]) :
    Calls Tryz.prog 153 #[v, y] w' fun e w'' => ∃ r, e = .returned r ∧ Below w'.heap.size w' w'' ∧ IsNat .u32 1000000000 w'' r (Limb.val 1000000000 b * x) (b.length + 1) := by
  have h := times_any v y b [x] w' (sb.below hb (Nat.le_refl _)) sy nb (fun z hz => by rw [List.mem_singleton.1 hz]; exact hx) (by omega) (by simp)
  simpa only [Limb.val_cons, Limb.val_nil, Nat.mul_zero, Nat.add_zero, List.length_cons, List.length_nil, Nat.zero_add] using h

set_option maxRecDepth 100000 in
set_option maxHeartbeats 2000000 in
theorem over_own (u v : Value) (m n p q : Nat) (w : World) (hu : IsNat .u32 1000000000 w u m p) (hv : IsNat .u32 1000000000 w v n q) (hp : p ≤ 400) (hq : q ≤ 400) (hn : 0 < n) :
    Calls Tryz.prog 142 #[u, v] w fun e w' => ∃ r s, e = .returned (.tuple #[r, s]) ∧ Below w.heap.size w w' ∧ IsNat .u32 1000000000 w' r (m / n) (p + 1) ∧ IsNat .u32 1000000000 w' s (m % n) p ∧ ∃ g, r.ownBlock = some g ∧ w.heap.size ≤ g := by
  obtain ⟨a, sa, na, ea, la⟩ := hu
  obtain ⟨b, sb, nb, eb, lb⟩ := hv
  have hbl : 0 < b.length := by rw [← Limb.norm_pos (B := 1000000000) (by omega) nb, eb]; exact hn
  obtain ⟨bo, cb, rfl, b1, b2, _⟩ := sb.opened
  have hd0 := nb.2 hbl
  have hd1 := Limb.small_getD (by omega) nb.1 (b.length - 1)
  obtain ⟨d, hd⟩ : ∃ d, b.getD (b.length - 1) 0 = d := ⟨_, rfl⟩
  have C0 := fun (i : Int) (h : i = ((b.length - 1 : Nat) : Int)) => Lib.hid (show Calls Tryz.prog 157 #[.slice bo b.length cb, .int .i64 i] w fun e w' => e = .returned (.int .u64 d) ∧ w = w' by rw [h]; exact at_lim _ sb nb.1 hd)
  rw [hd] at hd0 hd1
  obtain ⟨sc, hsc⟩ : ∃ sc, 1000000000 / (d + 1) = sc := ⟨_, rfl⟩
  have hsi : (1000000000 : Int) / ((d : Int) + 1) = (sc : Int) := by rw [← hsc]; simp
  have hs0 : 0 < sc := by rw [← hsc]; exact Nat.div_pos (by omega) (by omega)
  have hs1 : sc < 1000000000 := by rw [← hsc]; exact Nat.div_lt_self (by omega) (by omega)
  have HSI := Lib.hid hsi
  have h1s : 0 < (1000000000 : Int) / ((d : Int) + 1) := by rw [hsi]; omega
  have h2s : (1000000000 : Int) / ((d : Int) + 1) < 1000000000 := by rw [hsi]; omega
  have S1 : Sees .u32 (w.alloc (.cells #[.int .u32 (1000000000 / ((d : Int) + 1))] 142)) (.slice (some ⟨w.heap.size, 0, none⟩) 1 1) [sc] := by rw [hsi]; exact (Row.one 0 _ _ _ (Nat.zero_le _) sc _ rfl).sees
  have hw1 : Below w.heap.size w (w.alloc (.cells #[.int .u32 (1000000000 / ((d : Int) + 1))] 142)) := (Below.refl _ _).alloc (Nat.le_refl _) _
  have hsm : Limb.small 1000000000 [sc] := fun x hx => by rw [List.mem_singleton.1 hx]; exact hs1
  have T1 := Lib.hid (times_any u _ a [sc] _ (sa.below hw1 (Nat.le_refl _)) S1 na.1 hsm (by omega) (by simp))
  clear hd hsi hsc
  go_enter Tryz.func142, Tryz.ntmps142
  go_wp2_with (first
    | (go_at_call 156; refine (base_any _).mono ?_; rintro e w' ⟨rfl, rfl⟩)
    | (go_at_call 157; refine ((C0 _ (by omega)).out).mono ?_; rintro e w' ⟨rfl, rfl⟩))
  refine (T1.out).mono ?_
  rintro e w2 ⟨D, rfl, hb2, hD⟩
  have hb2' : Below w.heap.size w w2 := hw1.trans (hb2.mono (by simp))
  have T2 := Lib.hid (times_any (.slice bo b.length cb) _ b [sc] w2 (sb.below hb2' (Nat.le_refl _)) (S1.below hb2 (Nat.le_refl _)) nb.1 hsm (by omega) (by simp))
  go_wp2_with fail
  refine (T2.out).mono ?_
  rintro e w3 ⟨V, rfl, hb3, hV⟩
  have hb3' : Below w.heap.size w w3 := hb2'.trans (hb3.mono hb2'.size)
  have hD3 := hD.below hb3 (Nat.le_refl _)
  clear T1 T2 hD S1 hb2 hb2' hb3 hw1 h1s h2s HSI C0
  obtain ⟨dl, sD, nD, eD, lD⟩ := hD3
  obtain ⟨vl, sV, nV, eV, lV⟩ := hV
  simp only [Limb.val_cons, Limb.val_nil, Nat.mul_zero, Nat.add_zero, List.length_cons, List.length_nil] at eD eV lD lV
  obtain ⟨ao, ca, rfl, a1, a2, CD⟩ := sD.opened
  obtain ⟨vo, cv, rfl, c1, c2, CV⟩ := sV.opened
  have hvl : 0 < vl.length := by
    rw [← Limb.norm_pos (B := 1000000000) (by omega) nV, eV, eb]
    exact Nat.mul_pos hn hs0
  have HD := Lib.hid eD
  have HV := Lib.hid eV
  have HA := Lib.hid ea
  have HB := Lib.hid eb
  have SD := Lib.hid sD
  have SV := Lib.hid sV
  have SA := Lib.hid (sa.below hb3' (Nat.le_refl _))
  have SB := Lib.hid (sb.below hb3' (Nat.le_refl _))
  clear eD eV ea eb sD sV sa sb
  obtain ⟨P, hP⟩ : ∃ P, P = dl.length + 1 - vl.length := ⟨_, rfl⟩
  obtain ⟨i0, hi, hz0, hz1, hz2⟩ := info_parts Tryz.infoU32
  have h1P : dl.length + 1 ≤ P + vl.length := by omega
  have h2P : P ≤ dl.length := by omega
  have HP := Lib.hid hP
  clear hP
  have hst : ∀ s : List Nat, s.length = P → Limb.val 1000000000 (dl.drop P) < Limb.val 1000000000 vl ∧ Limb.val 1000000000 (dl.drop P) = Limb.val 1000000000 (s.drop P) * Limb.val 1000000000 vl + Limb.val 1000000000 (dl.drop P) :=
    fun s hs => Limb.div_start (by omega) nD nV hvl h1P hs
  have HST := Lib.hid hst
  clear hst
  have hleft : ∀ w4, Below w3.heap.size w3 w4 → ∀ v, Sees .u32 w4 v (dl.drop P) → IsNat .u32 1000000000 w4 v (Limb.val 1000000000 (dl.drop P)) vl.length :=
    fun w4 _ v hv => ⟨_, hv, Limb.norm_drop nD P, rfl, by rw [List.length_drop]; omega⟩
  have HL := Lib.hid hleft
  clear hleft
  have hcase : (∀ w4, Below w3.heap.size w3 w4 → vl.length ≤ dl.length → ∀ z, z = P → ca = z → Sees .u32 w4 (.slice ao (dl.length - z) 0) (dl.drop P)) ∧
      (∀ w4, Below w3.heap.size w3 w4 → vl.length ≤ dl.length → ∀ z, z = P → Sees .u32 w4 (.slice (Option.map (fun x => { block := x.block, off := x.off + z }) ao) (dl.length - z) (ca - z)) (dl.drop P)) ∧
      (∀ w4, Below w3.heap.size w3 w4 → dl.length < vl.length → Sees .u32 w4 (.slice ao dl.length ca) (dl.drop P)) := by
    refine ⟨fun w4 hb hl z hz hc => ?_, fun w4 hb hl z hz => ?_, fun w4 hb hl => ?_⟩
    · obtain ⟨b0, off, rfl, hb0, hcc⟩ := CD (by omega)
      have h := (SD.out.below hb (Nat.le_refl _)).empty
      have h5 : dl.drop P = [] := List.drop_eq_nil_of_le (by omega)
      rw [h5, show dl.length - z = 0 by omega]
      exact h
    · obtain ⟨b0, off, rfl, hb0, hcc⟩ := CD (by omega)
      subst hz
      have h := (SD.out.below hb (Nat.le_refl _)).dropped z h2P
      exact h
    · have h5 : P = 0 := by rw [HP.out]; omega
      rw [h5, List.drop_zero]
      exact SD.out.below hb (Nat.le_refl _)
  have HC := Lib.hid hcase
  clear hcase
  have hao : dl.length < vl.length ∨ (vl.length ≤ dl.length ∧ ∃ b0 off, ao = some ⟨b0, off, none⟩) := by
    rcases Nat.lt_or_ge dl.length vl.length with h | h
    · exact .inl h
    · obtain ⟨b0, off, h1, _⟩ := CD (by omega)
      exact .inr ⟨h, b0, off, h1⟩
  rcases hao with hlv | ⟨hlv, b0', off', rfl⟩
  all_goals
    go_wp2_with (at_make; refine wpList_make_nat _ rfl _ _ 103 rfl 142 i0 .u32 4 Tryz.underlying103 hi hz0 hz1 hz2 (by omega) _ _ _ _ P rfl rfl (by have := HP.out; omega) (by have := HP.out; omega) (by omega) ?_; intro w4 hown4 hb4)
  all_goals
    go_loopw [10, 11] (fun u10 u11 wr => ∃ (k r : Nat) (s : List Nat), k ≤ P ∧ u11 = .int .i64 ((k : Int) - 1) ∧ IsNat .u32 1000000000 wr u10 r vl.length ∧ r < Limb.val 1000000000 vl ∧ Below w3.heap.size w3 wr ∧ Own .u32 142 wr w3.heap.size s ∧ Hid (s.length = P) ∧
        Limb.small 1000000000 s ∧ Hid (Limb.val 1000000000 (dl.drop k) = Limb.val 1000000000 (s.drop k) * Limb.val 1000000000 vl + r)) (fun _ u11 _ => (intOf u11 + 1).toNat)
    case atStart =>
      refine ⟨P, _, _, Nat.le_refl _, ?_, HL.out _ hb4 _ ?_, (HST.out (List.replicate P 0) List.length_replicate).1, hb4, hown4, Lib.hid List.length_replicate, Limb.small_replicate _ (by omega), Lib.hid (HST.out (List.replicate P 0) List.length_replicate).2⟩
      · first | rfl | (refine congrArg _ ?_; have := HP.out; omega)
      · first
          | exact HC.out.2.2 _ hb4 (by omega)
          | exact HC.out.2.1 _ hb4 (by omega) _ (by have := HP.out; omega)
          | exact HC.out.1 _ hb4 (by omega) _ (by have := HP.out; omega) (by have := HP.out; omega)
    case round =>
      obtain ⟨k, r, s, hk, rfl, hL, hr, hbel, hown, HSL, hsm2, HI⟩ := hrel
      have hLx := hown.1
      by_cases hk0 : 0 < k
      · first
          | (exfalso; have := HP.out; omega)
          | (obtain ⟨rl, sR, nR, eR, lR⟩ := hL
             have hx0 := Limb.small_getD (by omega) nD.1 (k - 1)
             obtain ⟨b0, off, hao, hb0, hcx⟩ := CD.at hbel (show k - 1 < dl.length by omega)
             cases hao
             obtain ⟨x, hx⟩ : ∃ x, dl.getD (k - 1) 0 = x := ⟨_, rfl⟩
             rw [hx] at hx0 hcx
             have HX := Lib.hid hx
             have SR := Lib.hid sR
             have ER := Lib.hid eR
             have hsmA : Limb.small 1000000000 ([x] ++ rl) := by
               intro z hz
               rcases List.mem_append.1 hz with h | h
               · rw [List.mem_singleton.1 h]; exact hx0
               · exact nR.1 z h
             have HEA := Lib.hid (show Limb.val 1000000000 ([x] ++ rl) = x + 1000000000 * r by rw [← eR]; rfl)
             have hdl := Limb.div_left hx0 hr
             clear hx sR eR
             go_wp2_with (at_builtin; refine wpList_append_nat rfl _ _ 103 rfl 142 i0 .u32 4 Tryz.underlying103 hi hz0 hz1 hz2 (by omega) _ _ [x] rl rfl rfl wr.heap.size (Row.one _ _ _ _ (Nat.le_refl _) x _ rfl) (SR.out.below ((Below.refl _ _).alloc (Nat.le_refl _) _) (Nat.le_refl _)) (by simp; omega) (by simp) ?_; intro A w5 hA hb5)
             have hb5' : Below wr.heap.size wr w5 := ((Below.refl _ _).alloc (Nat.le_refl _) _).trans hb5
             refine (trimmed_any A ([x] ++ rl) w5 hA.sees hsmA).mono ?_
             rintro e w' ⟨L, rfl, rfl, hLn⟩
             rw [HEA.out] at hLn
             obtain ⟨ll, sL, nL, eL, lL⟩ := hLn
             have hb35 := hbel.trans (hb5'.mono hbel.size)
             have hll : ll.length ≤ vl.length + 1 := Limb.len_le (by omega) nL (by
               rw [eL]
               have h1 := Limb.val_lt nV.1
               have h2 : Limb.val 1000000000 vl * 1000000000 ≤ 1000000000 ^ vl.length * 1000000000 := Nat.mul_le_mul_right _ (Nat.le_of_lt h1)
               rw [← Nat.pow_succ] at h2
               exact Nat.lt_of_lt_of_le hdl h2)
             have CE := Lib.hid (estimate_any L (.slice vo vl.length cv) ll vl w5 sL (SV.out.below hb35 (Nat.le_refl _)) nL.1 nV hvl hll (by rw [eL]; exact hdl))
             have SL := Lib.hid sL
             have EL := Lib.hid eL
             clear sL eL
             go_wp2_with fail
             refine (CE.out).mono ?_
             rintro e w' ⟨e0, n5, rfl, rfl, he0, hq0⟩
             have hb5d : Below wr.heap.size wr (w5.drewN n5) := hb5'.trans (below_drewN _ _)
             have hb5a : ∀ o, Below wr.heap.size wr ((w5.drewN n5).alloc o) := fun o => hb5d.alloc hb5d.size _
             have CT := fun T => Lib.hid (times_one (SV.out) (hbel.trans ((hb5a (.cells #[.int .u32 ((e0 : Nat) : Int)] T)).mono hbel.size)) nV.1 (by omega) he0 ((Row.one 0 .u32 T (w5.drewN n5) (Nat.zero_le _) e0 _ rfl).sees))
             go_wp2_with fail
             refine ((CT 142).out).mono ?_
             rintro e w6 ⟨p0, rfl, hb6, hp0⟩
             have hb6' : Below wr.heap.size wr w6 := (hb5a _).trans (hb6.mono (hb5a _).size)
             have SL6 := Lib.hid ((SL.out.drewN n5).below (((Below.refl (w5.drewN n5).heap.size _).alloc (Nat.le_refl _) _).trans (hb6.mono (by simp))) (Nat.le_refl _))
             have hqle : Limb.val 1000000000 ll / Limb.val 1000000000 vl ≤ e0 := hq0
             obtain ⟨qv, hqv⟩ : ∃ qv, Limb.val 1000000000 ll / Limb.val 1000000000 vl = qv := ⟨_, rfl⟩
             rw [hqv] at hqle
             have HQV := Lib.hid hqv
             clear CT CE SL hb5 hb6 hb5a hb5d hq0 hqv
             go_wp2
             go_loopw [12, 13] (fun u12 u13 wi => ∃ e1 : Nat, u12 = .int .u32 e1 ∧ e1 < 1000000000 ∧ qv ≤ e1 ∧ IsNat .u32 1000000000 wi u13 (Limb.val 1000000000 vl * e1) (vl.length + 1) ∧ Below w6.heap.size w6 wi) (fun u12 _ _ => (intOf u12).toNat)
             case atStart => exact ⟨e0, rfl, he0, hqle, hp0, Below.refl _ _⟩
             case round =>
               obtain ⟨e1, rfl, he1, hqe, hpn, hbi⟩ := hrel
               have hbwi := hb6'.trans (hbi.mono hb6'.size)
               have hb3i := hbel.trans (hbwi.mono hbel.size)
               have hLn : IsNat .u32 1000000000 _ L (Limb.val 1000000000 ll) (vl.length + 1) := ⟨ll, SL6.out.below hbi (Nat.le_refl _), nL, rfl, hll⟩
               have hVn : IsNat .u32 1000000000 _ (.slice vo vl.length cv) (Limb.val 1000000000 vl) vl.length := ⟨vl, SV.out.below hb3i (Nat.le_refl _), nV, rfl, Nat.le_refl _⟩
               by_cases hgt : Limb.val 1000000000 ll < Limb.val 1000000000 vl * e1
               · have CO := Lib.hid (order_nat hpn hLn (Limb.cmp_gt hgt))
                 have he1q : qv < e1 := by
                   rcases Nat.lt_or_ge qv e1 with h | h
                   · exact h
                   · have h1 := Nat.mul_le_mul_left (Limb.val 1000000000 vl) h
                     have h2 := Nat.mul_div_le (Limb.val 1000000000 ll) (Limb.val 1000000000 vl)
                     rw [HQV.out] at h2
                     omega
                 have hVle : Limb.val 1000000000 vl ≤ Limb.val 1000000000 vl * e1 := Nat.le_mul_of_pos_right _ (by omega)
                 have CM := fun n6 => Lib.hid (minus_any _ _ _ _ _ _ _ (hpn.below (below_drewN _ n6) (Nat.le_refl _)) (hVn.below (below_drewN _ n6) (Nat.le_refl _)) (by omega) hVle)
                 have HLT := Lib.hid hgt
                 clear hgt hpn hLn hVn hVle
                 go_wp2_with (first
                   | (go_at_call 118; refine (CO.out).mono ?_; rintro e w' ⟨rfl, n6, rfl⟩)
                   | (go_at_call 155; refine ((CM _).out).mono ?_; rintro e w7 ⟨p1, rfl, hb7, hp1⟩))
                 go_roundw
                 case rel =>
                   refine ⟨e1 - 1, by go_num, by omega, by omega, ?_, hbi.trans ((below_drewN _ _).trans (hb7.mono hbi.size))⟩
                   have h1 : Limb.val 1000000000 vl * e1 - Limb.val 1000000000 vl = Limb.val 1000000000 vl * (e1 - 1) := by rw [Nat.mul_sub, Nat.mul_one]
                   rw [← h1]
                   exact hp1
                 case measure => simp [intOf]; omega
               · obtain ⟨c, hc⟩ : ∃ c, Limb.cmpN (Limb.val 1000000000 vl * e1) (Limb.val 1000000000 ll) = c := ⟨_, rfl⟩
                 have hc0 : c ≤ 0 := by rw [← hc, Limb.cmp_le_zero]; omega
                 have CO := Lib.hid (order_nat hpn hLn hc)
                 have hle : Limb.val 1000000000 vl * e1 ≤ Limb.val 1000000000 ll := by omega
                 have he1q : e1 = qv := by
                   rcases Nat.lt_or_ge qv e1 with h | h
                   · exfalso
                     have h1 : Limb.val 1000000000 vl * (qv + 1) ≤ Limb.val 1000000000 vl * e1 := Nat.mul_le_mul_left _ h
                     have hV0 : 0 < Limb.val 1000000000 vl := (Limb.norm_pos (by omega) nV).2 hvl
                     have h2 : Limb.val 1000000000 ll < Limb.val 1000000000 vl * (Limb.val 1000000000 ll / Limb.val 1000000000 vl + 1) := Nat.lt_mul_div_succ (Limb.val 1000000000 ll) hV0
                     rw [HQV.out] at h2
                     omega
                   · omega
                 have HE := Lib.hid he1q
                 have CM := fun n6 => Lib.hid (minus_own _ _ _ _ _ _ _ (hLn.below (below_drewN _ n6) (Nat.le_refl _)) (hpn.below (below_drewN _ n6) (Nat.le_refl _)) (by omega) hle)
                 have HLE := Lib.hid hle
                 have howni := hown.below hbwi hown.lt
                 have hlen1 : k - 1 < s.length := by rw [HSL.out]; omega
                 clear hc hpn hLn hVn hle he1q hgt
                 go_wp2_with (first
                   | (go_at_call 118; refine (CO.out).mono ?_; rintro e w' ⟨rfl, n6, rfl⟩)
                   | (go_at_call 155; refine ((CM _).out).mono ?_; rintro e w7 ⟨p1, rfl, hb7, hp1, hpb⟩; have hown7 := (howni.drewN _).below hb7 (howni.drewN _).lt; have hcell7 := hown7.cell hlen1; have hfree7 := hown7.free (k - 1)))
                 go_roundw
                 case rel =>
                   have hV0 : 0 < Limb.val 1000000000 vl := (Limb.norm_pos (by omega) nV).2 hvl
                   have hrlt := rest_lt hV0 HE.out HQV.out
                   have hee : e1 = (x + 1000000000 * r) / Limb.val 1000000000 vl := by rw [HE.out, ← HQV.out, EL.out]
                   refine ⟨k - 1, _, s.set (k - 1) e1, by omega, by go_num, (hp1.cut (Nat.lt_trans hrlt (Limb.val_lt nV.1))).put (by rw [hpb]; intro e; have e1 := Option.some.inj e; have := howni.lt; simp at e1; omega) _, hrlt, ?_, hown7.put _ _ _ rfl, ?_, Limb.small_set hsm2 _ _ he1, ?_⟩
                   · exact (hb3i.trans ((below_drewN _ _).trans (hb7.mono hb3i.size))).setCell (Nat.le_refl _) _
                   · unfold Hid; rw [List.length_set]; exact HSL.out
                   · have h := Limb.div_round (s := s) hk0 (by rw [HSL.out]; exact hk) HX.out HI.out
                     rw [← hee, ← EL.out] at h
                     exact h
                 case measure => simp [intOf]; omega)
      · have hk1 : k = 0 := by omega
        subst hk1
        have hs2 : Sees .u32 wr (.slice (some ⟨w3.heap.size, 0, none⟩) P P) s := by have := hown.sees; rw [HSL.out] at this; exact this
        have hqv : Limb.val 1000000000 s = m / n := by
          rw [Limb.div_end hr HI.out]
          exact quot_scale hs0 (by rw [HD.out, HA.out]) (by rw [HV.out, HB.out])
        have CT := Lib.hid (trimmed_own _ s wr hs2 hsm2)
        have HQ := Lib.hid hqv
        have hsl : s.length ≤ p + 1 := by rw [HSL.out]; omega
        have hwr := hb3'.trans (hbel.mono hb3'.size)
        clear hqv hs2 hL
        go_wp2_with fail
        refine (CT.out).mono ?_
        rintro e w' ⟨Qv, rfl, rfl, hQ, hQo⟩
        obtain ⟨ql, sQ, nQ, eQ, lQ⟩ := hQ
        have hqb : Limb.val 1000000000 ql * Limb.val 1000000000 b ≤ m := by rw [eQ, HQ.out, HB.out]; exact Nat.div_mul_le_self _ _
        have CM := Lib.hid (times_any Qv (.slice bo b.length cb) ql b wr sQ (SB.out.below hbel (Nat.le_refl _)) nQ.1 nb.1 (by omega) (by omega))
        have HQE := Lib.hid eQ
        have SQ := Lib.hid sQ
        clear eQ sQ
        go_wp2_with fail
        refine (CM.out).mono ?_
        rintro e w8 ⟨p8, rfl, hb8, hp8⟩
        have hw8 := hbel.trans (hb8.mono hbel.size)
        have CN := Lib.hid (minus_any u p8 m _ p _ w8 ⟨a, SA.out.below hw8 (Nat.le_refl _), na, HA.out, la⟩ hp8 (by omega) hqb)
        go_wp2_with fail
        refine (CN.out).mono ?_
        rintro e w9 ⟨p9, rfl, hb9, hp9⟩
        go_wp2
        go_ret2
        refine ⟨_, _, rfl, (hb3'.trans (hw8.mono hb3'.size)).trans (hb9.mono (hb3'.trans (hw8.mono hb3'.size)).size), ⟨ql, SQ.out.below (hb8.trans (hb9.mono hb8.size)) (Nat.le_refl _), nQ, by rw [HQE.out]; exact HQ.out, by omega⟩, ?_, _, hQo, hb3'.size⟩
        rw [HQE.out, HQ.out, HB.out, rest_mod] at hp9
        exact hp9

theorem over_any (u v : Value) (m n p q : Nat) (w : World) (hu : IsNat .u32 1000000000 w u m p) (hv : IsNat .u32 1000000000 w v n q) (hp : p ≤ 400) (hq : q ≤ 400) (hn : 0 < n) :
    Calls Tryz.prog 142 #[u, v] w fun e w' => ∃ r s, e = .returned (.tuple #[r, s]) ∧ Below w.heap.size w w' ∧ IsNat .u32 1000000000 w' r (m / n) (p + 1) ∧ IsNat .u32 1000000000 w' s (m % n) p :=
  (over_own u v m n p q w hu hv hp hq hn).mono fun _ _ ⟨r, s, h1, h2, h3, h4, _⟩ => ⟨r, s, h1, h2, h3, h4⟩

end Go.Proofs.YtldclpdmcopgnaaGreatDoor

namespace Go.Proofs.YtldclpdmcopgnaaGreatDoor
open Go.RowKit

set_option maxRecDepth 100000 in
set_option maxHeartbeats 1000000 in
theorem common_any (u v : Value) (m n p : Nat) (w : World) (hu : IsNat .u32 1000000000 w u m p) (hv : IsNat .u32 1000000000 w v n p) (hp : p ≤ 400) :
    Calls Tryz.prog 119 #[u, v] w fun e w' => ∃ r, e = .returned r ∧ Below w.heap.size w w' ∧ IsNat .u32 1000000000 w' r (Nat.gcd m n) p := by
  go_enter Tryz.func119, Tryz.ntmps119
  go_wp2
  go_loopg [0, 1] n (fun g u0 u1 wr => ∃ m' : Nat, IsNat .u32 1000000000 wr u0 m' p ∧ IsNat .u32 1000000000 wr u1 g p ∧ Hid (Nat.gcd m' g = Nat.gcd m n) ∧ Below w.heap.size w wr)
  case atStart => exact ⟨m, hu, hv, Lib.hid rfl, Below.refl _ _⟩
  case round =>
    obtain ⟨m', h0, h1, HG, hbel⟩ := hrel
    have H1 := Lib.hid h1
    obtain ⟨l, sl, nl, el, ll⟩ := h1
    obtain ⟨ao, ca, rfl, a1, a2, _⟩ := sl.opened
    clear sl
    by_cases hg : 0 < gk
    · have hpos : 0 < l.length := by rw [← Limb.norm_pos (B := 1000000000) (by omega) nl, el]; exact hg
      have CO := Lib.hid (over_any _ _ m' gk p p wr h0 H1.out hp hp hg)
      clear el nl h0
      go_wp2_with (go_at_call 142; refine (CO.out).mono ?_; rintro e w2 ⟨r, s, rfl, hb2, hr, hs⟩)
      go_roundg (m' % gk)
      case measure => exact Nat.mod_lt _ hg
      case rel => exact ⟨gk, H1.out.below hb2 (Nat.le_refl _), hs, Lib.hid (by rw [← HG.out, Nat.gcd_comm m' gk, Nat.gcd_rec gk m', Nat.gcd_comm]), hbel.trans (hb2.mono hbel.size)⟩
    · have hz : l.length = 0 := by
        rcases Nat.eq_zero_or_pos l.length with h | h
        · exact h
        · exact absurd ((Limb.norm_pos (B := 1000000000) (by omega) nl).2 h) (by rw [el]; exact hg)
      have hgz : gk = 0 := by omega
      have hneg : ¬ 0 < l.length := by omega
      have HM := Lib.hid (show m' = Nat.gcd m n by rw [← HG.out, hgz, Nat.gcd_zero_right])
      have H0 := Lib.hid h0
      clear hz hgz el nl h0
      go_wp2
      go_ret
      exact ⟨_, rfl, hbel, by rw [← HM.out]; exact H0.out⟩

end Go.Proofs.YtldclpdmcopgnaaGreatDoor

