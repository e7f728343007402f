/- The call of ImplicantMeets. -/
import Derived.Test.YtabflijfbjdpgaaDoorIw
import Derived.Test.YtabflijfbjdpgaaDoorIx
import Derived.Test.YtabflijfbjdpgaaDoorJc
import Derived.Test.YtabflijfbjdpgaaDoorJp
namespace Go.Proofs.YtabflijfbjdpgaaDoor
open Go.RowKit Go.Shelf
theorem int_eq0 {x : Nat} {q : Bool} (h : (x == 0) = q) : ((x : Int) == 0) = q := by rw [← h, Bool.eq_iff_iff, beq_iff_eq, beq_iff_eq]; exact Int.natCast_eq_zero
theorem int_ne0 {x : Nat} (h : x ≠ 0) : ((x : Int) != 0) = true := by simp; omega
theorem int_ne0' {x : Nat} (h : x = 0) : ((x : Int) != 0) = false := by subst h; rfl

set_option linter.unusedSimpArgs false in
set_option maxHeartbeats 8000000 in
set_option maxRecDepth 100000 in
theorem lawMeets_any (n : Int) (c v d u : Nat) (w : World) (hst : St w) (hc : c < 2 ^ 64) (hv : v < 2 ^ 64) (hd : d < 2 ^ 64) (hu : u < 2 ^ 64) :
    Calls Tryd.prog 8 #[.int .i64 n, .agg #[.int .u64 c, .int .u64 v], .agg #[.int .u64 d, .int .u64 u]] w fun e w' => e = .returned (.bool true) ∧ Below w.heap.size w w' := by
  have K1 := fun W => Lib.hid (rcCheck_any n c v W hc hv)
  have K2 := fun W => Lib.hid (rcCheck_any n d u W hd hu)
  have HST := Lib.hid hst
  obtain ⟨Va, Vb, L0, z0⟩ := cub2_new w c v d u 24
  generalize hX : (w.alloc (.cells #[.int .u64 (c : Int), .int .u64 (v : Int)] 24)).alloc (.cells #[.int .u64 (d : Int), .int .u64 (u : Int)] 24) = X0 at *
  have HB := Lib.hid L0
  obtain ⟨a0, a1, a2, a3, a4⟩ := id Va
  obtain ⟨b0, b1, b2, b3, b4⟩ := id Vb
  have Ha := Lib.hid Va
  have Hb := Lib.hid Vb
  clear Va Vb L0 hst
  by_cases hk : Ic.chk n c v = 0
  · by_cases hk2 : Ic.chk n d u = 0
    · obtain ⟨m, rfl, hm, hcm, hs⟩ := Ic.chk_nat hv hk
      obtain ⟨m', hmm, _, hdm, ht⟩ := Ic.chk_nat hu hk2
      obtain rfl : m = m' := by omega
      have h2 : Ic.chk2 m c v d u = 0 := Ic.chk2_zero.2 ⟨hk, hk2⟩
      have T1 := fun W h => Lib.hid (iTab_any m c v W hc hv h)
      have T2 := fun W h => Lib.hid (iTab_any m d u W hd hu h)
      have M1 := fun W => Lib.hid (iMeet_any m c v d u W hc hv hd hu)
      have N1 := fun W => Lib.hid (iCons_any m c v d u W hc hv hd hu)
      have I1 := fun W => Lib.hid (iIns_any m c v d u W hc hv hd hu)
      have hX64 := Tt.w64 hm (Ic.tab_lt m c v)
      have hY64 := Tt.w64 hm (Ic.tab_lt m d u)
      have hins := Ic.ins_tab hm hcm hdm hs ht
      have eAN := u64_andNot_nat (Ic.tab m c v) (Ic.tab m d u) (by simpa using hX64) (by simpa using hY64)
      have eAND := u64_and_nat (Ic.tab m c v) (Ic.tab m d u) (by simpa using hX64) (by simpa using hY64)
      have hI := int_eq0 hins.symm
      have hopp := Ic.opp_tab hcm hdm hs ht
      rw [show Ic.tabV m c v = (((m : Int), Ic.tab m c v), (0 : Int)) by unfold Ic.tabV; rw [if_neg (by simp [hk]), Int.toNat_natCast]] at T1
      rw [show Ic.tabV m d u = (((m : Int), Ic.tab m d u), (0 : Int)) by unfold Ic.tabV; rw [if_neg (by simp [hk2]), Int.toNat_natCast]] at T2
      rw [show Ic.insV m c v d u = (Ic.insB c v d u, 0) by unfold Ic.insV; rw [if_pos h2]] at I1
      rw [hk] at K1
      rw [hk2] at K2
      dsimp only at T1 T2 I1
      by_cases ho : Ic.opp c v d u = 0
      · have hcnt : ¬ Ic.cnt (Ic.opp c v d u) = 1 := by rw [ho]; decide
        rw [show Ic.meetV m c v d u = (((c ||| d, v ||| u), true), 0) by unfold Ic.meetV; rw [if_pos h2, if_pos ho]] at M1
        rw [show Ic.consV m c v d u = (((0, 0), false), 0) by unfold Ic.consV; rw [if_pos h2, if_neg hcnt]] at N1
        dsimp only at M1 N1
        have hmc : c ||| d < 2 ^ m := Nat.or_lt_two_pow hcm hdm
        have Z1 := fun W h => Lib.hid (iTab_any m (c ||| d) (v ||| u) W (Ic.w64 hm hmc) (Ic.w64 hm ((Ic.sub_or hs ht).lt hmc)) h)
        rw [show Ic.tabV m (c ||| d) (v ||| u) = (((m : Int), Ic.tab m c v &&& Ic.tab m d u), (0 : Int)) by unfold Ic.tabV; rw [if_neg (by rw [Ic.chk_of hm hmc (Ic.sub_or hs ht)]; simp), Int.toNat_natCast, Ic.meet_tab hs ht ho]] at Z1
        dsimp only at Z1
        have hQ := int_ne0 (hopp.1 ho)
        clear hins hopp hcnt h2 hk hk2 hX64 hY64 hcm hdm hs ht ho hmm hc hv hd hu hmc
        generalize Ic.tab m c v &&& (18446744073709551615 - Ic.tab m d u) = zAN at *
        generalize Ic.tab m c v &&& Ic.tab m d u = Z at *
        generalize Ic.tab m c v = X at *
        generalize Ic.tab m d u = Y at *
        generalize Ic.insB c v d u = ib at *
        generalize c ||| d = mc at *
        generalize v ||| u = mv at *
        simp only [Int.natCast_zero] at N1
        go_enter Tryd.func8, Tryd.ntmps8
        go_wp2_with fail
        have hE := HB.out
        refine ((K1 _).out).mono ?_
        rintro e w1 ⟨rfl, hb⟩
        have Va := Ha.out.step hb
        have Vb := Hb.out.step hb
        have HB' := Lib.hid (below_nxt HB.out hb)
        clear HB hE hb
        have HB := HB'
        clear HB'
        clear Ha a0 a1 a2 a3 a4 Hb b0 b1 b2 b3 b4
        obtain ⟨a0, a1, a2, a3, a4⟩ := id Va
        have Ha := Lib.hid Va
        clear Va
        obtain ⟨b0, b1, b2, b3, b4⟩ := id Vb
        have Hb := Lib.hid Vb
        clear Vb
        go_wp2_with fail
        have hE := HB.out
        refine ((K2 _).out).mono ?_
        rintro e w2 ⟨rfl, hb⟩
        have Va := Ha.out.step hb
        have Vb := Hb.out.step hb
        have HB' := Lib.hid (below_nxt HB.out hb)
        clear HB hE hb
        have HB := HB'
        clear HB'
        clear Ha a0 a1 a2 a3 a4 Hb b0 b1 b2 b3 b4
        obtain ⟨a0, a1, a2, a3, a4⟩ := id Va
        have Ha := Lib.hid Va
        clear Va
        obtain ⟨b0, b1, b2, b3, b4⟩ := id Vb
        have Hb := Lib.hid Vb
        clear Vb
        go_wp2_with fail
        have hE := HB.out
        refine ((T1 _ (HST.out.next hE)).out).mono ?_
        rintro e w3 ⟨rfl, hb⟩
        have Va := Ha.out.step hb
        have Vb := Hb.out.step hb
        have HB' := Lib.hid (below_nxt HB.out hb)
        clear HB hE hb
        have HB := HB'
        clear HB'
        clear Ha a0 a1 a2 a3 a4 Hb b0 b1 b2 b3 b4
        obtain ⟨a0, a1, a2, a3, a4⟩ := id Va
        have Ha := Lib.hid Va
        clear Va
        obtain ⟨b0, b1, b2, b3, b4⟩ := id Vb
        have Hb := Lib.hid Vb
        clear Vb
        go_wp2_with fail
        have hE := HB.out.alloc HB.out.size (.cells #[.int .i64 m, .int .u64 (X : Int)] 32)
        refine ((T2 _ (HST.out.next hE)).out).mono ?_
        rintro e w4 ⟨rfl, hb⟩
        have Va := Ha.out.box hb
        have Vb := Hb.out.box hb
        have Vx := tabI_box hb
        have HB' := Lib.hid (below_nxtb HB.out hb)
        clear HB hE hb
        have HB := HB'
        clear HB'
        clear Ha a0 a1 a2 a3 a4 Hb b0 b1 b2 b3 b4
        obtain ⟨a0, a1, a2, a3, a4⟩ := id Va
        have Ha := Lib.hid Va
        clear Va
        obtain ⟨b0, b1, b2, b3, b4⟩ := id Vb
        have Hb := Lib.hid Vb
        clear Vb
        obtain ⟨x0, x1, x2, x3, x4⟩ := id Vx
        have Hx := Lib.hid Vx
        clear Vx
        go_wp2_with fail
        have hE := HB.out.alloc HB.out.size (.cells #[.int .i64 m, .int .u64 (Y : Int)] 32)
        refine ((M1 _).out).mono ?_
        rintro e w5 ⟨rfl, hb⟩
        have Va := Ha.out.box hb
        have Vb := Hb.out.box hb
        have Vx := Hx.out.box hb
        have Vy := tabI_box hb
        have HB' := Lib.hid (below_nxtb HB.out hb)
        clear HB hE hb
        have HB := HB'
        clear HB'
        clear Ha a0 a1 a2 a3 a4 Hb b0 b1 b2 b3 b4 Hx x0 x1 x2 x3 x4
        obtain ⟨a0, a1, a2, a3, a4⟩ := id Va
        have Ha := Lib.hid Va
        clear Va
        obtain ⟨b0, b1, b2, b3, b4⟩ := id Vb
        have Hb := Lib.hid Vb
        clear Vb
        obtain ⟨x0, x1, x2, x3, x4⟩ := id Vx
        have Hx := Lib.hid Vx
        clear Vx
        obtain ⟨y0, y1, y2, y3, y4⟩ := id Vy
        have Hy := Lib.hid Vy
        clear Vy
        go_wp2_with fail
        have hE := HB.out.alloc HB.out.size (.cells #[.int .u64 (mc : Int), .int .u64 (mv : Int)] 24)
        refine ((N1 _).out).mono ?_
        rintro e w6 ⟨rfl, hb⟩
        have Va := Ha.out.box hb
        have Vb := Hb.out.box hb
        have Vx := Hx.out.box hb
        have Vy := Hy.out.box hb
        have Vp := cubI_box (c := mc) (v := mv) hb
        have HB' := Lib.hid (below_nxtb HB.out hb)
        clear HB hE hb
        have HB := HB'
        clear HB'
        clear Ha a0 a1 a2 a3 a4 Hb b0 b1 b2 b3 b4 Hx x0 x1 x2 x3 x4 Hy y0 y1 y2 y3 y4
        obtain ⟨a0, a1, a2, a3, a4⟩ := id Va
        have Ha := Lib.hid Va
        clear Va
        obtain ⟨b0, b1, b2, b3, b4⟩ := id Vb
        have Hb := Lib.hid Vb
        clear Vb
        obtain ⟨x0, x1, x2, x3, x4⟩ := id Vx
        have Hx := Lib.hid Vx
        clear Vx
        obtain ⟨y0, y1, y2, y3, y4⟩ := id Vy
        have Hy := Lib.hid Vy
        clear Vy
        obtain ⟨p0, p1, p2, p3, p4⟩ := id Vp
        have Hp := Lib.hid Vp
        clear Vp
        go_wp2_with fail
        have hE := HB.out.alloc HB.out.size (.cells #[.int .u64 (0 : Int), .int .u64 (0 : Int)] 24)
        refine ((I1 _).out).mono ?_
        rintro e w7 ⟨rfl, hb⟩
        have Va := Ha.out.box hb
        have Vb := Hb.out.box hb
        have Vx := Hx.out.box hb
        have Vy := Hy.out.box hb
        have Vp := Hp.out.box hb
        have Vq := cubI_box (c := 0) (v := 0) hb
        have HB' := Lib.hid (below_nxtb HB.out hb)
        clear HB hE hb
        have HB := HB'
        clear HB'
        clear Ha a0 a1 a2 a3 a4 Hb b0 b1 b2 b3 b4 Hx x0 x1 x2 x3 x4 Hy y0 y1 y2 y3 y4 Hp p0 p1 p2 p3 p4
        obtain ⟨a0, a1, a2, a3, a4⟩ := id Va
        have Ha := Lib.hid Va
        clear Va
        obtain ⟨b0, b1, b2, b3, b4⟩ := id Vb
        have Hb := Lib.hid Vb
        clear Vb
        obtain ⟨x0, x1, x2, x3, x4⟩ := id Vx
        have Hx := Lib.hid Vx
        clear Vx
        obtain ⟨y0, y1, y2, y3, y4⟩ := id Vy
        have Hy := Lib.hid Vy
        clear Vy
        obtain ⟨p0, p1, p2, p3, p4⟩ := id Vp
        have Hp := Lib.hid Vp
        clear Vp
        obtain ⟨q0, q1, q2, q3, q4⟩ := id Vq
        have Hq := Lib.hid Vq
        clear Vq
        go_wp2_with fail
        have hE := HB.out
        refine ((Z1 _ (HST.out.next hE)).out).mono ?_
        rintro e w8 ⟨rfl, hb⟩
        have Va := Ha.out.step hb
        have Vb := Hb.out.step hb
        have Vx := Hx.out.step hb
        have Vy := Hy.out.step hb
        have Vp := Hp.out.step hb
        have Vq := Hq.out.step hb
        have HB' := Lib.hid (below_nxt HB.out hb)
        clear HB hE hb
        have HB := HB'
        clear HB'
        clear Ha a0 a1 a2 a3 a4 Hb b0 b1 b2 b3 b4 Hx x0 x1 x2 x3 x4 Hy y0 y1 y2 y3 y4 Hp p0 p1 p2 p3 p4 Hq q0 q1 q2 q3 q4
        obtain ⟨a0, a1, a2, a3, a4⟩ := id Va
        have Ha := Lib.hid Va
        clear Va
        obtain ⟨b0, b1, b2, b3, b4⟩ := id Vb
        have Hb := Lib.hid Vb
        clear Vb
        obtain ⟨x0, x1, x2, x3, x4⟩ := id Vx
        have Hx := Lib.hid Vx
        clear Vx
        obtain ⟨y0, y1, y2, y3, y4⟩ := id Vy
        have Hy := Lib.hid Vy
        clear Vy
        obtain ⟨p0, p1, p2, p3, p4⟩ := id Vp
        have Hp := Lib.hid Vp
        clear Vp
        obtain ⟨q0, q1, q2, q3, q4⟩ := id Vq
        have Hq := Lib.hid Vq
        clear Vq
        go_wp2_with fail
        have hE := HB.out.alloc HB.out.size (.cells #[.int .i64 m, .int .u64 (Z : Int)] 32)
        refine (awake_any _ (HST.out.next hE)).mono ?_
        rintro e w9 ⟨rfl, hb⟩
        have Va := Ha.out.box hb
        have Vb := Hb.out.box hb
        have Vx := Hx.out.box hb
        have Vy := Hy.out.box hb
        have Vp := Hp.out.box hb
        have Vq := Hq.out.box hb
        have Vz := tabI_box hb
        have HB' := Lib.hid (below_nxtb HB.out hb)
        clear HB hE hb
        have HB := HB'
        clear HB'
        clear Ha a0 a1 a2 a3 a4 Hb b0 b1 b2 b3 b4 Hx x0 x1 x2 x3 x4 Hy y0 y1 y2 y3 y4 Hp p0 p1 p2 p3 p4 Hq q0 q1 q2 q3 q4
        obtain ⟨a0, a1, a2, a3, a4⟩ := id Va
        have Ha := Lib.hid Va
        clear Va
        obtain ⟨b0, b1, b2, b3, b4⟩ := id Vb
        have Hb := Lib.hid Vb
        clear Vb
        obtain ⟨x0, x1, x2, x3, x4⟩ := id Vx
        have Hx := Lib.hid Vx
        clear Vx
        obtain ⟨y0, y1, y2, y3, y4⟩ := id Vy
        have Hy := Lib.hid Vy
        clear Vy
        obtain ⟨p0, p1, p2, p3, p4⟩ := id Vp
        have Hp := Lib.hid Vp
        clear Vp
        obtain ⟨q0, q1, q2, q3, q4⟩ := id Vq
        have Hq := Lib.hid Vq
        clear Vq
        obtain ⟨z0, z1, z2, z3, z4⟩ := id Vz
        have Hz := Lib.hid Vz
        clear Vz
        go_wp2
        go_ret
        exact ⟨rfl, HB.out⟩
      · by_cases hcnt : Ic.cnt (Ic.opp c v d u) = 1
        · rw [show Ic.meetV m c v d u = (((0, 0), false), 0) by unfold Ic.meetV; rw [if_pos h2, if_neg ho]] at M1
          rw [show Ic.consV m c v d u = (((Ic.consC c v d u, Ic.consU c v d u), true), 0) by unfold Ic.consV; rw [if_pos h2, if_pos hcnt]; rfl] at N1
          dsimp only at M1 N1
          simp only [Int.natCast_zero] at M1
          have hnc := Ic.consC_lt (v := v) (u := u) hcm hdm
          have hnv := Ic.cons_sub hm hcm hdm hs ht
          have Z1 := fun W h => Lib.hid (iTab_any m (Ic.consC c v d u) (Ic.consU c v d u) W (Ic.w64 hm hnc) (Ic.w64 hm (hnv.lt hnc)) h)
          rw [show Ic.tabV m (Ic.consC c v d u) (Ic.consU c v d u) = (((m : Int), Ic.tab m (Ic.consC c v d u) (Ic.consU c v d u)), (0 : Int)) by unfold Ic.tabV; rw [if_neg (by rw [Ic.chk_of hm hnc hnv]; simp), Int.toNat_natCast]] at Z1
          dsimp only at Z1
          have hQ : (((Ic.tab m c v &&& Ic.tab m d u : Nat) : Int) != 0) = false := int_ne0' (Decidable.byContradiction fun h => ho (hopp.2 h))
          have hZ64 := Tt.w64 hm (Ic.tab_lt m (Ic.consC c v d u) (Ic.consU c v d u))
          have eOR := u64_or_nat (Ic.tab m c v) (Ic.tab m d u) (by simpa using hX64) (by simpa using hY64)
          have hXY := Nat.or_lt_two_pow hX64 hY64
          have eU := u64_andNot_nat (Ic.tab m (Ic.consC c v d u) (Ic.consU c v d u)) (Ic.tab m c v ||| Ic.tab m d u) (by simpa using hZ64) (by simpa using hXY)
          rw [Ic.cons_under hm hcm hdm hs ht hcnt] at eU
          have eL := u64_and_nat (Ic.tab m (Ic.consC c v d u) (Ic.consU c v d u)) (Ic.tab m c v) (by simpa using hZ64) (by simpa using hX64)
          have eR := u64_and_nat (Ic.tab m (Ic.consC c v d u) (Ic.consU c v d u)) (Ic.tab m d u) (by simpa using hZ64) (by simpa using hY64)
          have hL := int_ne0 (Ic.cons_left hm hcm hdm hs ht hcnt)
          have hR := int_ne0 (Ic.cons_right hm hcm hdm hs ht hcnt)
          simp only [Int.natCast_zero] at eU
          clear hins hopp hcnt h2 hk hk2 hX64 hY64 hcm hdm hs ht ho hmm hc hv hd hu hnc hnv hZ64 hXY
          generalize Ic.tab m (Ic.consC c v d u) (Ic.consU c v d u) &&& Ic.tab m c v = zL at *
          generalize Ic.tab m (Ic.consC c v d u) (Ic.consU c v d u) &&& Ic.tab m d u = zR at *
          generalize Ic.tab m (Ic.consC c v d u) (Ic.consU c v d u) = Z at *
          generalize Ic.tab m c v &&& (18446744073709551615 - Ic.tab m d u) = zAN at *
          generalize Ic.tab m c v &&& Ic.tab m d u = zQ at *
          generalize Ic.tab m c v ||| Ic.tab m d u = zO at *
          generalize Ic.tab m c v = X at *
          generalize Ic.tab m d u = Y at *
          generalize Ic.insB c v d u = ib at *
          generalize Ic.consC c v d u = nc at *
          generalize Ic.consU c v d u = nv at *
          go_enter Tryd.func8, Tryd.ntmps8
          go_wp2_with fail
          have hE := HB.out
          refine ((K1 _).out).mono ?_
          rintro e w1 ⟨rfl, hb⟩
          have Va := Ha.out.step hb
          have Vb := Hb.out.step hb
          have HB' := Lib.hid (below_nxt HB.out hb)
          clear HB hE hb
          have HB := HB'
          clear HB'
          clear Ha a0 a1 a2 a3 a4 Hb b0 b1 b2 b3 b4
          obtain ⟨a0, a1, a2, a3, a4⟩ := id Va
          have Ha := Lib.hid Va
          clear Va
          obtain ⟨b0, b1, b2, b3, b4⟩ := id Vb
          have Hb := Lib.hid Vb
          clear Vb
          go_wp2_with fail
          have hE := HB.out
          refine ((K2 _).out).mono ?_
          rintro e w2 ⟨rfl, hb⟩
          have Va := Ha.out.step hb
          have Vb := Hb.out.step hb
          have HB' := Lib.hid (below_nxt HB.out hb)
          clear HB hE hb
          have HB := HB'
          clear HB'
          clear Ha a0 a1 a2 a3 a4 Hb b0 b1 b2 b3 b4
          obtain ⟨a0, a1, a2, a3, a4⟩ := id Va
          have Ha := Lib.hid Va
          clear Va
          obtain ⟨b0, b1, b2, b3, b4⟩ := id Vb
          have Hb := Lib.hid Vb
          clear Vb
          go_wp2_with fail
          have hE := HB.out
          refine ((T1 _ (HST.out.next hE)).out).mono ?_
          rintro e w3 ⟨rfl, hb⟩
          have Va := Ha.out.step hb
          have Vb := Hb.out.step hb
          have HB' := Lib.hid (below_nxt HB.out hb)
          clear HB hE hb
          have HB := HB'
          clear HB'
          clear Ha a0 a1 a2 a3 a4 Hb b0 b1 b2 b3 b4
          obtain ⟨a0, a1, a2, a3, a4⟩ := id Va
          have Ha := Lib.hid Va
          clear Va
          obtain ⟨b0, b1, b2, b3, b4⟩ := id Vb
          have Hb := Lib.hid Vb
          clear Vb
          go_wp2_with fail
          have hE := HB.out.alloc HB.out.size (.cells #[.int .i64 m, .int .u64 (X : Int)] 32)
          refine ((T2 _ (HST.out.next hE)).out).mono ?_
          rintro e w4 ⟨rfl, hb⟩
          have Va := Ha.out.box hb
          have Vb := Hb.out.box hb
          have Vx := tabI_box hb
          have HB' := Lib.hid (below_nxtb HB.out hb)
          clear HB hE hb
          have HB := HB'
          clear HB'
          clear Ha a0 a1 a2 a3 a4 Hb b0 b1 b2 b3 b4
          obtain ⟨a0, a1, a2, a3, a4⟩ := id Va
          have Ha := Lib.hid Va
          clear Va
          obtain ⟨b0, b1, b2, b3, b4⟩ := id Vb
          have Hb := Lib.hid Vb
          clear Vb
          obtain ⟨x0, x1, x2, x3, x4⟩ := id Vx
          have Hx := Lib.hid Vx
          clear Vx
          go_wp2_with fail
          have hE := HB.out.alloc HB.out.size (.cells #[.int .i64 m, .int .u64 (Y : Int)] 32)
          refine ((M1 _).out).mono ?_
          rintro e w5 ⟨rfl, hb⟩
          have Va := Ha.out.box hb
          have Vb := Hb.out.box hb
          have Vx := Hx.out.box hb
          have Vy := tabI_box hb
          have HB' := Lib.hid (below_nxtb HB.out hb)
          clear HB hE hb
          have HB := HB'
          clear HB'
          clear Ha a0 a1 a2 a3 a4 Hb b0 b1 b2 b3 b4 Hx x0 x1 x2 x3 x4
          obtain ⟨a0, a1, a2, a3, a4⟩ := id Va
          have Ha := Lib.hid Va
          clear Va
          obtain ⟨b0, b1, b2, b3, b4⟩ := id Vb
          have Hb := Lib.hid Vb
          clear Vb
          obtain ⟨x0, x1, x2, x3, x4⟩ := id Vx
          have Hx := Lib.hid Vx
          clear Vx
          obtain ⟨y0, y1, y2, y3, y4⟩ := id Vy
          have Hy := Lib.hid Vy
          clear Vy
          go_wp2_with fail
          have hE := HB.out.alloc HB.out.size (.cells #[.int .u64 (0 : Int), .int .u64 (0 : Int)] 24)
          refine ((N1 _).out).mono ?_
          rintro e w6 ⟨rfl, hb⟩
          have Va := Ha.out.box hb
          have Vb := Hb.out.box hb
          have Vx := Hx.out.box hb
          have Vy := Hy.out.box hb
          have Vp := cubI_box (c := 0) (v := 0) hb
          have HB' := Lib.hid (below_nxtb HB.out hb)
          clear HB hE hb
          have HB := HB'
          clear HB'
          clear Ha a0 a1 a2 a3 a4 Hb b0 b1 b2 b3 b4 Hx x0 x1 x2 x3 x4 Hy y0 y1 y2 y3 y4
          obtain ⟨a0, a1, a2, a3, a4⟩ := id Va
          have Ha := Lib.hid Va
          clear Va
          obtain ⟨b0, b1, b2, b3, b4⟩ := id Vb
          have Hb := Lib.hid Vb
          clear Vb
          obtain ⟨x0, x1, x2, x3, x4⟩ := id Vx
          have Hx := Lib.hid Vx
          clear Vx
          obtain ⟨y0, y1, y2, y3, y4⟩ := id Vy
          have Hy := Lib.hid Vy
          clear Vy
          obtain ⟨p0, p1, p2, p3, p4⟩ := id Vp
          have Hp := Lib.hid Vp
          clear Vp
          go_wp2_with fail
          have hE := HB.out.alloc HB.out.size (.cells #[.int .u64 (nc : Int), .int .u64 (nv : Int)] 24)
          refine ((I1 _).out).mono ?_
          rintro e w7 ⟨rfl, hb⟩
          have Va := Ha.out.box hb
          have Vb := Hb.out.box hb
          have Vx := Hx.out.box hb
          have Vy := Hy.out.box hb
          have Vp := Hp.out.box hb
          have Vq := cubI_box (c := nc) (v := nv) hb
          have HB' := Lib.hid (below_nxtb HB.out hb)
          clear HB hE hb
          have HB := HB'
          clear HB'
          clear Ha a0 a1 a2 a3 a4 Hb b0 b1 b2 b3 b4 Hx x0 x1 x2 x3 x4 Hy y0 y1 y2 y3 y4 Hp p0 p1 p2 p3 p4
          obtain ⟨a0, a1, a2, a3, a4⟩ := id Va
          have Ha := Lib.hid Va
          clear Va
          obtain ⟨b0, b1, b2, b3, b4⟩ := id Vb
          have Hb := Lib.hid Vb
          clear Vb
          obtain ⟨x0, x1, x2, x3, x4⟩ := id Vx
          have Hx := Lib.hid Vx
          clear Vx
          obtain ⟨y0, y1, y2, y3, y4⟩ := id Vy
          have Hy := Lib.hid Vy
          clear Vy
          obtain ⟨p0, p1, p2, p3, p4⟩ := id Vp
          have Hp := Lib.hid Vp
          clear Vp
          obtain ⟨q0, q1, q2, q3, q4⟩ := id Vq
          have Hq := Lib.hid Vq
          clear Vq
          go_wp2_with fail
          have hE := HB.out
          refine ((Z1 _ (HST.out.next hE)).out).mono ?_
          rintro e w8 ⟨rfl, hb⟩
          have Va := Ha.out.step hb
          have Vb := Hb.out.step hb
          have Vx := Hx.out.step hb
          have Vy := Hy.out.step hb
          have Vp := Hp.out.step hb
          have Vq := Hq.out.step hb
          have HB' := Lib.hid (below_nxt HB.out hb)
          clear HB hE hb
          have HB := HB'
          clear HB'
          clear Ha a0 a1 a2 a3 a4 Hb b0 b1 b2 b3 b4 Hx x0 x1 x2 x3 x4 Hy y0 y1 y2 y3 y4 Hp p0 p1 p2 p3 p4 Hq q0 q1 q2 q3 q4
          obtain ⟨a0, a1, a2, a3, a4⟩ := id Va
          have Ha := Lib.hid Va
          clear Va
          obtain ⟨b0, b1, b2, b3, b4⟩ := id Vb
          have Hb := Lib.hid Vb
          clear Vb
          obtain ⟨x0, x1, x2, x3, x4⟩ := id Vx
          have Hx := Lib.hid Vx
          clear Vx
          obtain ⟨y0, y1, y2, y3, y4⟩ := id Vy
          have Hy := Lib.hid Vy
          clear Vy
          obtain ⟨p0, p1, p2, p3, p4⟩ := id Vp
          have Hp := Lib.hid Vp
          clear Vp
          obtain ⟨q0, q1, q2, q3, q4⟩ := id Vq
          have Hq := Lib.hid Vq
          clear Vq
          go_wp2_with fail
          have hE := HB.out.alloc HB.out.size (.cells #[.int .i64 m, .int .u64 (Z : Int)] 32)
          refine (awake_any _ (HST.out.next hE)).mono ?_
          rintro e w9 ⟨rfl, hb⟩
          have Va := Ha.out.box hb
          have Vb := Hb.out.box hb
          have Vx := Hx.out.box hb
          have Vy := Hy.out.box hb
          have Vp := Hp.out.box hb
          have Vq := Hq.out.box hb
          have Vz := tabI_box hb
          have HB' := Lib.hid (below_nxtb HB.out hb)
          clear HB hE hb
          have HB := HB'
          clear HB'
          clear Ha a0 a1 a2 a3 a4 Hb b0 b1 b2 b3 b4 Hx x0 x1 x2 x3 x4 Hy y0 y1 y2 y3 y4 Hp p0 p1 p2 p3 p4 Hq q0 q1 q2 q3 q4
          obtain ⟨a0, a1, a2, a3, a4⟩ := id Va
          have Ha := Lib.hid Va
          clear Va
          obtain ⟨b0, b1, b2, b3, b4⟩ := id Vb
          have Hb := Lib.hid Vb
          clear Vb
          obtain ⟨x0, x1, x2, x3, x4⟩ := id Vx
          have Hx := Lib.hid Vx
          clear Vx
          obtain ⟨y0, y1, y2, y3, y4⟩ := id Vy
          have Hy := Lib.hid Vy
          clear Vy
          obtain ⟨p0, p1, p2, p3, p4⟩ := id Vp
          have Hp := Lib.hid Vp
          clear Vp
          obtain ⟨q0, q1, q2, q3, q4⟩ := id Vq
          have Hq := Lib.hid Vq
          clear Vq
          obtain ⟨z0, z1, z2, z3, z4⟩ := id Vz
          have Hz := Lib.hid Vz
          clear Vz
          go_wp2
          go_ret
          exact ⟨rfl, HB.out⟩
        · rw [show Ic.meetV m c v d u = (((0, 0), false), 0) by unfold Ic.meetV; rw [if_pos h2, if_neg ho]] at M1
          rw [show Ic.consV m c v d u = (((0, 0), false), 0) by unfold Ic.consV; rw [if_pos h2, if_neg hcnt]] at N1
          dsimp only at M1 N1
          simp only [Int.natCast_zero] at M1 N1
          have hQ : (((Ic.tab m c v &&& Ic.tab m d u : Nat) : Int) != 0) = false := int_ne0' (Decidable.byContradiction fun h => ho (hopp.2 h))
          clear hins hopp hcnt h2 hk hk2 hX64 hY64 hcm hdm hs ht ho hmm hc hv hd hu
          generalize Ic.tab m c v &&& (18446744073709551615 - Ic.tab m d u) = zAN at *
          generalize Ic.tab m c v &&& Ic.tab m d u = zQ at *
          generalize Ic.tab m c v = X at *
          generalize Ic.tab m d u = Y at *
          generalize Ic.insB c v d u = ib at *
          go_enter Tryd.func8, Tryd.ntmps8
          go_wp2_with fail
          have hE := HB.out
          refine ((K1 _).out).mono ?_
          rintro e w1 ⟨rfl, hb⟩
          have Va := Ha.out.step hb
          have Vb := Hb.out.step hb
          have HB' := Lib.hid (below_nxt HB.out hb)
          clear HB hE hb
          have HB := HB'
          clear HB'
          clear Ha a0 a1 a2 a3 a4 Hb b0 b1 b2 b3 b4
          obtain ⟨a0, a1, a2, a3, a4⟩ := id Va
          have Ha := Lib.hid Va
          clear Va
          obtain ⟨b0, b1, b2, b3, b4⟩ := id Vb
          have Hb := Lib.hid Vb
          clear Vb
          go_wp2_with fail
          have hE := HB.out
          refine ((K2 _).out).mono ?_
          rintro e w2 ⟨rfl, hb⟩
          have Va := Ha.out.step hb
          have Vb := Hb.out.step hb
          have HB' := Lib.hid (below_nxt HB.out hb)
          clear HB hE hb
          have HB := HB'
          clear HB'
          clear Ha a0 a1 a2 a3 a4 Hb b0 b1 b2 b3 b4
          obtain ⟨a0, a1, a2, a3, a4⟩ := id Va
          have Ha := Lib.hid Va
          clear Va
          obtain ⟨b0, b1, b2, b3, b4⟩ := id Vb
          have Hb := Lib.hid Vb
          clear Vb
          go_wp2_with fail
          have hE := HB.out
          refine ((T1 _ (HST.out.next hE)).out).mono ?_
          rintro e w3 ⟨rfl, hb⟩
          have Va := Ha.out.step hb
          have Vb := Hb.out.step hb
          have HB' := Lib.hid (below_nxt HB.out hb)
          clear HB hE hb
          have HB := HB'
          clear HB'
          clear Ha a0 a1 a2 a3 a4 Hb b0 b1 b2 b3 b4
          obtain ⟨a0, a1, a2, a3, a4⟩ := id Va
          have Ha := Lib.hid Va
          clear Va
          obtain ⟨b0, b1, b2, b3, b4⟩ := id Vb
          have Hb := Lib.hid Vb
          clear Vb
          go_wp2_with fail
          have hE := HB.out.alloc HB.out.size (.cells #[.int .i64 m, .int .u64 (X : Int)] 32)
          refine ((T2 _ (HST.out.next hE)).out).mono ?_
          rintro e w4 ⟨rfl, hb⟩
          have Va := Ha.out.box hb
          have Vb := Hb.out.box hb
          have Vx := tabI_box hb
          have HB' := Lib.hid (below_nxtb HB.out hb)
          clear HB hE hb
          have HB := HB'
          clear HB'
          clear Ha a0 a1 a2 a3 a4 Hb b0 b1 b2 b3 b4
          obtain ⟨a0, a1, a2, a3, a4⟩ := id Va
          have Ha := Lib.hid Va
          clear Va
          obtain ⟨b0, b1, b2, b3, b4⟩ := id Vb
          have Hb := Lib.hid Vb
          clear Vb
          obtain ⟨x0, x1, x2, x3, x4⟩ := id Vx
          have Hx := Lib.hid Vx
          clear Vx
          go_wp2_with fail
          have hE := HB.out.alloc HB.out.size (.cells #[.int .i64 m, .int .u64 (Y : Int)] 32)
          refine ((M1 _).out).mono ?_
          rintro e w5 ⟨rfl, hb⟩
          have Va := Ha.out.box hb
          have Vb := Hb.out.box hb
          have Vx := Hx.out.box hb
          have Vy := tabI_box hb
          have HB' := Lib.hid (below_nxtb HB.out hb)
          clear HB hE hb
          have HB := HB'
          clear HB'
          clear Ha a0 a1 a2 a3 a4 Hb b0 b1 b2 b3 b4 Hx x0 x1 x2 x3 x4
          obtain ⟨a0, a1, a2, a3, a4⟩ := id Va
          have Ha := Lib.hid Va
          clear Va
          obtain ⟨b0, b1, b2, b3, b4⟩ := id Vb
          have Hb := Lib.hid Vb
          clear Vb
          obtain ⟨x0, x1, x2, x3, x4⟩ := id Vx
          have Hx := Lib.hid Vx
          clear Vx
          obtain ⟨y0, y1, y2, y3, y4⟩ := id Vy
          have Hy := Lib.hid Vy
          clear Vy
          go_wp2_with fail
          have hE := HB.out.alloc HB.out.size (.cells #[.int .u64 (0 : Int), .int .u64 (0 : Int)] 24)
          refine ((N1 _).out).mono ?_
          rintro e w6 ⟨rfl, hb⟩
          have Va := Ha.out.box hb
          have Vb := Hb.out.box hb
          have Vx := Hx.out.box hb
          have Vy := Hy.out.box hb
          have Vp := cubI_box (c := 0) (v := 0) hb
          have HB' := Lib.hid (below_nxtb HB.out hb)
          clear HB hE hb
          have HB := HB'
          clear HB'
          clear Ha a0 a1 a2 a3 a4 Hb b0 b1 b2 b3 b4 Hx x0 x1 x2 x3 x4 Hy y0 y1 y2 y3 y4
          obtain ⟨a0, a1, a2, a3, a4⟩ := id Va
          have Ha := Lib.hid Va
          clear Va
          obtain ⟨b0, b1, b2, b3, b4⟩ := id Vb
          have Hb := Lib.hid Vb
          clear Vb
          obtain ⟨x0, x1, x2, x3, x4⟩ := id Vx
          have Hx := Lib.hid Vx
          clear Vx
          obtain ⟨y0, y1, y2, y3, y4⟩ := id Vy
          have Hy := Lib.hid Vy
          clear Vy
          obtain ⟨p0, p1, p2, p3, p4⟩ := id Vp
          have Hp := Lib.hid Vp
          clear Vp
          go_wp2_with fail
          have hE := HB.out.alloc HB.out.size (.cells #[.int .u64 (0 : Int), .int .u64 (0 : Int)] 24)
          refine ((I1 _).out).mono ?_
          rintro e w7 ⟨rfl, hb⟩
          have Va := Ha.out.box hb
          have Vb := Hb.out.box hb
          have Vx := Hx.out.box hb
          have Vy := Hy.out.box hb
          have Vp := Hp.out.box hb
          have Vq := cubI_box (c := 0) (v := 0) hb
          have HB' := Lib.hid (below_nxtb HB.out hb)
          clear HB hE hb
          have HB := HB'
          clear HB'
          clear Ha a0 a1 a2 a3 a4 Hb b0 b1 b2 b3 b4 Hx x0 x1 x2 x3 x4 Hy y0 y1 y2 y3 y4 Hp p0 p1 p2 p3 p4
          obtain ⟨a0, a1, a2, a3, a4⟩ := id Va
          have Ha := Lib.hid Va
          clear Va
          obtain ⟨b0, b1, b2, b3, b4⟩ := id Vb
          have Hb := Lib.hid Vb
          clear Vb
          obtain ⟨x0, x1, x2, x3, x4⟩ := id Vx
          have Hx := Lib.hid Vx
          clear Vx
          obtain ⟨y0, y1, y2, y3, y4⟩ := id Vy
          have Hy := Lib.hid Vy
          clear Vy
          obtain ⟨p0, p1, p2, p3, p4⟩ := id Vp
          have Hp := Lib.hid Vp
          clear Vp
          obtain ⟨q0, q1, q2, q3, q4⟩ := id Vq
          have Hq := Lib.hid Vq
          clear Vq
          go_wp2_with fail
          have hE := HB.out
          refine (awake_any _ (HST.out.next hE)).mono ?_
          rintro e w8 ⟨rfl, hb⟩
          have Va := Ha.out.step hb
          have Vb := Hb.out.step hb
          have Vx := Hx.out.step hb
          have Vy := Hy.out.step hb
          have Vp := Hp.out.step hb
          have Vq := Hq.out.step hb
          have HB' := Lib.hid (below_nxt HB.out hb)
          clear HB hE hb
          have HB := HB'
          clear HB'
          clear Ha a0 a1 a2 a3 a4 Hb b0 b1 b2 b3 b4 Hx x0 x1 x2 x3 x4 Hy y0 y1 y2 y3 y4 Hp p0 p1 p2 p3 p4 Hq q0 q1 q2 q3 q4
          obtain ⟨a0, a1, a2, a3, a4⟩ := id Va
          have Ha := Lib.hid Va
          clear Va
          obtain ⟨b0, b1, b2, b3, b4⟩ := id Vb
          have Hb := Lib.hid Vb
          clear Vb
          obtain ⟨x0, x1, x2, x3, x4⟩ := id Vx
          have Hx := Lib.hid Vx
          clear Vx
          obtain ⟨y0, y1, y2, y3, y4⟩ := id Vy
          have Hy := Lib.hid Vy
          clear Vy
          obtain ⟨p0, p1, p2, p3, p4⟩ := id Vp
          have Hp := Lib.hid Vp
          clear Vp
          obtain ⟨q0, q1, q2, q3, q4⟩ := id Vq
          have Hq := Lib.hid Vq
          clear Vq
          go_wp2
          go_ret
          exact ⟨rfl, HB.out⟩
    · have hk2' : (Ic.chk n d u != 0) = true := by simp [hk2]
      rw [hk] at K1
      clear hc hv hd hu hk hk2
      generalize Ic.chk n d u = k2 at *
      go_enter Tryd.func8, Tryd.ntmps8
      go_wp2_with fail
      have hE := HB.out
      refine ((K1 _).out).mono ?_
      rintro e w1 ⟨rfl, hb⟩
      have Va := Ha.out.step hb
      have Vb := Hb.out.step hb
      have HB' := Lib.hid (below_nxt HB.out hb)
      clear HB hE hb
      have HB := HB'
      clear HB'
      clear Ha a0 a1 a2 a3 a4 Hb b0 b1 b2 b3 b4
      obtain ⟨a0, a1, a2, a3, a4⟩ := id Va
      have Ha := Lib.hid Va
      clear Va
      obtain ⟨b0, b1, b2, b3, b4⟩ := id Vb
      have Hb := Lib.hid Vb
      clear Vb
      go_wp2_with fail
      have hE := HB.out
      refine ((K2 _).out).mono ?_
      rintro e w2 ⟨rfl, hb⟩
      have Va := Ha.out.step hb
      have Vb := Hb.out.step hb
      have HB' := Lib.hid (below_nxt HB.out hb)
      clear HB hE hb
      have HB := HB'
      clear HB'
      clear Ha a0 a1 a2 a3 a4 Hb b0 b1 b2 b3 b4
      obtain ⟨a0, a1, a2, a3, a4⟩ := id Va
      have Ha := Lib.hid Va
      clear Va
      obtain ⟨b0, b1, b2, b3, b4⟩ := id Vb
      have Hb := Lib.hid Vb
      clear Vb
      go_wp2_with fail
      have hE := HB.out
      refine (awake_any _ (HST.out.next hE)).mono ?_
      rintro e w3 ⟨rfl, hb⟩
      have Va := Ha.out.step hb
      have Vb := Hb.out.step hb
      have HB' := Lib.hid (below_nxt HB.out hb)
      clear HB hE hb
      have HB := HB'
      clear HB'
      clear Ha a0 a1 a2 a3 a4 Hb b0 b1 b2 b3 b4
      obtain ⟨a0, a1, a2, a3, a4⟩ := id Va
      have Ha := Lib.hid Va
      clear Va
      obtain ⟨b0, b1, b2, b3, b4⟩ := id Vb
      have Hb := Lib.hid Vb
      clear Vb
      go_wp2
      go_ret
      exact ⟨rfl, HB.out⟩
  · have hk' : (Ic.chk n c v != 0) = true := by simp [hk]
    clear hc hv hd hu hk
    generalize Ic.chk n c v = k1 at *
    go_enter Tryd.func8, Tryd.ntmps8
    go_wp2_with fail
    have hE := HB.out
    refine ((K1 _).out).mono ?_
    rintro e w1 ⟨rfl, hb⟩
    have Va := Ha.out.step hb
    have Vb := Hb.out.step hb
    have HB' := Lib.hid (below_nxt HB.out hb)
    clear HB hE hb
    have HB := HB'
    clear HB'
    clear Ha a0 a1 a2 a3 a4 Hb b0 b1 b2 b3 b4
    obtain ⟨a0, a1, a2, a3, a4⟩ := id Va
    have Ha := Lib.hid Va
    clear Va
    obtain ⟨b0, b1, b2, b3, b4⟩ := id Vb
    have Hb := Lib.hid Vb
    clear Vb
    go_wp2_with fail
    have hE := HB.out
    refine (awake_any _ (HST.out.next hE)).mono ?_
    rintro e w2 ⟨rfl, hb⟩
    have Va := Ha.out.step hb
    have Vb := Hb.out.step hb
    have HB' := Lib.hid (below_nxt HB.out hb)
    clear HB hE hb
    have HB := HB'
    clear HB'
    clear Ha a0 a1 a2 a3 a4 Hb b0 b1 b2 b3 b4
    obtain ⟨a0, a1, a2, a3, a4⟩ := id Va
    have Ha := Lib.hid Va
    clear Va
    obtain ⟨b0, b1, b2, b3, b4⟩ := id Vb
    have Hb := Lib.hid Vb
    clear Vb
    go_wp2
    go_ret
    exact ⟨rfl, HB.out⟩
theorem lawMeets_card (x0 x1 y1 x2 y2 : Int) (W : World) (hst : St W) (_ : -9223372036854775808 ≤ x0) (_ : x0 ≤ 9223372036854775807) (h0 : 0 ≤ x1) (h1 : x1 ≤ 18446744073709551615) (h2 : 0 ≤ y1) (h3 : y1 ≤ 18446744073709551615) (h4 : 0 ≤ x2) (h5 : x2 ≤ 18446744073709551615) (h6 : 0 ≤ y2) (h7 : y2 ≤ 18446744073709551615) :
    Calls Tryd.prog 8 #[.int .i64 x0, .agg #[.int .u64 x1, .int .u64 y1], .agg #[.int .u64 x2, .int .u64 y2]] W fun e w' => e = .returned (.bool true) ∧ Below W.heap.size W w' := by
  obtain ⟨c, rfl⟩ := Int.eq_ofNat_of_zero_le h0
  obtain ⟨v, rfl⟩ := Int.eq_ofNat_of_zero_le h2
  obtain ⟨d, rfl⟩ := Int.eq_ofNat_of_zero_le h4
  obtain ⟨u, rfl⟩ := Int.eq_ofNat_of_zero_le h6
  exact lawMeets_any x0 c v d u W hst (by omega) (by omega) (by omega) (by omega)
end Go.Proofs.YtabflijfbjdpgaaDoor
