/- The contracts of the functions of the reference on natural numbers: shared, read, digits. The contract of the function of the reference that writes natural numbers. -/
import Derived.Test.YtldclpdmcopgnaaGreatDoorRd
import Derived.Test.YtldclpdmcopgnaaGreatDoorNum
namespace Go.Proofs.YtldclpdmcopgnaaGreatDoor
open Go.RowKit

set_option maxRecDepth 100000 in
set_option maxHeartbeats 1000000 in
theorem rshared_any (u v : Value) (m n p : Nat) (w : World) (hu : IsNat .i64 1000000 w u m p) (hv : IsNat .i64 1000000 w v n p) (hp : p ≤ 400) :
    Calls Tryz.prog 93 #[u, v] w fun e w' => ∃ r, e = .returned r ∧ Below w.heap.size w w' ∧ IsNat .i64 1000000 w' r (Nat.gcd m n) p := by
  go_enter Tryz.func93, Tryz.ntmps93
  go_wp2
  go_loopg [0, 1] n (fun g u0 u1 wr => ∃ m' : Nat, IsNat .i64 1000000 wr u0 m' p ∧ IsNat .i64 1000000 wr u1 g p ∧ Hid (Nat.gcd m' g = Nat.gcd m n) ∧ Below w.heap.size w wr)
  case atStart => exact ⟨m, hu, hv, Lib.hid rfl, Below.refl _ _⟩
  case round =>
    obtain ⟨m', h0, h1, HG, hbel⟩ := hrel
    have H1 := Lib.hid h1
    obtain ⟨l, sl, nl, el, ll⟩ := h1
    obtain ⟨ao, ca, rfl, a1, a2, _⟩ := sl.opened
    clear sl
    by_cases hg : 0 < gk
    · have hpos : 0 < l.length := by rw [← Limb.norm_pos (B := 1000000) (by omega) nl, el]; exact hg
      have CO := Lib.hid (rquot_any h0 H1.out hg (by omega) (by omega))
      clear el nl h0
      go_wp2_with (go_at_call 121; refine (CO.out).mono ?_; rintro e w2 ⟨r, s, rfl, hb2, hr, hs⟩)
      go_roundg (m' % gk)
      case measure => exact Nat.mod_lt _ hg
      case rel => exact ⟨gk, H1.out.below hb2 (Nat.le_refl _), hs, Lib.hid (by rw [← HG.out, Nat.gcd_comm m' gk, Nat.gcd_rec gk m', Nat.gcd_comm]), hbel.trans (hb2.mono hbel.size)⟩
    · have hz : l.length = 0 := by
        rcases Nat.eq_zero_or_pos l.length with h | h
        · exact h
        · exact absurd ((Limb.norm_pos (B := 1000000) (by omega) nl).2 h) (by rw [el]; exact hg)
      have hgz : gk = 0 := by omega
      have hneg : ¬ 0 < l.length := by omega
      have HM := Lib.hid (show m' = Nat.gcd m n by rw [← HG.out, hgz, Nat.gcd_zero_right])
      have H0 := Lib.hid h0
      clear hz hgz el nl h0
      go_wp2
      go_ret
      exact ⟨_, rfl, hbel, by rw [← HM.out]; exact H0.out⟩

theorem rchunk_step {l : List UInt8} {a : List Nat} {n k x : Nat} (hl : l.length = n) (hk : 6 * k < n) (ha : a.length = k) (hv : Limb.val 1000000 a = Fr.dv (l.drop (n - 6 * k))) (hx : Fr.dv (mid l (n - 6 * k - 6) (n - 6 * k)) = x) :
    Limb.val 1000000 (a ++ [x]) = Fr.dv (l.drop (n - 6 * (k + 1))) := by
  rw [Limb.val_append, ha, hv, show n - 6 * (k + 1) = n - 6 * k - 6 by omega, mid_drop l (n - 6 * k - 6) (n - 6 * k) (by omega), dv_append, hx, List.length_drop, hl, show n - (n - 6 * k) = 6 * k by omega, Nat.pow_mul, Limb.val_cons, Limb.val_nil, Nat.mul_zero, Nat.add_zero, Nat.mul_comm x, Nat.add_comm]

set_option maxRecDepth 100000 in
set_option maxHeartbeats 1000000 in
theorem rread_own (s : ByteArray) (w : World) (hs : s.size ≤ 1000) (hd : s.data.toList.all Fr.isDig = true) :
    Calls Tryz.prog 94 #[.string s] w fun e w' => ∃ r, e = .returned r ∧ Below w.heap.size w w' ∧ IsNat .i64 1000000 w' r (Fr.dv s.data.toList) (s.size / 6 + 1) ∧ ∀ g, g < w.heap.size → r.ownBlock ≠ some g := by
  obtain ⟨i0, hi, hz0, hz1, hz2⟩ := info_parts Tryz.infoI64
  go_enter Tryz.func94, Tryz.ntmps94
  go_wp2
  go_loopw [3, 4] (fun u3 u4 wr => ∃ (k : Nat) (a : List Nat), u4 = .int .i64 ((s.size : Int) - 6 * (k : Int)) ∧ 6 * k < s.size + 6 ∧ Hid (a.length = k) ∧ Row w.heap.size .i64 3 wr u3 a ∧ Limb.small 1000000 a ∧ Below w.heap.size w wr ∧
      Hid (Limb.val 1000000 a = Fr.dv (s.data.toList.drop (s.size - 6 * k)))) (fun _ u4 _ => (intOf u4).toNat)
  case atStart => exact ⟨0, [], by go_num, by omega, Lib.hid rfl, Row.nil _ _ _ _, fun x hx => by simp at hx, Below.refl _ _, by unfold Hid; rw [Nat.mul_zero, Nat.sub_zero, List.drop_eq_nil_of_le (by show s.data.toList.length ≤ s.data.toList.length; exact Nat.le_refl _)]; rfl⟩
  case round =>
    obtain ⟨k, a, rfl, hk, HA, hrow, hsm, hbel, HV⟩ := hrel
    by_cases hpos : 6 * k < s.size
    · rcases Nat.lt_or_ge (s.size - 6 * k) 7 with hE | hE
      all_goals
        go_wp2
        go_loop [5, 6] (fun u5 u6 => ∃ j x : Nat, s.size - 6 * k - 6 ≤ j ∧ j ≤ s.size - 6 * k ∧ u6 = .int .i64 j ∧ u5 = .int .i64 x ∧ Hid (Fr.dv (mid s.data.toList (s.size - 6 * k - 6) j) = x)) (fun _ u6 => s.size - (intOf u6).toNat)
        case atStart => exact ⟨s.size - 6 * k - 6, 0, by omega, by omega, by go_num, rfl, by unfold Hid; rw [mid_start]; rfl⟩
        case round =>
          obtain ⟨j, x, hj1, hj2, rfl, rfl, HX⟩ := hrel
          have hx0 := mid_lt hd (s.size - 6 * k - 6) j
          rw [HX.out] at hx0
          by_cases hjE : j < s.size - 6 * k
          · have hjs : j < s.size := by omega
            have hp8 : 10 ^ (j - (s.size - 6 * k - 6)) ≤ 10 ^ 5 := Nat.pow_le_pow_right (by omega) (by omega)
            have hx1 : x < 100000 := Nat.lt_of_lt_of_le hx0 hp8
            clear hp8
            have hdj : Fr.isDig (s[j]'hjs) = true := List.all_eq_true.1 hd _ (by show s.data[j] ∈ _; exact Array.getElem_mem_toList _)
            unfold Fr.isDig at hdj
            simp only [Bool.and_eq_true, decide_eq_true_eq] at hdj
            have hd1 : (48 : Int) ≤ ((s[j]'hjs).toNat : Int) := by omega
            have hd2 : ((s[j]'hjs).toNat : Int) ≤ 57 := by omega
            have HS := Lib.hid (mid_snoc s.data.toList (s.size - 6 * k - 6) j hj1 (by show j < s.data.toList.length; exact hjs))
            clear hdj hx0
            go_wp2
            go_round
            case rel =>
              refine ⟨j + 1, x * 10 + ((s[j]'hjs).toNat - 48), by omega, by omega, by go_num, by refine congrArg _ ?_; omega, ?_⟩
              unfold Hid
              rw [HS.out, dv_snoc, HX.out]
              rfl
            case measure => simp [intOf]; omega
          · have hjE2 : j = s.size - 6 * k := by omega
            have HX2 := Lib.hid (show Fr.dv (mid s.data.toList (s.size - 6 * k - 6) (s.size - 6 * k)) = x by have h := HX.out; rw [hjE2] at h; exact h)
            have hx9 : 10 ^ (j - (s.size - 6 * k - 6)) ≤ 10 ^ 6 := Nat.pow_le_pow_right (by omega) (by omega)
            have hx1 : x < 1000000 := Nat.lt_of_lt_of_le hx0 hx9
            have hal : a.length ≤ 200 := by rw [HA.out]; omega
            clear hjE2 hx9 hx0
            go_wp2_with (at_builtin; refine wpList_append_nat rfl _ _ 113 rfl 3 i0 .i64 8 Tryz.underlying113 hi hz0 hz1 hz2 (by omega) _ _ a [x] rfl rfl w.heap.size (hrow.below ((Below.refl _ _).alloc (Nat.le_refl _) _) (Nat.le_refl _)) ((Row.one 0 _ _ _ (Nat.zero_le _) x _ rfl).sees) (by simp; omega) (by have := hbel.size; simp; omega) ?_; intro v5 w5 hr5 hb5)
            go_roundw
            case rel =>
              refine ⟨k + 1, a ++ [x], by refine congrArg _ ?_; omega, by omega, ?_, hr5, ?_, (hbel.alloc hbel.size _).trans hb5, ?_⟩
              · unfold Hid; rw [List.length_append, HA.out]; rfl
              · intro z hz
                rcases List.mem_append.1 hz with h | h
                · exact hsm z h
                · rw [List.mem_singleton.1 h]; exact hx1
              · exact rchunk_step (by rfl) hpos HA.out HV.out HX2.out
            case measure => simp [intOf]; omega
    · have CT := Lib.hid (rtrim_own u3 a wr hrow.sees hsm)
      have HR := Lib.hid (World.ownsRow.lt hrow)
      have HV2 := Lib.hid (show Limb.val 1000000 a = Fr.dv s.data.toList by have h := HV.out; rw [show s.size - 6 * k = 0 by omega, List.drop_zero] at h; exact h)
      have hal : a.length ≤ s.size / 6 + 1 := by rw [HA.out]; omega
      clear hd
      go_wp2_with (go_at_call 122; refine (CT.out).mono ?_; rintro e w' ⟨r, rfl, rfl, hr, hro⟩)
      go_ret
      rw [HV2.out] at hr
      exact ⟨r, rfl, hbel, hr.up hal, fun g hg e => by rw [hro] at e; have := (HR.out g e).1; omega⟩


end Go.Proofs.YtldclpdmcopgnaaGreatDoor

namespace Go.Proofs.YtldclpdmcopgnaaGreatDoor
open Go.RowKit

theorem dig_step {st : List UInt8} {p k n D v : Nat} (hp : st.length = p) (hk : k < 6) (h : Fr.dv st + 10 ^ p * (n + 10 ^ (6 - k) * D) = v) :
    Fr.dv (Fr.byte (n % 10) :: st) + 10 ^ (p + 1) * (n / 10 + 10 ^ (6 - (k + 1)) * D) = v := by
  rw [Fr.dv_cons, Fr.dig_byte (by omega), hp, ← h, Nat.pow_succ, Nat.mul_assoc, Nat.mul_comm (n % 10)]
  have h1 : 10 ^ (6 - k) = 10 * 10 ^ (6 - (k + 1)) := by rw [show 6 - k = (6 - (k + 1)) + 1 by omega, Nat.pow_succ, Nat.mul_comm]
  rw [h1, Nat.mul_assoc 10]
  generalize 10 ^ (6 - (k + 1)) * D = X
  have h2 : n = n % 10 + 10 * (n / 10) := by omega
  have h3 : n + 10 * X = n % 10 + 10 * (n / 10 + X) := by omega
  rw [h3, Nat.mul_add (10 ^ p)]
  omega
theorem dig_piece (d : Nat) (hd : d < 10) : (ByteArray.mk #[48, 49, 50, 51, 52, 53, 54, 55, 56, 57]).extract d (d + 1) = ⟨#[Fr.byte d]⟩ := by
  match d, hd with
  | 0, _ => rfl
  | 1, _ => rfl
  | 2, _ => rfl
  | 3, _ => rfl
  | 4, _ => rfl
  | 5, _ => rfl
  | 6, _ => rfl
  | 7, _ => rfl
  | 8, _ => rfl
  | 9, _ => rfl
theorem dig_cat (c : UInt8) (st : List UInt8) : (ByteArray.mk #[c]) ++ ⟨st.toArray⟩ = ⟨(c :: st).toArray⟩ := by
  apply ByteArray.ext
  rw [ByteArray.data_append]
  simp
theorem dig_slice (d : Nat) (hd : d < 10) (w : World) :
    (Instr.slice 9 (.string ⟨#[48, 49, 50, 51, 52, 53, 54, 55, 56, 57]⟩) (some (.int .i64 (d : Int))) (some (.int .i64 ((d : Int) + 1))) none).run Tryz.prog w = .ok (.string ⟨#[Fr.byte d]⟩) w := by
  rw [run_slice_string w 9 _ .i64 .i64 (d : Int) ((d : Int) + 1) Tryz.underlying9 (by omega) (by omega) (by show (d : Int) + 1 ≤ 10; omega)]
  rw [show ((d : Int)).toNat = d by omega, show ((d : Int) + 1).toNat = d + 1 by omega, dig_piece d hd]

set_option maxRecDepth 100000 in
set_option maxHeartbeats 2000000 in
theorem rdigits_any {v : Value} {m p : Nat} {w : World} (hv : IsNat .i64 1000000 w v m p) (hp : p ≤ 900) :
    Calls Tryz.prog 127 #[v] w fun e w' => e = .returned (.string ⟨(Fr.render m).toArray⟩) ∧ ∃ n, w' = w.drewN n := by
  obtain ⟨a, sa, na, ea, la⟩ := hv
  obtain ⟨ao, ca, rfl, a1, a2, CA⟩ := sa.opened
  clear sa
  by_cases h0 : a.length = 0
  · have hm : m = 0 := by rw [← ea]; exact (Limb.norm_zero (by omega) na).2 h0
    have hb0 : ((a.length : Int) == 0) = true := by simp [h0]
    subst hm
    clear ea na h0 CA
    go_enter Tryz.func127, Tryz.ntmps127
    go_wp2
    go_ret
    exact ⟨rfl, 0, rfl⟩
  · have hb0 : ((a.length : Int) == 0) = false := by rw [beq_eq_false_iff_ne]; omega
    have htop := na.2 (by omega)
    have nas := na.1
    have EA := Lib.hid ea
    have HTOP := Lib.hid htop
    clear ea na htop
    go_enter Tryz.func127, Tryz.ntmps127
    go_wp2
    go_loopw [3, 4] (fun u3 u4 wr => ∃ (i n : Nat) (st : List UInt8), i ≤ a.length ∧ u4 = .int .i64 i ∧ u3 = .string ⟨st.toArray⟩ ∧ wr = w.drewN n ∧ Hid (st.all Fr.isDig = true) ∧
        Hid (i < a.length → st.length = 6 * i ∧ Fr.dv st + 10 ^ (6 * i) * Limb.val 1000000 (a.drop i) = m) ∧ Hid (i = a.length → st ≠ [] ∧ st.head? ≠ some 48 ∧ Fr.dv st = m)) (fun _ u4 _ => a.length - (intOf u4).toNat)
    case atStart => exact ⟨0, 0, [], Nat.zero_le _, rfl, rfl, rfl, Lib.hid rfl, Lib.hid (fun _ => ⟨rfl, by rw [List.drop_zero, EA.out]; simp [Fr.dv]⟩), Lib.hid (fun h => by omega)⟩
    case round =>
      obtain ⟨i, n, st, hi, rfl, rfl, rfl, HD, HM, HE⟩ := hrel
      by_cases hlt : i < a.length
      · obtain ⟨b0, off, rfl, hb0', hca⟩ := CA.at (below_drewN w n) hlt
        have hx0 := Limb.small_getD (by omega) nas i
        obtain ⟨x, hx⟩ : ∃ x, a.getD i 0 = x := ⟨_, rfl⟩
        rw [hx] at hx0 hca
        obtain ⟨D, hD⟩ : ∃ D, Limb.val 1000000 (a.drop (i + 1)) = D := ⟨_, rfl⟩
        have hsp : Limb.val 1000000 (a.drop i) = x + 1000000 * D := by rw [Limb.val_drop, hx, hD]
        obtain ⟨m1, m2⟩ := HM.out hlt
        rw [hsp] at m2
        have hlast : i + 1 = a.length → 0 < x := by
          intro h
          have := HTOP.out
          rw [← h, Nat.add_sub_cancel, hx] at this
          exact this
        have hD0 : i + 1 = a.length → D = 0 := by
          intro h; rw [← hD, List.drop_eq_nil_of_le (by omega)]; rfl
        have HX := Lib.hid hx
        have HDD := Lib.hid hD
        have M1 := Lib.hid m1
        have M2 := Lib.hid m2
        have HL := Lib.hid hlast
        have HD0 := Lib.hid hD0
        clear hx hD hsp m1 m2 hlast hD0 HM HE
        go_wp2
        go_loop [3, 5, 6] (fun u3 u5 u6 => ∃ (k y : Nat) (sq : List UInt8), k ≤ 6 ∧ y < 1000000 ∧ u6 = .int .i64 k ∧ u5 = .int .i64 y ∧ u3 = .string ⟨sq.toArray⟩ ∧ Hid (sq.all Fr.isDig = true) ∧ Hid (y < 10 ^ (6 - k)) ∧ Hid (sq.length = 6 * i + k) ∧
            Hid (Fr.dv sq + 10 ^ (6 * i + k) * (y + 10 ^ (6 - k) * D) = m) ∧ Hid (i + 1 = a.length → 0 < y ∨ (sq ≠ [] ∧ sq.head? ≠ some 48))) (fun _ _ u6 => 6 - (intOf u6).toNat)
        case atStart => exact ⟨0, x, st, by omega, hx0, rfl, rfl, rfl, HD, Lib.hid hx0, M1, M2, Lib.hid fun h => .inl (HL.out h)⟩
        case round =>
          obtain ⟨k, y, sq, hk, hy6, rfl, rfl, rfl, QD, QY, QL, QM, QH⟩ := hrel
          by_cases hk6 : k < 6
          · by_cases hgo : (i + 1 < a.length) ∨ 0 < y
            · obtain ⟨d, hd⟩ : ∃ d, y % 10 = d := ⟨_, rfl⟩
              have hd1 : (y : Int) % 10 = (d : Int) := by omega
              have hd9 : d < 10 := by omega
              have HS := Lib.hid (dig_step QL.out hk6 QM.out)
              have hsl := dig_slice d hd9
              have HC := Lib.hid (dig_cat (Fr.byte d) sq)
              have hrel2 : ∃ (k' y' : Nat) (sq' : List UInt8), k' ≤ 6 ∧ y' < 1000000 ∧ Value.int .i64 ((k : Int) + 1) = .int .i64 k' ∧ Value.int .i64 ((y : Int) / 10) = .int .i64 y' ∧ Value.string ((ByteArray.mk #[Fr.byte d]) ++ ⟨sq.toArray⟩) = .string ⟨sq'.toArray⟩ ∧ Hid (sq'.all Fr.isDig = true) ∧ Hid (y' < 10 ^ (6 - k')) ∧ Hid (sq'.length = 6 * i + k') ∧
                  Hid (Fr.dv sq' + 10 ^ (6 * i + k') * (y' + 10 ^ (6 - k') * D) = m) ∧ Hid (i + 1 = a.length → 0 < y' ∨ (sq' ≠ [] ∧ sq'.head? ≠ some 48)) := by
                refine ⟨k + 1, y / 10, Fr.byte d :: sq, by omega, by omega, by refine congrArg _ ?_; omega, by refine congrArg _ ?_; omega, by rw [HC.out], ?_, ?_, ?_, ?_, ?_⟩
                · unfold Hid; rw [List.all_cons, QD.out, Fr.isDig_byte hd9]; rfl
                · have := QY.out
                  rw [show 6 - k = (6 - (k + 1)) + 1 by omega, Nat.pow_succ] at this
                  unfold Hid; omega
                · unfold Hid; rw [List.length_cons, QL.out]; omega
                · rw [← hd]; exact HS.out
                · intro h
                  by_cases hz : 0 < y / 10
                  · exact .inl hz
                  · right
                    refine ⟨by simp, ?_⟩
                    intro he
                    have hb : Fr.byte d = 48 := by simpa using he
                    have h1 := Fr.dig_byte hd9
                    rw [hb] at h1
                    have h2 : Fr.dig 48 = 0 := rfl
                    rcases hgo with h3 | h3 <;> omega
              have HR := Lib.hid hrel2
              have hs1 : sq.length ≤ 6000 := by rw [QL.out]; omega
              have hs2 : (ByteArray.mk sq.toArray).size ≤ 6000 := by simpa [ByteArray.size] using hs1
              have hs3 : (ByteArray.mk #[Fr.byte d]).size ≤ 1 := Nat.le_refl _
              clear hrel2 hd
              rcases Nat.lt_or_ge (i + 1) a.length with hl | hl
              · go_wp2
                go_round
                case rel => exact HR.out
                case measure => simp [intOf]; omega
              · have hy0 : 0 < y := by rcases hgo with h | h <;> omega
                go_wp2
                go_round
                case rel => exact HR.out
                case measure => simp [intOf]; omega
            · have hy0 : ¬ 0 < y := by omega
              have hi1 : ¬ i + 1 < a.length := by omega
              go_wp2
              go_roundw
              case rel =>
                refine ⟨i + 1, n, sq, by omega, by go_num, rfl, rfl, QD, Lib.hid (fun h => absurd h hi1), Lib.hid (fun h => ?_)⟩
                rcases QH.out h with h1 | ⟨h1, h2⟩
                · omega
                · have h3 := QM.out
                  rw [HD0.out h, show y = 0 by omega] at h3
                  exact ⟨h1, h2, by simpa using h3⟩
              case measure => simp [intOf]; omega
          · have hk2 : k = 6 := by omega
            have HY := Lib.hid (show y = 0 by have := QY.out; rw [hk2] at this; simp at this; omega)
            have HK := Lib.hid hk2
            clear hk2
            go_wp2
            go_roundw
            case rel =>
              refine ⟨i + 1, n, sq, by omega, by go_num, rfl, rfl, QD, Lib.hid (fun h => ⟨?_, ?_⟩), Lib.hid (fun h => ?_)⟩
              · rw [QL.out, HK.out]; omega
              · have h3 := QM.out
                rw [HY.out, HK.out] at h3
                rw [HDD.out, show 6 * (i + 1) = 6 * i + 6 by omega]
                simpa using h3
              · rcases QH.out h with h1 | ⟨h1, h2⟩
                · rw [HY.out] at h1; omega
                · have h3 := QM.out
                  rw [HD0.out h, HY.out] at h3
                  exact ⟨h1, h2, by simpa using h3⟩
            case measure => simp [intOf]; omega
      · have hie : i = a.length := by omega
        obtain ⟨h1, h2, h3⟩ := HE.out hie
        have HF := Lib.hid (show st = Fr.render m by rw [← h3]; exact (Fr.render_dv HD.out h1 h2).symm)
        clear hie h1 h2 h3
        go_wp2
        go_ret
        rw [HF.out]
        exact ⟨rfl, n, rfl⟩

end Go.Proofs.YtldclpdmcopgnaaGreatDoor

