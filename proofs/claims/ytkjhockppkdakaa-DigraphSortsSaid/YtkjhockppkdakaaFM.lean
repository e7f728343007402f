/- Round, Cycle, Order and Layers of the reference; the same of the program, all errors included. -/
import Derived.Test.YtkjhockppkdakaaFL
import Derived.Test.YtkjhockppkdakaaDV
import Derived.Test.YtkjhockppkdakaaDJ
namespace Dg
/-- The least vertex on a cycle. -/
def lo (n : Nat) (es : List (Nat × Nat)) : Option Nat := (List.range n).find? (onC n es)
theorem lo_some {n : Nat} {es : List (Nat × Nat)} {x : Nat} (hx : x < n) (hc : onC n es x = true) (hl : ∀ y, y < x → onC n es y = false) : lo n es = some x := find_range.2 ⟨hx, hc, hl⟩
theorem lo_none {n : Nat} {es : List (Nat × Nat)} (h : ∀ y, y < n → onC n es y = false) : lo n es = none := List.find?_eq_none.2 fun y hy => by rw [h y (List.mem_range.1 hy)]; simp
def cyE (n : Int) (E : List (Int × Int)) : Int := if chk n E ≠ 0 then chk n E else if (lo n.toNat (nE E)).isSome then 0 else 6
def cyL (n : Int) (E : List (Int × Int)) : List Int := if chk n E ≠ 0 then [] else match lo n.toNat (nE E) with | some x => ci (cyc n.toNat (nE E) x) | none => []
def orE (n : Int) (E : List (Int × Int)) : Int := if chk n E ≠ 0 then chk n E else if (ordL n.toNat (nE E)).length = n.toNat then 0 else 20
def orL (n : Int) (E : List (Int × Int)) : List Int := if orE n E = 0 then ci (ordL n.toNat (nE E)) else []
def Lay (n : Int) (E : List (Int × Int)) (L : List Int) : Prop := if orE n E = 0 then Top n.toNat (nE E) L else L = []
theorem lay_eq {n : Int} {E : List (Int × Int)} {L L' : List Int} (h : Lay n E L) (h' : Lay n E L') : L = L' := by
  unfold Lay at *
  split at h
  · next hc => rw [if_pos hc] at h'; exact top_eq h h'
  · next hc => rw [if_neg hc] at h'; rw [h, h']
theorem cy_some (m : Nat) (es : List (Nat × Nat)) (h : chk m (cst es) = 0) {x : Nat} (hl : lo m es = some x) : cyE m (cst es) = 0 ∧ cyL m (cst es) = ci (cyc m es x) := by
  have hh : ¬ (chk m (cst es) ≠ 0) := fun g => g h
  refine ⟨?_, ?_⟩
  · unfold cyE
    rw [if_neg hh, nE_cst, Int.toNat_natCast, hl]; rfl
  · unfold cyL
    rw [if_neg hh, nE_cst, Int.toNat_natCast, hl]
theorem cy_none (m : Nat) (es : List (Nat × Nat)) (h : chk m (cst es) = 0) (hl : lo m es = none) : cyE m (cst es) = 6 ∧ cyL m (cst es) = [] := by
  have hh : ¬ (chk m (cst es) ≠ 0) := fun g => g h
  refine ⟨?_, ?_⟩
  · unfold cyE
    rw [if_neg hh, nE_cst, Int.toNat_natCast, hl]; rfl
  · unfold cyL
    rw [if_neg hh, nE_cst, Int.toNat_natCast, hl]
theorem cy_bad {n : Int} {E : List (Int × Int)} (h : chk n E ≠ 0) : cyE n E = chk n E ∧ cyL n E = [] := ⟨if_pos h, if_pos h⟩
theorem or_full (m : Nat) (es : List (Nat × Nat)) (h : chk m (cst es) = 0) (hF : (ordL m es).length = m) : orE m (cst es) = 0 ∧ orL m (cst es) = ci (ordL m es) := by
  have h1 : orE m (cst es) = 0 := by
    unfold orE
    rw [if_neg (by simp [h]), nE_cst]
    simp only [Int.toNat_natCast]
    rw [if_pos hF]
  refine ⟨h1, ?_⟩
  unfold orL
  rw [if_pos h1, nE_cst]
  simp only [Int.toNat_natCast]
theorem or_ring (m : Nat) (es : List (Nat × Nat)) (h : chk m (cst es) = 0) (hF : (ordL m es).length ≠ m) : orE m (cst es) = 20 ∧ orL m (cst es) = [] := by
  have h1 : orE m (cst es) = 20 := by
    unfold orE
    rw [if_neg (by simp [h]), nE_cst]
    simp only [Int.toNat_natCast]
    rw [if_neg hF]
  refine ⟨h1, ?_⟩
  unfold orL
  rw [if_neg (by omega)]
theorem or_bad {n : Int} {E : List (Int × Int)} (h : chk n E ≠ 0) : orE n E = chk n E ∧ orL n E = [] := by
  have h1 : orE n E = chk n E := if_pos h
  refine ⟨h1, ?_⟩
  unfold orL
  rw [if_neg (by rw [h1]; exact h)]
theorem lay_full (m : Nat) (es : List (Nat × Nat)) (h : orE m (cst es) = 0) {L : List Int} (hT : Top m es L) : Lay m (cst es) L := by
  unfold Lay
  rw [if_pos h, nE_cst]
  simpa using hT
theorem lay_nil {n : Int} {E : List (Int × Int)} (h : orE n E ≠ 0) : Lay n E [] := by
  unfold Lay
  rw [if_neg h]
/-- What the rounds of Layers of the reference have brought. -/
def Rnd (n : Nat) (es : List (Nat × Nat)) (r i : Nat) (L : List Int) : Prop := L.length = n ∧ ∀ x, x < n → ∃ k : Nat, L.getD x 0 = k ∧ wk es k x = true ∧ (∀ j, j ≤ r → wk es j x = true → j ≤ k) ∧ ∀ e ∈ es.take i, e.2 = x → ∀ j, j ≤ r → wk es j e.1 = true → j + 1 ≤ k
theorem Rnd.start (n : Nat) (es : List (Nat × Nat)) : Rnd n es 0 0 (List.replicate n 0) := ⟨by simp, fun x hx => ⟨0, by simp [List.getD_eq_getElem?_getD, hx], rfl, fun j hj _ => hj, fun e he => by simp at he⟩⟩
theorem Rnd.put {n : Nat} {es : List (Nat × Nat)} {r i : Nat} {L : List Int} (h : Rnd n es r i L) (hi : i < es.length) (ha : (es.getD i (0, 0)).1 < n) (hb : (es.getD i (0, 0)).2 < n) : Rnd n es r (i + 1) (L.set (es.getD i (0, 0)).2 (max (L.getD (es.getD i (0, 0)).2 0) (L.getD (es.getD i (0, 0)).1 0 + 1))) := by
  have hmem : es.getD i (0, 0) ∈ es := getD_mem hi
  rw [show Rnd n es r (i + 1) _ = (_ ∧ _) from rfl, take_at (0, 0) hi]
  generalize es.getD i (0, 0) = y at *
  obtain ⟨ka, hka, wa, ta, _⟩ := h.2 y.1 ha
  refine ⟨by rw [List.length_set]; exact h.1, fun x hx => ?_⟩
  obtain ⟨k, hk, w, t1, t2⟩ := h.2 x hx
  rw [set_getD _ _ _ _ _ (by rw [h.1]; exact hb)]
  by_cases e : x = y.2
  · subst e
    rw [if_pos rfl, hk, hka]
    rcases Nat.lt_or_ge k (ka + 1) with g | g
    · refine ⟨ka + 1, by omega, wk_succ.2 ⟨y.1, hmem, wa⟩, fun j hj hw => by have := t1 j hj hw; omega, fun e he hx' j hj hw => ?_⟩
      rcases List.mem_append.1 he with he | he
      · have := t2 e he hx' j hj hw; omega
      · rw [List.mem_singleton.1 he] at hw
        have := ta j hj hw; omega
    · refine ⟨k, by omega, w, t1, fun e he hx' j hj hw => ?_⟩
      rcases List.mem_append.1 he with he | he
      · exact t2 e he hx' j hj hw
      · rw [List.mem_singleton.1 he] at hw
        have := ta j hj hw; omega
  · rw [if_neg e]
    refine ⟨k, hk, w, t1, fun e' he hx' j hj hw => ?_⟩
    rcases List.mem_append.1 he with he | he
    · exact t2 e' he hx' j hj hw
    · rw [List.mem_singleton.1 he] at hx'
      exact absurd hx'.symm e
theorem Rnd.next {n : Nat} {es : List (Nat × Nat)} {r : Nat} {L : List Int} (h : Rnd n es r es.length L) : Rnd n es (r + 1) 0 L := ⟨h.1, fun x hx => by
  obtain ⟨k, hk, w, t1, t2⟩ := h.2 x hx
  rw [List.take_length] at t2
  refine ⟨k, hk, w, fun j hj hw => ?_, fun e he => by simp at he⟩
  cases j with
  | zero => omega
  | succ j =>
    obtain ⟨u, hu, hw'⟩ := wk_succ.1 hw
    exact t2 (u, x) hu rfl j (by omega) hw'⟩
theorem Rnd.top {n : Nat} {es : List (Nat × Nat)} {L : List Int} (hF : (ordL n es).length = n) (h : Rnd n es n 0 L) : Top n es L := ⟨h.1, fun x hx => by
  obtain ⟨k, hk, w, t1, _⟩ := h.2 x hx
  exact ⟨k, hk, w, fun m hm => t1 m (Nat.le_of_lt (full_lt hF hx hm)) hm⟩⟩
end Dg
namespace Go.Proofs.Ytkjhockppkdakaa
open Go.RowKit Go.Shelf

set_option maxHeartbeats 4000000 in
set_option maxRecDepth 100000 in
theorem rRound_ok (m : Nat) (es : List (Nat × Nat)) (x : Nat) (v : Value) (w : World) (hE : Dg.Ok m es) (hx : x < m) (hc : Dg.onC m es x = true) (hm : m ≤ 256) (hle : es.length ≤ 4096) (hv : SeesE w v (Dg.cst es)) :
    Calls Try.prog 55 #[.agg #[.int .i64 m, v], .int .i64 x] w fun e w' => ∃ u, e = .returned u ∧ SeesI w' u (Dg.ci (Dg.cyc m es x)) ∧ Below w.heap.size w w' := by
  obtain ⟨i0, hi0, hz0, hz1, hz2⟩ := info_int
  have BX := fun (W : World) (o : Obj) => (Below.refl W.heap.size W).alloc (Nat.le_refl _) o
  obtain ⟨hn1, hn2, -, hn4, -⟩ := Dg.near_ok (t := x) hE x hc
  obtain ⟨k, hk⟩ := Int.eq_ofNat_of_zero_le hn4
  have hkm : k < m := by
    have := Dg.dist_lt (n := m) (E := Dg.rv es) (s := x) hx (v := Dg.nx m es x x)
    unfold Dg.dt at hk; omega
  have HCY : Hid (Dg.cyc m es x = x :: (Dg.pth m es x (Dg.nx m es x x) k).take k) := Lib.hid (by unfold Dg.cyc; rw [hk, Int.toNat_natCast])
  have HNX := Lib.hid (fun b y (h : Dg.Bst m es x m b y) => h.nx hE hc)
  have CW := fun W h => Lib.hid (rWay_ok m es (Dg.nx m es x x) x k v W hE hn2 hx hm hle hk h)
  have SG := Lib.hid hv
  have HE := Lib.hid hE
  obtain ⟨ao, cap, rfl⟩ := hv.slice
  rw [Dg.cst_len] at *
  obtain ⟨P, L0, z0⟩ := gph_new w m (.slice ao es.length cap) 24
  generalize hX : w.alloc (.cells #[.int .i64 m, .slice ao es.length cap] 24) = X at *
  obtain ⟨-, p1, p2⟩ := id P
  have HL := Lib.hid L0
  have SX := Lib.hid (SG.out.step L0)
  have HPLn := Lib.hid (Dg.pth_len m es x (Dg.nx m es x x) k)
  clear SG hv L0 z0 hE hn1 hn2 hn4 hk hc
  generalize Dg.pth m es x (Dg.nx m es x x) k = pp at *
  generalize Dg.nx m es x x = z at *
  go_enter Try.func55, Try.ntmps55
  go_wp2
  go_loopw [5, 6, 7] (fun s5 s6 s7 wr => ∃ (i : Nat) (b : Int) (y : Nat), i ≤ m ∧ s7 = .int .i64 i ∧ s5 = .int .i64 b ∧ s6 = .int .i64 y ∧ Hid (Dg.Bst m es x i b y) ∧ Hid (Below X.heap.size X wr)) (fun _ _ s7 _ => m - (intOf s7).toNat)
  case atStart => exact ⟨0, (m : Int) + 1, 0, Nat.zero_le _, rfl, by first | rfl | go_num, rfl, Lib.hid (Dg.Bst.start m es x), Lib.hid (Below.refl _ _)⟩
  case round =>
    obtain ⟨i, b, y, hi, rfl, rfl, rfl, HBs, HB⟩ := hrel
    obtain ⟨-, g1, g2⟩ := P.step HB.out
    clear p1 p2
    by_cases him : i < m
    · have CF := Lib.hid (rFar_any m es i _ wr HE.out him hm hle (SX.out.step HB.out))
      go_wp2_with fail
      refine CF.out.mono ?_
      rintro e w1 ⟨uf, rfl, hs1, hb⟩
      obtain ⟨af, cf, rfl, -, -, hCf⟩ := hs1.opened
      obtain ⟨bf, of, rfl, hbf, df⟩ := hCf.at (Below.refl _ _) (i := x) (by rw [Dg.distL_len]; exact hx)
      rw [Dg.distL_at hx] at df
      simp only [Dg.distL_len]
      have HB1 := Lib.hid (below_nxt HB.out hb)
      obtain ⟨-, r1, r2⟩ := P.step HB1.out
      have CJ := Lib.hid (rJoined_ok m es x i _ w1 (SX.out.step HB1.out))
      have HSK := Lib.hid (fun h => HBs.out.skip him h)
      have HTK := Lib.hid (fun h1 h2 h3 => HBs.out.take (x := x) h1 h2 h3)
      have hge := Dg.dist_ge (n := m) (E := es) (s := i) (v := x)
      clear hb hs1 hCf g1 g2 CF hbf HBs
      generalize Dg.dist m es i x = D at *
      by_cases hj : (x, i) ∈ es
      · rw [show decide ((x, i) ∈ es) = true by simp [hj]] at CJ
        by_cases h0 : 0 ≤ D
        · have d0 : decide ((0 : Int) ≤ D) = true := by simp; omega
          by_cases hlt : D < b
          · have d1 : decide (D < b) = true := by simp [hlt]
            have HN := Lib.hid (HTK.out hj h0 hlt)
            clear hj h0 hlt HSK HTK
            go_wp2_with fail
            refine CJ.out.mono ?_
            rintro e w2 ⟨rfl, hb⟩
            have HB2 := Lib.hid (below_nxt HB1.out hb)
            clear hb
            go_wp2
            exact ⟨⟨i + 1, D, i, by omega, by first | rfl | go_num, rfl, rfl, HN, HB2⟩, by simp [intOf]; omega⟩
          · have d1 : decide (D < b) = false := by simp; omega
            have HN := Lib.hid (HSK.out (.inr (.inr (by omega))))
            clear hj h0 hlt HSK HTK
            go_wp2_with fail
            refine CJ.out.mono ?_
            rintro e w2 ⟨rfl, hb⟩
            have HB2 := Lib.hid (below_nxt HB1.out hb)
            clear hb
            go_wp2
            exact ⟨⟨i + 1, b, y, by omega, by first | rfl | go_num, rfl, rfl, HN, HB2⟩, by simp [intOf]; omega⟩
        · have d0 : decide ((0 : Int) ≤ D) = false := by simp; omega
          have HN := Lib.hid (HSK.out (.inr (.inl (by omega))))
          clear hj h0 HSK HTK
          go_wp2_with fail
          refine CJ.out.mono ?_
          rintro e w2 ⟨rfl, hb⟩
          have HB2 := Lib.hid (below_nxt HB1.out hb)
          clear hb
          go_wp2
          exact ⟨⟨i + 1, b, y, by omega, by first | rfl | go_num, rfl, rfl, HN, HB2⟩, by simp [intOf]; omega⟩
      · rw [show decide ((x, i) ∈ es) = false by simp [hj]] at CJ
        have HN := Lib.hid (HSK.out (.inl hj))
        clear hj HSK HTK
        go_wp2_with fail
        refine CJ.out.mono ?_
        rintro e w2 ⟨rfl, hb⟩
        have HB2 := Lib.hid (below_nxt HB1.out hb)
        clear hb
        go_wp2
        exact ⟨⟨i + 1, b, y, by omega, by first | rfl | go_num, rfl, rfl, HN, HB2⟩, by simp [intOf]; omega⟩
    · obtain rfl : i = m := by omega
      obtain rfl := HNX.out b y HBs.out
      have CWr := CW wr (SX.out.step HB.out)
      clear HBs HNX CW
      go_wp2_with fail
      refine CWr.out.mono ?_
      rintro e w1 ⟨uw, rfl, hs1, hb⟩
      have HB1 := Lib.hid (below_nxt (HL.out.trans (HB.out.mono HL.out.size)) hb)
      have hz1' := HB1.out.size
      obtain ⟨aw, cw, rfl, hcw1, hcw2, -⟩ := hs1.opened
      have HS1 := Lib.hid hs1
      rw [Dg.ci_len, HPLn.out] at hcw1
      have HSP : Hid (SeesI w1 (.slice aw k cw) ((Dg.ci pp).take k)) := Lib.hid (SeesI.pre (i := k) hs1 (by rw [Dg.ci_len, HPLn.out]; omega))
      simp only [Dg.ci_len, HPLn.out]
      have hln : ((Dg.ci pp).take k).length = k := by rw [List.length_take, Dg.ci_len, HPLn.out]; omega
      have HLNk := Lib.hid hln
      have hkk : (k : Int) ≤ (cw : Int) := by omega
      have R1 := Lib.hid (RowI.one w1.heap.size 3 w1 (Nat.le_refl _) (x : Int))
      have HCI : Hid (Dg.ci (Dg.cyc i es x) = [(x : Int)] ++ (Dg.ci pp).take k) := Lib.hid (by rw [HCY.out]; unfold Dg.ci; simp [List.map_take])
      clear hb hs1 CWr HCY hln
      generalize (Dg.ci pp).take k = q at *
      go_wp2_with (at_builtin; refine wpList_append_int rfl _ _ 27 rfl 3 i0 Try.underlying27 hi0 hz0 hz1 hz2 _ (.slice aw k cw) [(x : Int)] q rfl rfl w1.heap.size R1.out (HSP.out.step (BX _ _)) (by simp only [List.length_singleton, HLNk.out]; omega) (by simp) ?_; intro a5 p5 w5 hr5 hg5 ho5; have hb5 := RowI.belowOwn (C := w1.heap.size) R1.out hg5 (by simp) (Nat.le_refl _); have HB5 := Lib.hid (HB1.out.trans ((((BX w1 (.cells #[.int .i64 (x : Int)] 3))).trans hb5).mono hz1')); have HR5 := Lib.hid hr5.sees; clear hr5 hg5 ho5 hb5)
      go_ret
      exact ⟨_, rfl, by rw [HCI.out]; simpa using HR5.out, HB5.out⟩

theorem dCyc_few (n : Int) (E : List (Int × Int)) (v : Value) (w : World) (hf : Dg.few n E = true) (hv : SeesE w v E) :
    Calls Try.prog 25 #[.agg #[.int .i64 n, v]] w fun e w' => ∃ u, e = .returned (.tuple #[u, .int .i64 (Dg.cyE n E)]) ∧ SeesI w' u (Dg.cyL n E) ∧ Below w.heap.size w w' := by
  by_cases hk : Dg.chk n E = 0
  · obtain ⟨m, es, rfl, hm, rfl, hl, hE⟩ := Dg.few_ok hf hk
    refine (dCyc_ok m es v w hE (by omega) (by omega) hv).mono ?_
    rintro e w' ⟨hb, ⟨x, u, hx, hy, hc, rfl, hs⟩ | ⟨hy, rfl⟩⟩
    · obtain ⟨h1, h2⟩ := Dg.cy_some m es hk (Dg.lo_some hx hc hy)
      rw [h1, h2]; exact ⟨u, rfl, hs, hb⟩
    · obtain ⟨h1, h2⟩ := Dg.cy_none m es hk (Dg.lo_none hy)
      rw [h1, h2]; exact ⟨_, rfl, SeesI.nil _, hb⟩
  · obtain ⟨h1, h2⟩ := Dg.cy_bad hk
    rw [h1, h2]
    exact (dCyc_bad n E v w hk hv).mono fun e w' ⟨h1, h2⟩ => ⟨_, h1, SeesI.nil _, h2⟩
theorem dOrder_few (n : Int) (E : List (Int × Int)) (v : Value) (w : World) (hf : Dg.few n E = true) (hv : SeesE w v E) :
    Calls Try.prog 27 #[.agg #[.int .i64 n, v]] w fun e w' => ∃ u, e = .returned (.tuple #[u, .int .i64 (Dg.orE n E)]) ∧ SeesI w' u (Dg.orL n E) ∧ Below w.heap.size w w' := by
  by_cases hk : Dg.chk n E = 0
  · obtain ⟨m, es, rfl, hm, rfl, hl, hE⟩ := Dg.few_ok hf hk
    by_cases hF : (Dg.ordL m es).length = m
    · obtain ⟨h1, h2⟩ := Dg.or_full m es hk hF
      rw [h1, h2]
      exact dOrder_full m es v w hE (by omega) (by omega) hF hv
    · obtain ⟨h1, h2⟩ := Dg.or_ring m es hk hF
      rw [h1, h2]
      exact (dOrder_ring m es v w hE (by omega) (by omega) hF hv).mono fun e w' ⟨h1, h2⟩ => ⟨_, h1, SeesI.nil _, h2⟩
  · obtain ⟨h1, h2⟩ := Dg.or_bad hk
    rw [h1, h2]
    exact (dOrder_bad n E v w hk hv).mono fun e w' ⟨h1, h2⟩ => ⟨_, h1, SeesI.nil _, h2⟩

set_option maxHeartbeats 4000000 in
set_option maxRecDepth 100000 in
theorem dLayers_bad (n : Int) (E : List (Int × Int)) (v : Value) (w : World) (hk : Dg.chk n E ≠ 0) (hv : SeesE w v E) :
    Calls Try.prog 29 #[.agg #[.int .i64 n, v]] w fun e w' => e = .returned (.tuple #[.slice none 0 0, .int .i64 (Dg.chk n E)]) ∧ Below w.heap.size w w' := by
  have CK := fun W h => Lib.hid (dOrder_bad n E v W hk h)
  have hne : (Dg.chk n E != 0) = true := by simp [hk]
  generalize Dg.chk n E = k at *
  have HV := Lib.hid hv
  obtain ⟨ao, cap, rfl⟩ := hv.slice
  obtain ⟨P0, L0, z0⟩ := gph_new w n (.slice ao E.length cap) 24
  generalize hX : w.alloc (.cells #[.int .i64 n, .slice ao E.length cap] 24) = X at *
  obtain ⟨p0, p1, p2⟩ := id P0
  have HL := Lib.hid L0
  clear hv L0 hk z0
  go_enter Try.func29, Try.ntmps29
  go_wp2_with fail
  refine ((CK _ (HV.out.step HL.out)).out).mono ?_
  rintro e w1 ⟨rfl, hb⟩
  have HB1 := Lib.hid (below_nxt HL.out hb)
  clear hb
  go_wp2
  exact bodyPost_ret (v := .tuple #[.slice none 0 0, .int .i64 k]) (by simp [results, Try.results29, go_sem]) rfl ⟨rfl, HB1.out⟩
theorem dLayers_few (n : Int) (E : List (Int × Int)) (v : Value) (w : World) (hf : Dg.few n E = true) (hv : SeesE w v E) :
    Calls Try.prog 29 #[.agg #[.int .i64 n, v]] w fun e w' => ∃ u L, e = .returned (.tuple #[u, .int .i64 (Dg.orE n E)]) ∧ Dg.Lay n E L ∧ SeesI w' u L ∧ Below w.heap.size w w' := by
  by_cases hk : Dg.chk n E = 0
  · obtain ⟨m, es, rfl, hm, rfl, hl, hE⟩ := Dg.few_ok hf hk
    by_cases hF : (Dg.ordL m es).length = m
    · obtain ⟨h1, h2⟩ := Dg.or_full m es hk hF
      have HL := fun L (hT : Dg.Top m es L) => Dg.lay_full m es h1 hT
      rw [h1]
      exact (dLayers_full m es v w hE (by omega) (by omega) hF hv).mono fun e w' ⟨u, L, g1, g2, g3, g4⟩ => ⟨u, L, g1, HL L g2, g3, g4⟩
    · obtain ⟨h1, h2⟩ := Dg.or_ring m es hk hF
      have HL := Dg.lay_nil (n := m) (E := Dg.cst es) (by rw [h1]; decide)
      rw [h1]
      exact (dLayers_ring m es v w hE (by omega) (by omega) hF hv).mono fun e w' ⟨h1, h2⟩ => ⟨_, [], h1, HL, SeesI.nil _, h2⟩
  · obtain ⟨h1, h2⟩ := Dg.or_bad hk
    have HL := Dg.lay_nil (n := n) (E := E) (by rw [h1]; exact hk)
    rw [h1]
    exact (dLayers_bad n E v w hk hv).mono fun e w' ⟨h1, h2⟩ => ⟨_, [], h1, HL, SeesI.nil _, h2⟩

set_option maxHeartbeats 4000000 in
set_option maxRecDepth 100000 in
theorem rCyc_any (n : Int) (E : List (Int × Int)) (v : Value) (w : World) (hv : SeesE w v E) :
    Calls Try.prog 26 #[.agg #[.int .i64 n, v]] w fun e w' => ∃ u, e = .returned (.tuple #[u, .int .i64 (Dg.cyE n E)]) ∧ SeesI w' u (Dg.cyL n E) ∧ Below w.heap.size w w' := by
  have CK := fun W h => Lib.hid (rChk_any n v E W h)
  have HV := Lib.hid hv
  by_cases hk : Dg.chk n E = 0
  · obtain ⟨m, es, rfl, hm, rfl, _, hl, hE⟩ := Dg.chk_zero hk
    have CO := fun W h => Lib.hid (rLooped_ok m es v W hE hm hl h)
    have CR := fun x (hx : x < m) hc W h => Lib.hid (rRound_ok m es x v W hE hx hc hm hl h)
    have HCS := Lib.hid (fun x hl => Dg.cy_some m es hk (x := x) hl)
    have HCN := Lib.hid (fun hl => Dg.cy_none m es hk hl)
    rw [hk] at CK
    clear hk
    generalize Dg.cyE m (Dg.cst es) = ye at *
    generalize Dg.cyL m (Dg.cst es) = yl at *
    obtain ⟨ao, cap, rfl⟩ := hv.slice
    obtain ⟨P0, L0, z0⟩ := gph_new w m (.slice ao (Dg.cst es).length cap) 24
    generalize hX : w.alloc (.cells #[.int .i64 m, .slice ao (Dg.cst es).length cap] 24) = X at *
    obtain ⟨p0, p1, p2⟩ := id P0
    have HL := Lib.hid L0
    clear hv L0 z0
    go_enter Try.func26, Try.ntmps26
    go_wp2_with fail
    refine ((CK _ (HV.out.step HL.out)).out).mono ?_
    rintro e w1 ⟨rfl, hb⟩
    have HB1 := Lib.hid (below_nxt HL.out hb)
    have P1 := P0.step hb
    obtain ⟨p0', q1, q2⟩ := id P1
    clear hb p1 p2 p0 P0
    go_wp2_with fail
    refine ((CO _ (HV.out.step HB1.out)).out).mono ?_
    rintro e w2 ⟨r, rfl, hr, hb⟩
    have HB2 := Lib.hid (below_nxt HB1.out hb)
    obtain ⟨p0'', r1, r2⟩ := P1.step hb
    clear hb q1 q2 P1 CO
    rcases hr with ⟨rfl, hy⟩ | ⟨x, rfl, hx, hc, hy⟩
    · obtain ⟨h1, h2⟩ := HCN.out (Dg.lo_none hy)
      have HY := Lib.hid (And.intro h1 h2)
      clear hy h1 h2 CR
      go_wp2
      exact bodyPost_ret (v := .tuple #[.slice none 0 0, .int .i64 6]) (by simp [results, Try.results26, go_sem]) rfl ⟨_, by rw [HY.out.1], by rw [HY.out.2]; exact SeesI.nil _, HB2.out⟩
    · obtain ⟨h1, h2⟩ := HCS.out x (Dg.lo_some hx hc hy)
      have HY := Lib.hid (And.intro h1 h2)
      have CRx := CR x hx hc
      have hx0 : ¬ ((x : Int) < 0) := by omega
      clear hy h1 h2 CR hc
      go_wp2_with fail
      refine ((CRx _ (HV.out.step HB2.out)).out).mono ?_
      rintro e w3 ⟨u, rfl, hs, hb⟩
      have HB3 := Lib.hid (below_nxt HB2.out hb)
      have HS := Lib.hid hs
      clear hb hs
      go_wp2
      exact bodyPost_ret (v := .tuple #[u, .int .i64 0]) (by simp [results, Try.results26, go_sem]) rfl ⟨_, by rw [HY.out.1], by rw [HY.out.2]; exact HS.out, HB3.out⟩
  · have hne : (Dg.chk n E != 0) = true := by simp [hk]
    rw [(Dg.cy_bad hk).1, (Dg.cy_bad hk).2]
    generalize Dg.chk n E = k at *
    clear hk
    obtain ⟨ao, cap, rfl⟩ := hv.slice
    obtain ⟨P0, L0, z0⟩ := gph_new w n (.slice ao E.length cap) 24
    generalize hX : w.alloc (.cells #[.int .i64 n, .slice ao E.length cap] 24) = X at *
    obtain ⟨p0, p1, p2⟩ := id P0
    have HL := Lib.hid L0
    clear hv L0 z0
    go_enter Try.func26, Try.ntmps26
    go_wp2_with fail
    refine ((CK _ (HV.out.step HL.out)).out).mono ?_
    rintro e w1 ⟨rfl, hb⟩
    have HB1 := Lib.hid (below_nxt HL.out hb)
    have P1 := P0.step hb
    obtain ⟨p0', q1, q2⟩ := id P1
    clear hb p1 p2 p0 P0
    go_wp2
    exact bodyPost_ret (v := .tuple #[.slice none 0 0, .int .i64 k]) (by simp [results, Try.results26, go_sem]) rfl ⟨_, rfl, SeesI.nil _, HB1.out⟩

set_option maxHeartbeats 4000000 in
set_option maxRecDepth 100000 in
theorem rOrder_any (n : Int) (E : List (Int × Int)) (v : Value) (w : World) (hv : SeesE w v E) :
    Calls Try.prog 28 #[.agg #[.int .i64 n, v]] w fun e w' => ∃ u, e = .returned (.tuple #[u, .int .i64 (Dg.orE n E)]) ∧ SeesI w' u (Dg.orL n E) ∧ Below w.heap.size w w' := by
  have CK := fun W h => Lib.hid (rChk_any n v E W h)
  have HV := Lib.hid hv
  by_cases hk : Dg.chk n E = 0
  · obtain ⟨m, es, rfl, hm, rfl, _, hl, hE⟩ := Dg.chk_zero hk
    have CO := fun W h => Lib.hid (rLooped_ok m es v W hE hm hl h)
    have CS := fun hF W h => Lib.hid (rSorted_ok m es v W hm hl hF h)
    have HFU := Lib.hid (fun hF => Dg.or_full m es hk hF)
    have HRI := Lib.hid (fun hF => Dg.or_ring m es hk hF)
    have HFI := Lib.hid (Dg.full_iff hE)
    rw [hk] at CK
    clear hk
    generalize Dg.orE m (Dg.cst es) = ye at *
    generalize Dg.orL m (Dg.cst es) = yl at *
    obtain ⟨ao, cap, rfl⟩ := hv.slice
    obtain ⟨P0, L0, z0⟩ := gph_new w m (.slice ao (Dg.cst es).length cap) 24
    generalize hX : w.alloc (.cells #[.int .i64 m, .slice ao (Dg.cst es).length cap] 24) = X at *
    obtain ⟨p0, p1, p2⟩ := id P0
    have HL := Lib.hid L0
    clear hv L0 z0
    go_enter Try.func28, Try.ntmps28
    go_wp2_with fail
    refine ((CK _ (HV.out.step HL.out)).out).mono ?_
    rintro e w1 ⟨rfl, hb⟩
    have HB1 := Lib.hid (below_nxt HL.out hb)
    have P1 := P0.step hb
    obtain ⟨p0', q1, q2⟩ := id P1
    clear hb p1 p2 p0 P0
    go_wp2_with fail
    refine ((CO _ (HV.out.step HB1.out)).out).mono ?_
    rintro e w2 ⟨r, rfl, hr, hb⟩
    have HB2 := Lib.hid (below_nxt HB1.out hb)
    obtain ⟨p0'', r1, r2⟩ := P1.step hb
    clear hb q1 q2 P1 CO
    rcases hr with ⟨rfl, hy⟩ | ⟨x, rfl, hx, hc, hy⟩
    · have hF := HFI.out.2 hy
      obtain ⟨h1, h2⟩ := HFU.out hF
      have HY := Lib.hid (And.intro h1 h2)
      have CSx := CS hF
      clear hy h1 h2 CS hF
      go_wp2_with fail
      refine ((CSx _ (HV.out.step HB2.out)).out).mono ?_
      rintro e w3 ⟨u, rfl, hs, hb⟩
      have HB3 := Lib.hid (below_nxt HB2.out hb)
      have HS := Lib.hid hs
      clear hb hs
      go_wp2
      exact bodyPost_ret (v := .tuple #[u, .int .i64 0]) (by simp [results, Try.results28, go_sem]) rfl ⟨_, by rw [HY.out.1], by rw [HY.out.2]; exact HS.out, HB3.out⟩
    · have hF : (Dg.ordL m es).length ≠ m := fun hF => by
        have := HFI.out.1 hF x hx
        rw [hc] at this; cases this
      obtain ⟨h1, h2⟩ := HRI.out hF
      have HY := Lib.hid (And.intro h1 h2)
      have hx0 : (0 : Int) ≤ (x : Int) := by omega
      clear hy h1 h2 CS hc hF
      go_wp2
      exact bodyPost_ret (v := .tuple #[.slice none 0 0, .int .i64 20]) (by simp [results, Try.results28, go_sem]) rfl ⟨_, by rw [HY.out.1], by rw [HY.out.2]; exact SeesI.nil _, HB2.out⟩
  · have hne : (Dg.chk n E != 0) = true := by simp [hk]
    rw [(Dg.or_bad hk).1, (Dg.or_bad hk).2]
    generalize Dg.chk n E = k at *
    clear hk
    obtain ⟨ao, cap, rfl⟩ := hv.slice
    obtain ⟨P0, L0, z0⟩ := gph_new w n (.slice ao E.length cap) 24
    generalize hX : w.alloc (.cells #[.int .i64 n, .slice ao E.length cap] 24) = X at *
    obtain ⟨p0, p1, p2⟩ := id P0
    have HL := Lib.hid L0
    clear hv L0 z0
    go_enter Try.func28, Try.ntmps28
    go_wp2_with fail
    refine ((CK _ (HV.out.step HL.out)).out).mono ?_
    rintro e w1 ⟨rfl, hb⟩
    have HB1 := Lib.hid (below_nxt HL.out hb)
    have P1 := P0.step hb
    obtain ⟨p0', q1, q2⟩ := id P1
    clear hb p1 p2 p0 P0
    go_wp2
    exact bodyPost_ret (v := .tuple #[.slice none 0 0, .int .i64 k]) (by simp [results, Try.results28, go_sem]) rfl ⟨_, rfl, SeesI.nil _, HB1.out⟩

set_option maxHeartbeats 4000000 in
set_option maxRecDepth 100000 in
theorem rLayers_any (n : Int) (E : List (Int × Int)) (v : Value) (w : World) (hv : SeesE w v E) :
    Calls Try.prog 30 #[.agg #[.int .i64 n, v]] w fun e w' => ∃ u L, e = .returned (.tuple #[u, .int .i64 (Dg.orE n E)]) ∧ Dg.Lay n E L ∧ SeesI w' u L ∧ Below w.heap.size w w' := by
  have CK := fun W h => Lib.hid (rChk_any n v E W h)
  have HV := Lib.hid hv
  by_cases hk : Dg.chk n E = 0
  · obtain ⟨m, es, rfl, hm, rfl, _, hl, hE⟩ := Dg.chk_zero hk
    have CO := fun W h => Lib.hid (rLooped_ok m es v W hE hm hl h)
    have HFU := Lib.hid (fun hF => (Dg.or_full m es hk hF).1)
    have HRI := Lib.hid (fun hF => (Dg.or_ring m es hk hF).1)
    have HFI := Lib.hid (Dg.full_iff hE)
    have HE := Lib.hid hE
    have BX := fun (W : World) (o : Obj) => (Below.refl W.heap.size W).alloc (Nat.le_refl _) o
    have hmk := run_make_row' (P := Try.prog) 27 3 (.int .i64 0) 8 Try.underlying27 (by kernel_rfl) rfl .i64 .i64 m (by omega) (by omega)
    have HLF := Lib.hid (fun h L (hT : Dg.Top m es L) => Dg.lay_full m es h hT)
    have HLN := Lib.hid (fun h => Dg.lay_nil (n := (m : Int)) (E := Dg.cst es) h)
    rw [hk] at CK
    have hCE : ∃ ao cap, v = .slice ao (Dg.cst es).length cap ∧ CellsE w ao (Dg.cst es) := by
      obtain ⟨ao', cap', h1, _, _, h4⟩ := hv
      exact ⟨ao', cap', h1, h4⟩
    clear hk hE
    generalize Dg.orE m (Dg.cst es) = ye at *
    obtain ⟨ao, cap, rfl, hC⟩ := hCE
    rw [Dg.cst_len] at *
    obtain ⟨P0, L0, z0⟩ := gph_new w m (.slice ao es.length cap) 24
    generalize hX : w.alloc (.cells #[.int .i64 m, .slice ao es.length cap] 24) = X at *
    obtain ⟨p0, p1, p2⟩ := id P0
    have HL := Lib.hid L0
    clear hv L0 z0
    go_enter Try.func30, Try.ntmps30
    go_wp2_with fail
    refine ((CK _ (HV.out.step HL.out)).out).mono ?_
    rintro e w1 ⟨rfl, hb⟩
    have HB1 := Lib.hid (below_nxt HL.out hb)
    have P1 := P0.step hb
    obtain ⟨p0', q1, q2⟩ := id P1
    clear hb p1 p2 p0 P0
    go_wp2_with fail
    refine ((CO _ (HV.out.step HB1.out)).out).mono ?_
    rintro e w2 ⟨r, rfl, hr, hb⟩
    have HB2 := Lib.hid (below_nxt HB1.out hb)
    have P2 := P1.step hb
    obtain ⟨p0'', r1, r2⟩ := id P2
    have HP2 := Lib.hid P2
    clear hb q1 q2 P1 CO P2
    rcases hr with ⟨rfl, hy⟩ | ⟨x, rfl, hx, hc, hy⟩
    · have hF := HFI.out.2 hy
      have HY := Lib.hid (HFU.out hF)
      have HF := Lib.hid hF
      have HOK := Lib.hid (fun (i : Nat) (hi : i < es.length) => HE.out _ (Dg.getD_mem (d := (0, 0)) hi))
      have HLT := Lib.hid (fun (x k : Nat) (hx : x < m) (h : Dg.wk es k x = true) => Dg.full_lt HF.out hx h)
      have HA0 := Lib.hid (ArrI.new w2 m 3)
      have HB3 := Lib.hid (BX w2 (.cells (madeCells #[.int .i64 0] m) 3))
      have hC2 := hC.step (HB2.out.mono (Nat.le_refl _))
      clear hy hF hC
      go_wp2
      go_loopw [6] (fun s6 wr => ∃ (r : Nat) (L : List Int), r ≤ m ∧ s6 = .int .i64 r ∧ ArrI wr w2.heap.size L ∧ Hid (Dg.Rnd m es r 0 L) ∧ Hid (Below w2.heap.size w2 wr)) (fun s6 _ => m - (intOf s6).toNat)
      case atStart => exact ⟨0, _, Nat.zero_le _, rfl, HA0.out, Lib.hid (Dg.Rnd.start m es), HB3⟩
      case round =>
        clear HA0 HB3 r1 r2 hmk
        obtain ⟨r, L, hr, rfl, hA, HR, HB⟩ := hrel
        have HA := Lib.hid hA
        obtain ⟨-, s1, s2⟩ := HP2.out.step HB.out
        by_cases hrm : r < m
        · clear hA
          go_wp2
          go_loopw [7] (fun s7 wr => ∃ (i : Nat) (L : List Int), i ≤ es.length ∧ s7 = .int .i64 i ∧ ArrI wr w2.heap.size L ∧ Hid (Dg.Rnd m es r i L) ∧ Hid (Below w2.heap.size w2 wr)) (fun s7 _ => es.length - (intOf s7).toNat)
          case atStart => exact ⟨0, L, Nat.zero_le _, rfl, HA.out, HR, HB⟩
          case round =>
            clear HA HR HB L s1 s2
            obtain ⟨i, L, hi, rfl, hA, HR, HB⟩ := hrel
            have HA := Lib.hid hA
            obtain ⟨-, s1, s2⟩ := HP2.out.step HB.out
            by_cases hil : i < es.length
            · obtain ⟨g, off, rfl, hg, c1, c2⟩ := hC2.at HB.out (i := i) (by rw [Dg.cst_len]; exact hil)
              rw [Dg.cst_at] at c1 c2
              obtain ⟨o1, o2⟩ := HOK.out i hil
              have HRP := Lib.hid (HR.out.put hil o1 o2)
              have hLl := HR.out.1
              obtain ⟨ka, hka, wa, -⟩ := HR.out.2 (es.getD i (0, 0)).1 o1
              obtain ⟨kb, hkb, wb, -⟩ := HR.out.2 (es.getD i (0, 0)).2 o2
              have hka2 := HLT.out _ _ o1 wa
              have hkb2 := HLT.out _ _ o2 wb
              generalize es.getD i (0, 0) = y at *
              obtain ⟨PE, LE, zE⟩ := edg_new wr (y.1 : Int) (y.2 : Int) 60
              have hAZ := hA.step LE
              generalize hZ : wr.alloc (.cells #[.int .i64 (y.1 : Int), .int .i64 (y.2 : Int)] 60) = Z at *
              obtain ⟨-, e1, e2⟩ := id PE
              have HZ := Lib.hid (HB.out.trans (LE.mono HB.out.size))
              obtain ⟨a1, a2⟩ := hAZ.2 y.2 (by rw [hLl]; exact o2)
              obtain ⟨a3, -⟩ := hAZ.2 y.1 (by rw [hLl]; exact o1)
              rw [hkb] at a1
              rw [hka] at a3
              rw [hkb, hka] at HRP
              have HA2 := Lib.hid ((hAZ.step (Below.refl Z.heap.size Z).drew).put (i := y.2) (by rw [hLl]; exact o2) (max (kb : Int) ((ka : Int) + 1)))
              have HB4 := Lib.hid ((HZ.out.trans ((Below.refl w2.heap.size Z).drew)).setCell (p := ⟨w2.heap.size, y.2, none⟩) (Nat.le_refl _) (.int .i64 (max (kb : Int) ((ka : Int) + 1))))
              clear hA hAZ LE zE PE HR hka hkb wa wb
              go_wp2
              try go_region
              try go_wp2
              exact ⟨⟨i + 1, _, by omega, by first | rfl | go_num, HA2.out, HRP, HB4⟩, by simp [intOf]; omega⟩
            · obtain rfl : i = es.length := by omega
              have HRX := Lib.hid (HR.out.next)
              clear hA
              go_wp2
              exact ⟨⟨r + 1, L, by omega, by first | rfl | go_num, HA.out, HRX, HB⟩, by simp [intOf]; omega⟩
        · obtain rfl : r = m := by omega
          have HTP := Lib.hid (HR.out.top HF.out)
          have HSE := Lib.hid (hA.sees (cap := r) (by rw [HR.out.1]; exact Nat.le_refl _) (by unfold maxLen; omega))
          rw [HR.out.1] at HSE
          have HBF := Lib.hid (HB2.out.trans (HB.out.mono HB2.out.size))
          clear hA
          go_wp2
          exact bodyPost_ret (v := .tuple #[.slice (some ⟨w2.heap.size, 0, none⟩) r r, .int .i64 0]) (by simp [results, Try.results30, go_sem]) rfl ⟨_, L, by rw [HY.out], HLF.out HY.out L HTP.out, HSE.out, HBF.out⟩
    · have hF : (Dg.ordL m es).length ≠ m := fun hF => by
        have := HFI.out.1 hF x hx
        rw [hc] at this; cases this
      have HY := Lib.hid (HRI.out hF)
      have hx0 : (0 : Int) ≤ (x : Int) := by omega
      clear hy hc hF
      go_wp2
      exact bodyPost_ret (v := .tuple #[.slice none 0 0, .int .i64 20]) (by simp [results, Try.results30, go_sem]) rfl ⟨_, [], by rw [HY.out], HLN.out (by rw [HY.out]; decide), SeesI.nil _, HB2.out⟩
  · have HLN := Lib.hid (Dg.lay_nil (n := n) (E := E) (by rw [(Dg.or_bad hk).1]; exact hk))
    have hne : (Dg.chk n E != 0) = true := by simp [hk]
    have HOR := Lib.hid ((Dg.or_bad hk).1)
    rw [HOR.out]
    clear HOR
    generalize Dg.chk n E = k at *
    clear hk
    obtain ⟨ao, cap, rfl⟩ := hv.slice
    obtain ⟨P0, L0, z0⟩ := gph_new w n (.slice ao E.length cap) 24
    generalize hX : w.alloc (.cells #[.int .i64 n, .slice ao E.length cap] 24) = X at *
    obtain ⟨p0, p1, p2⟩ := id P0
    have HL := Lib.hid L0
    clear hv L0 z0
    go_enter Try.func30, Try.ntmps30
    go_wp2_with fail
    refine ((CK _ (HV.out.step HL.out)).out).mono ?_
    rintro e w1 ⟨rfl, hb⟩
    have HB1 := Lib.hid (below_nxt HL.out hb)
    have P1 := P0.step hb
    obtain ⟨p0', q1, q2⟩ := id P1
    clear hb p1 p2 p0 P0
    go_wp2
    exact bodyPost_ret (v := .tuple #[.slice none 0 0, .int .i64 k]) (by simp [results, Try.results30, go_sem]) rfl ⟨_, [], rfl, HLN.out, SeesI.nil _, HB1.out⟩
end Go.Proofs.Ytkjhockppkdakaa
