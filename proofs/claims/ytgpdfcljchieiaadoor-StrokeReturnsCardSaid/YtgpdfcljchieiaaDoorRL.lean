/- The call of the statement StrokeReturns. -/
import Derived.Test.YtgpdfcljchieiaaDoorRK
namespace Sk
def opp (x : Str) : Str := (x.1, !x.2)
theorem opp_get (l : List Str) {i : Nat} (hi : i < l.length) : (l.map opp).getD i d0 = opp (l.getD i d0) := by
  rw [List.getD_eq_getElem?_getD, List.getD_eq_getElem?_getD, List.getElem?_map, List.getElem?_eq_getElem hi]; rfl
theorem opp_rt {l : List Str} (h : RtL l) : RtL (l.map opp) :=
  ⟨by rw [List.length_map]; exact h.pos, by rw [List.length_map]; exact h.le6, fun i hi => by rw [List.length_map] at hi; rw [opp_get l hi]; exact h.act i hi, fun i hi => by rw [List.length_map] at hi; rw [opp_get l (by omega), opp_get l hi]; exact h.ord i hi⟩
theorem opp_way (j : Int) : ∀ l : List Str, wayV (l.map opp) j = - wayV l j
  | [] => rfl
  | x :: l => by
    have ih := opp_way j l
    show (if (opp x).1 = j then _ else _) = - (if x.1 = j then _ else _)
    by_cases h : x.1 = j
    · rw [if_pos h, if_pos (show (opp x).1 = j from h)]
      unfold opp
      cases x.2 <;> rfl
    · rw [if_neg h, if_neg (show ¬ (opp x).1 = j from h)]
      exact ih
theorem way_of {l : List Str} (h : RtL l) {i : Nat} (hi : i < l.length) : wayV l (l.getD i d0).1 = if (l.getD i d0).2 then 1 else -1 :=
  way_at (fun a ha => by have := h.ords ha hi; omega) hi rfl
/-- The opposite step fits behind a step that fits. -/
theorem opp_sui {l : List Str} {E : List Bool} (h : RtL l) (hs : sui l E = true) : sui (l.map opp) (aft l E) = true := by
  rw [sui_iff]
  intro i hi
  rw [List.length_map] at hi
  rw [opp_get l hi]
  have h1 := sui_iff.1 hs i hi
  have h0 := h.act i hi
  have hw := way_of h hi
  have hg := aft_get E (l.getD i d0).1.toNat (l := l)
  generalize l.getD i d0 = y at *
  obtain ⟨x, o⟩ := y
  unfold sui1 at h1 ⊢
  rw [Bool.and_eq_true, decide_eq_true_iff] at h1 ⊢
  simp only at h0 hw h1 hg
  have hk : x.toNat < E.length := by omega
  have hc : ((x.toNat : Nat) : Int) = x := by omega
  have hg' := hg hk (fun i hi => (h.act i hi).1) h.ord
  rw [hc, hw] at hg'
  refine ⟨by rw [aft_len]; exact h1.1, ?_⟩
  show ((aft l E).getD x.toNat false != !o) = true
  rw [hg']
  cases o <;> simp
/-- The opposite step leads back. -/
theorem opp_aft {l : List Str} {E : List Bool} (h : RtL l) (hs : sui l E = true) : aft (l.map opp) (aft l E) = E := by
  refine list_eq false (by rw [aft_len, aft_len]) (fun j hj => ?_)
  rw [aft_len, aft_len] at hj
  rw [aft_get (aft l E) j (by rw [aft_len]; exact hj) (fun i hi => ((opp_rt h).act i hi).1) (opp_rt h).ord, opp_way, aft_get E j hj (fun i hi => (h.act i hi).1) h.ord]
  obtain ⟨a1, a2, a3⟩ := sui_way (j := j) hs
  rcases a3 with a | a | a
  · rw [a]; simp
  · rw [a, a1 a]; simp
  · rw [a, a2 a]; simp
theorem opp_take {l : List Str} {i : Nat} (hi : i < l.length) : (l.take (i + 1)).map opp = (l.take i).map opp ++ [opp (l.getD i d0)] := take_map opp d0 hi
end Sk
namespace Go.Proofs.YtgpdfcljchieiaaDoor
open Go.RowKit
/-- 'append' of a stroke to a slice of the call's own. -/
theorem wpList_append_str {P : Program} {w : World} {ops : Array Oper} {rest : List Oper} {o : Oper} {a : Act} {Q : Exit → Act → World → Prop} (hgd : o.guard = none) (s x : Operand) (t : TypeId)
    (ho : o.op = .call { callee := .builtin .append, args := #[s, x], argTypes := #[t, t] })
    (e : TypeId) (i : TypeInfo) (ht : P.underlying t = some (.slice e)) (hi : P.info? e = some i) (hz : i.zero = some (.agg #[.int .i64 0, .bool false])) (hsize : i.size = 2) (hby : i.bytes = 16)
    (v : Value) (l : List Sk.Str) (y : Sk.Str) (g : Nat) (hs : a.eval s = v) (hx : a.eval x = .slice (some ⟨g, 0, none⟩) 1 1) (B : Nat) (hown : RowK B e w v l)
    (h0 : w.cell? ⟨g, 0, none⟩ = some (.int .i64 y.1)) (h1 : w.cell? ⟨g, 1, none⟩ = some (.bool y.2)) (hlen : l.length ≤ 1048576) (hB : B ≤ w.heap.size)
    (h : ∀ ao' cap' w', RowK B e w' (.slice ao' (l.length + 1) cap') (l ++ [y]) → w.grownBy w' v.ownBlock → Below B w w' → wpList P ops Q rest (a.put o.dst (.slice ao' (l.length + 1) cap')) w') : wpList P ops Q (o :: rest) a w := by
  refine wpList_append_own w hgd s x t ho B e i (.agg #[.int .i64 0, .bool false]) 2 16 ht hi hz hsize hby rfl (by omega) v l.length _ hs hown ⟨g, 0, none⟩ 1 1 [.int .i64 y.1, .bool y.2] hx (by simp) ?_ ?_ (by unfold maxLen; omega) ?_ hB ?_
  · intro j u hj
    rw [addr_add]
    rcases j with _ | _ | j
    · simp at hj; subst hj; exact h0
    · simp at hj; subst hj; exact h1
    · simp at hj
  · simp [Value.oneCell']
  · omega
  · intro v' w' r1 r2 r3
    have hr : RowK B e w' v' (l ++ [y]) := by
      unfold RowK
      rw [List.length_append, List.flatMap_append]
      exact r1
    obtain ⟨ao', cap', rfl⟩ : ∃ ao' cap', v' = .slice ao' (l.length + 1) cap' := by
      rcases r1.2 with ⟨_, h⟩ | ⟨g, cap, cur, rfl, _⟩
      · omega
      · exact ⟨_, _, rfl⟩
    exact h _ _ _ hr r2 ((Below.refl _ _).grown r2 hB (fun g hg => (World.ownsRow.lt hown g hg).1))
set_option maxHeartbeats 16000000 in
set_option maxRecDepth 100000 in
theorem returns_any (u : Value) (l : List Sk.Str) (n : Int) (ev : Value) (E : List Bool) (w : World) (hst : StQ w) (hu : SeeK w u l) (he : SeeB w ev E) (_ : ∀ n c, ev = .slice none n c → c = 0) : Calls Tryd.prog 9 #[.agg #[u, .int .i64 n], ev] w fun e w' => e = .returned (.bool true) ∧ Below w.heap.size w w' := by
  have HST := Lib.hid hst
  have HU := Lib.hid hu
  have HE := Lib.hid he
  obtain ⟨ao, cap, rfl, hcap1, hcap2, hC⟩ := hu
  have HC := Lib.hid hC
  obtain ⟨eo, ecap, rfl, hecap1, hecap2, -⟩ := he
  have F1 := fun W (h : SeeK W (.slice ao l.length cap) l) (g : SeeB W (.slice eo E.length ecap) E) => Lib.hid (rFew_any (.slice ao l.length cap) (.slice eo E.length ecap) l n E W h g)
  have F2 := fun W (h : SeeK W (.slice ao l.length cap) l) => Lib.hid (rStp_any (.slice ao l.length cap) l n W h)
  obtain ⟨P0, L0, z0⟩ := boxP_new w (.slice ao l.length cap) (.int .i64 n) 39
  have HB0 := Lib.hid L0
  have HX0 := Lib.hid P0
  clear P0 L0 z0 hst hC
  obtain ⟨x0, x1, x2⟩ := HX0.out
  generalize (decide (l.length ≤ 40) && decide (E.length ≤ 40)) = fw at *
  cases fw
  · clear F2
    go_enter Tryd.func9, Tryd.ntmps9
    go_wp2_with fail
    refine ((F1 _ (HU.out.step HB0.out) (HE.out.step HB0.out)).out).mono ?_
    rintro e w1 ⟨rfl, hb1⟩
    have HB1 := Lib.hid (below_nxt HB0.out hb1)
    have HX1 := Lib.hid (HX0.out.step hb1)
    clear hb1 x0 x1 x2 HX0 HB0
    obtain ⟨x0, x1, x2⟩ := HX1.out
    go_wp2_with fail
    refine (awake_any _ (HST.out.step HB1.out)).mono ?_
    rintro e wz ⟨rfl, hbz⟩
    have HBz := Lib.hid (below_nxt HB1.out hbz)
    clear hbz
    go_wp2
    go_ret
    exact ⟨rfl, HBz.out⟩
  by_cases hch : Sk.chkP l n = 0
  · rw [hch] at F2
    obtain ⟨hR, hn1, hn2⟩ := Sk.chkP_ok hch
    by_cases h6 : 6 < E.length
    · have h6' : decide (6 < (E.length : Int)) = true := decide_eq_true (by omega)
      clear hR hch h6
      go_enter Tryd.func9, Tryd.ntmps9
      go_wp2_with fail
      refine ((F1 _ (HU.out.step HB0.out) (HE.out.step HB0.out)).out).mono ?_
      rintro e w1 ⟨rfl, hb1⟩
      have HB1 := Lib.hid (below_nxt HB0.out hb1)
      have HX1 := Lib.hid (HX0.out.step hb1)
      clear hb1 x0 x1 x2 HX0 HB0
      obtain ⟨x0, x1, x2⟩ := HX1.out
      go_wp2_with fail
      refine ((F2 _ (HU.out.step HB1.out)).out).mono ?_
      rintro e w2 ⟨rfl, hb2⟩
      have HB2 := Lib.hid (below_nxt HB1.out hb2)
      have HX2 := Lib.hid (HX1.out.step hb2)
      clear hb2 x0 x1 x2 HX1 HB1
      obtain ⟨x0, x1, x2⟩ := HX2.out
      go_wp2_with fail
      refine (awake_any _ (HST.out.step HB2.out)).mono ?_
      rintro e wz ⟨rfl, hbz⟩
      have HBz := Lib.hid (below_nxt HB2.out hbz)
      clear hbz
      go_wp2
      go_ret
      exact ⟨rfl, HBz.out⟩
    · have h6' : decide (6 < (E.length : Int)) = false := decide_eq_false (by omega)
      have hft : Sk.fitV l n E = (Sk.sui l E, 0) := by unfold Sk.fitV; rw [if_pos hch, if_neg h6]
      have C1 : ∀ W, SeeK W (.slice ao l.length cap) l → SeeB W (.slice eo E.length ecap) E → Hid (Calls Tryd.prog 32 #[.agg #[.slice ao l.length cap, .int .i64 n], .slice eo E.length ecap] W fun e w' => e = .returned (.tuple #[.bool (Sk.sui l E), .int .i64 0]) ∧ Below W.heap.size W w') := fun W h g => Lib.hid (by have h := sFit_any _ _ l n E W h g; rw [hft] at h; exact h)
      cases hsu : Sk.sui l E <;> rw [hsu] at C1
      · have hap : Sk.appV l n E = ([], 14) := by unfold Sk.appV; rw [if_pos hch, if_neg h6, if_neg (by rw [hsu]; decide)]
        have C2 : ∀ W, SeeK W (.slice ao l.length cap) l → SeeB W (.slice eo E.length ecap) E → Hid (Calls Tryd.prog 34 #[.agg #[.slice ao l.length cap, .int .i64 n], .slice eo E.length ecap] W fun e w' => ∃ ao cap, e = .returned (.tuple #[.slice ao 0 cap, .int .i64 14]) ∧ SeeB w' (.slice ao 0 cap) [] ∧ Below W.heap.size W w') := fun W h g => Lib.hid (by have h := sApp_form _ _ l n E W h g; rw [hap] at h; exact h)
        clear hR hch h6 hsu hft hap
        go_enter Tryd.func9, Tryd.ntmps9
        go_wp2_with fail
        refine ((F1 _ (HU.out.step HB0.out) (HE.out.step HB0.out)).out).mono ?_
        rintro e w1 ⟨rfl, hb1⟩
        have HB1 := Lib.hid (below_nxt HB0.out hb1)
        have HX1 := Lib.hid (HX0.out.step hb1)
        clear hb1 x0 x1 x2 HX0 HB0
        obtain ⟨x0, x1, x2⟩ := HX1.out
        go_wp2_with fail
        refine ((F2 _ (HU.out.step HB1.out)).out).mono ?_
        rintro e w2 ⟨rfl, hb2⟩
        have HB2 := Lib.hid (below_nxt HB1.out hb2)
        have HX2 := Lib.hid (HX1.out.step hb2)
        clear hb2 x0 x1 x2 HX1 HB1
        obtain ⟨x0, x1, x2⟩ := HX2.out
        go_wp2_with fail
        refine ((C1 _ (HU.out.step HB2.out) (HE.out.step HB2.out)).out).mono ?_
        rintro e w3 ⟨rfl, hb3⟩
        have HB3 := Lib.hid (below_nxt HB2.out hb3)
        have HX3 := Lib.hid (HX2.out.step hb3)
        clear hb3 x0 x1 x2 HX2 HB2
        obtain ⟨x0, x1, x2⟩ := HX3.out
        go_wp2_with fail
        refine ((C2 _ (HU.out.step HB3.out) (HE.out.step HB3.out)).out).mono ?_
        rintro e w4 ⟨mo, mcap, rfl, -, hb4⟩
        have HB4 := Lib.hid (below_nxt HB3.out hb4)
        clear hb4
        go_wp2_with fail
        refine (awake_any _ (HST.out.step HB4.out)).mono ?_
        rintro e wz ⟨rfl, hbz⟩
        have HBz := Lib.hid (below_nxt HB4.out hbz)
        clear hbz
        go_wp2
        go_ret
        exact ⟨rfl, HBz.out⟩
      · have hap : Sk.appV l n E = (Sk.aft l E, 0) := by unfold Sk.appV; rw [if_pos hch, if_neg h6, if_pos hsu]
        have C2 : ∀ W, SeeK W (.slice ao l.length cap) l → SeeB W (.slice eo E.length ecap) E → Hid (Calls Tryd.prog 34 #[.agg #[.slice ao l.length cap, .int .i64 n], .slice eo E.length ecap] W fun e w' => ∃ ao cap, e = .returned (.tuple #[.slice ao (Sk.aft l E).length cap, .int .i64 0]) ∧ SeeB w' (.slice ao (Sk.aft l E).length cap) (Sk.aft l E) ∧ Below W.heap.size W w') := fun W h g => Lib.hid (by have h := sApp_form _ _ l n E W h g; rw [hap] at h; exact h)
        have hap2 : Sk.appV (l.map Sk.opp) n (Sk.aft l E) = (E, 0) := by
          unfold Sk.appV
          rw [if_pos (Sk.chkP_of (Sk.opp_rt hR) hn1 hn2), if_neg (by rw [Sk.aft_len]; omega), if_pos (Sk.opp_sui hR hsu), Sk.opp_aft hR hsu]
        have C3 : ∀ W bv ev, SeeK W bv (l.map Sk.opp) → SeeB W ev (Sk.aft l E) → Hid (Calls Tryd.prog 34 #[.agg #[bv, .int .i64 n], ev] W fun e w' => ∃ ao cap, e = .returned (.tuple #[.slice ao E.length cap, .int .i64 0]) ∧ SeeB w' (.slice ao E.length cap) E ∧ Below W.heap.size W w') := fun W bv ev h g => Lib.hid (by have h := sApp_form bv ev _ n _ W h g; rw [hap2] at h; exact h)
        have CE : ∀ W a b, SeeB W a E → SeeB W b E → Hid (Calls Tryd.prog 36 #[a, b] W fun e w' => e = .returned (.bool true) ∧ Below W.heap.size W w') := fun W a b h g => Lib.hid (by have h := eqB_any a b E E W h g; rw [decide_eq_true rfl] at h; exact h)
        have CO : ∀ i, i < l.length → ∀ W, Hid (Calls Tryd.prog 11 #[.agg #[.int .i64 (l.getD i Sk.d0).1, .bool (l.getD i Sk.d0).2]] W fun e w' => e = .returned (.tuple #[.agg #[.int .i64 (l.getD i Sk.d0).1, .bool !(l.getD i Sk.d0).2], .int .i64 0]) ∧ Below W.heap.size W w') := fun i hi W => Lib.hid (by
          have h := sOpp_any (l.getD i Sk.d0).1 (l.getD i Sk.d0).2 W
          have hv : Sk.oppV (l.getD i Sk.d0).1 (l.getD i Sk.d0).2 = (((l.getD i Sk.d0).1, !(l.getD i Sk.d0).2), 0) := by unfold Sk.oppV; rw [if_pos ((Sk.chkS_eq _).2 (hR.act i hi))]
          rw [hv] at h
          exact h)
        have HTk := Lib.hid (fun i (hi : i < l.length) => Sk.opp_take hi)
        have hl6 := hR.le6
        obtain ⟨i0, hi0, hzi0, hzi1, hzi2⟩ := info_str2
        clear hR hch h6 hsu hft hap hap2
        generalize Sk.aft l E = M at *
        go_enter Tryd.func9, Tryd.ntmps9
        go_wp2_with fail
        refine ((F1 _ (HU.out.step HB0.out) (HE.out.step HB0.out)).out).mono ?_
        rintro e w1 ⟨rfl, hb1⟩
        have HB1 := Lib.hid (below_nxt HB0.out hb1)
        have HX1 := Lib.hid (HX0.out.step hb1)
        clear hb1 x0 x1 x2 HX0 HB0
        obtain ⟨x0, x1, x2⟩ := HX1.out
        go_wp2_with fail
        refine ((F2 _ (HU.out.step HB1.out)).out).mono ?_
        rintro e w2 ⟨rfl, hb2⟩
        have HB2 := Lib.hid (below_nxt HB1.out hb2)
        have HX2 := Lib.hid (HX1.out.step hb2)
        clear hb2 x0 x1 x2 HX1 HB1
        obtain ⟨x0, x1, x2⟩ := HX2.out
        go_wp2_with fail
        refine ((C1 _ (HU.out.step HB2.out) (HE.out.step HB2.out)).out).mono ?_
        rintro e w3 ⟨rfl, hb3⟩
        have HB3 := Lib.hid (below_nxt HB2.out hb3)
        have HX3 := Lib.hid (HX2.out.step hb3)
        clear hb3 x0 x1 x2 HX2 HB2
        obtain ⟨x0, x1, x2⟩ := HX3.out
        go_wp2_with fail
        refine ((C2 _ (HU.out.step HB3.out) (HE.out.step HB3.out)).out).mono ?_
        rintro e w4 ⟨mo, mcap, rfl, hm4, hb4⟩
        have HB4 := Lib.hid (below_nxt HB3.out hb4)
        have HX4 := Lib.hid (HX3.out.step hb4)
        have HM4 := Lib.hid hm4
        have HC4 := Lib.hid (HU.out.step HB4.out)
        clear hb4 x0 x1 x2 HX3 HB3 C1 C2 F1 F2 hm4
        obtain ⟨x0, x1, x2⟩ := HX4.out
        have L9 := allocB w4 (.cells #[.slice none 0 0, .int .i64 n] 39)
        have HR9 := Lib.hid (resP_new w4 (.slice none 0 0) (.int .i64 n) 39)
        have HZ9 := Lib.hid (show (w4.alloc (.cells #[.slice none 0 0, .int .i64 n] 39)).heap.size = w4.heap.size + 1 by simp)
        have HL9 := Lib.hid L9
        clear L9
        go_wp2
        clear x0 x1 x2
        go_loopw [63] (fun s63 wr => ∃ (i : Nat) (bv : Value), i ≤ l.length ∧ s63 = .int .i64 (i : Int) ∧ Hid (Below w4.heap.size w4 wr) ∧ Hid (RowK (w4.heap.size + 1) 23 wr bv ((l.take i).map Sk.opp)) ∧ Hid (ResP wr w4.heap.size bv (.int .i64 n)) ∧ Hid (w4.heap.size + 1 ≤ wr.heap.size)) (fun s63 _ => l.length - (intOf s63).toNat)
        case atStart => exact ⟨0, .slice none 0 0, Nat.zero_le _, rfl, HL9, Lib.hid (RowK.nil _ _ _), HR9, Lib.hid (by rw [HZ9.out]; exact Nat.le_refl _)⟩
        case round =>
          clear HR9 HZ9 HL9
          obtain ⟨i, bv, hi, rfl, HBM, HRK, HRP, HZ⟩ := hrel
          obtain ⟨bo, bcap, hbv⟩ := HRK.out.form
          have HBW := Lib.hid (below_nxt HB4.out HBM.out)
          by_cases hil : i < l.length
          · have hli : ((l.take i).map Sk.opp).length = i := by simp; omega
            rw [hli] at hbv
            subst hbv
            obtain ⟨g, off, rfl, hg, c1, c2⟩ := HC.out.at HBW.out hil
            have COi := CO i hil
            have HTi := Lib.hid (show (l.take (i + 1)).map Sk.opp = (l.take i).map Sk.opp ++ [((l.getD i Sk.d0).1, !(l.getD i Sk.d0).2)] from HTk.out i hil)
            clear CO HTk
            generalize (l.take i).map Sk.opp = F at *
            generalize (l.getD i Sk.d0).1 = x at *
            generalize (l.getD i Sk.d0).2 = o at *
            have hob : (!o == o) = false := by cases o <;> rfl
            have hxx : (x == x) = true := by simp
            obtain ⟨P1, L1, z1⟩ := boxP_new wr (.int .i64 x) (.bool o) 23
            have HP1 := Lib.hid P1
            have HL1 := Lib.hid L1
            clear P1 L1 z1
            go_wp2_with fail
            refine ((COi _).out).mono ?_
            rintro e w5 ⟨rfl, hb5⟩
            have HB5 := Lib.hid (below_nxt HL1.out hb5)
            have HP5 := Lib.hid ((HP1.out.step hb5).step (allocB w5 (.cells #[.int .i64 x, .bool !o] 23)))
            obtain ⟨y0, y1, y2⟩ := HP5.out
            have HRP5 := Lib.hid (HRP.out.step (HB5.out.alloc HB5.out.size (.cells #[.int .i64 x, .bool !o] 23)))
            obtain ⟨r0, r1, r2, r3, r4⟩ := HRP5.out
            have HK7 := Lib.hid (HRK.out.step ((HB5.out.alloc HB5.out.size (.cells #[.int .i64 x, .bool !o] 23)).alloc (by have := HB5.out.size; simp; omega) (.cells #[.int .i64 x, .bool !o] 23)))
            have HP7 := Lib.hid (HRP5.out.step (allocB _ (.cells #[.int .i64 x, .bool !o] 23)))
            have HB7 := Lib.hid (below_nxt HBM.out ((HB5.out.alloc HB5.out.size (.cells #[.int .i64 x, .bool !o] 23)).alloc (by have := HB5.out.size; simp; omega) (.cells #[.int .i64 x, .bool !o] 23)))
            have HZ5 := Lib.hid (show w4.heap.size + 1 ≤ w5.heap.size from Nat.le_trans HZ.out HB5.out.size)
            have hFl : F.length ≤ 1048576 := by rw [hli]; omega
            clear hb5 COi HP1 HL1 c1 c2 HRK HRP HBM HBW
            go_wp2_with (at_builtin; refine wpList_append_str rfl _ _ 37 rfl 23 i0 Tryd.underlying37 hi0 hzi0 hzi1 hzi2 _ F (x, !o) (w5.heap.size + 1) rfl rfl (w4.heap.size + 1) HK7.out (by simp) (by simp) hFl (by have := HZ5.out; simp; omega) ?_; intro a6 p6 w6 hr6 hg6 hb6; have HR6 := Lib.hid hr6; have HQ6 := Lib.hid (HP7.out.grown hg6 (fun r e => by have := (World.ownsRow.lt HK7.out r e).1; omega)); have HZ6 := Lib.hid (Nat.le_trans (show w4.heap.size + 1 ≤ _ from by have := HZ5.out; simp; omega) hg6.size); have HB6 := Lib.hid (HB7.out.grown hg6 (by have := HB7.out.size; omega) (fun r e => by have := (World.ownsRow.lt HK7.out r e).1; omega)); clear hr6 hg6 hb6; obtain ⟨s0, s1, s2, s3, s4⟩ := HQ6.out)
            rw [hli] at HR6
            have HR7 := Lib.hid (HR6.out.set (a := ⟨w4.heap.size, 0, none⟩) (by show w4.heap.size < w4.heap.size + 1; omega) (.slice a6 (i + 1) p6))
            have HQ7 := Lib.hid (HQ6.out.put0 (.slice a6 (i + 1) p6))
            have HB8 := Lib.hid (HB6.out.setCell (p := ⟨w4.heap.size, 0, none⟩) (by simp) (.slice a6 (i + 1) p6))
            refine ⟨⟨i + 1, .slice a6 (i + 1) p6, by omega, by first | rfl | go_num, HB8, ?_, HQ7, ?_⟩, by simp [intOf]; omega⟩
            · rw [HTi.out]; exact HR7
            · exact Lib.hid (by have := HZ6.out; simpa using this)
          · obtain rfl : i = l.length := by omega
            rw [List.take_length] at HRK
            have hSK := HRK.out.sees
            rw [List.take_length, List.length_map] at hbv
            subst hbv
            obtain ⟨r0, r1, r2, r3, r4⟩ := HRP.out
            have HSK := Lib.hid hSK
            have HMw := Lib.hid (HM4.out.step HBM.out)
            clear CO HTk hSK HRK HRP
            go_wp2_with fail
            refine ((C3 _ _ _ HSK.out HMw.out).out).mono ?_
            rintro e w5 ⟨qo, qcap, rfl, hq5, hb5⟩
            have HB5 := Lib.hid (below_nxt HBW.out hb5)
            have HQ5 := Lib.hid hq5
            clear hq5 hb5 C3 r0 r1 r2 r3 r4
            go_wp2_with fail
            refine ((CE _ _ _ HQ5.out (HE.out.step HB5.out)).out).mono ?_
            rintro e w6 ⟨rfl, hb6⟩
            have HB6 := Lib.hid (below_nxt HB5.out hb6)
            clear hb6
            go_wp2_with fail
            refine (awake_any _ (HST.out.step HB6.out)).mono ?_
            rintro e wz ⟨rfl, hbz⟩
            have HBz := Lib.hid (below_nxt HB6.out hbz)
            clear hbz
            go_wp2
            go_ret
            exact ⟨rfl, HBz.out⟩
  · generalize Sk.chkP l n = c at *
    have hcn : (c != 0) = true := by simpa using hch
    clear hch
    go_enter Tryd.func9, Tryd.ntmps9
    go_wp2_with fail
    refine ((F1 _ (HU.out.step HB0.out) (HE.out.step HB0.out)).out).mono ?_
    rintro e w1 ⟨rfl, hb1⟩
    have HB1 := Lib.hid (below_nxt HB0.out hb1)
    have HX1 := Lib.hid (HX0.out.step hb1)
    clear hb1 x0 x1 x2 HX0 HB0
    obtain ⟨x0, x1, x2⟩ := HX1.out
    go_wp2_with fail
    refine ((F2 _ (HU.out.step HB1.out)).out).mono ?_
    rintro e w2 ⟨rfl, hb2⟩
    have HB2 := Lib.hid (below_nxt HB1.out hb2)
    have HX2 := Lib.hid (HX1.out.step hb2)
    clear hb2 x0 x1 x2 HX1 HB1
    obtain ⟨x0, x1, x2⟩ := HX2.out
    go_wp2_with fail
    refine (awake_any _ (HST.out.step HB2.out)).mono ?_
    rintro e wz ⟨rfl, hbz⟩
    have HBz := Lib.hid (below_nxt HB2.out hbz)
    clear hbz
    go_wp2
    go_ret
    exact ⟨rfl, HBz.out⟩
end Go.Proofs.YtgpdfcljchieiaaDoor
