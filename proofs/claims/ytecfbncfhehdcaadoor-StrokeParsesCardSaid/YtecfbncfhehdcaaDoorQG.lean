/- Apply of package stroke. -/
import Derived.Test.YtecfbncfhehdcaaDoorQF
namespace Go.Proofs.YtecfbncfhehdcaaDoor
open Go.RowKit
def AppP (q : List Bool × Int) (w : World) (e : Ending) (w' : World) : Prop := ∃ u, e = .returned (.tuple #[u, .int .i64 q.2]) ∧ SeeB w' u q.1 ∧ Below w.heap.size w w' ∧ (∀ n c, u = .slice none n c → c = 0)
set_option maxHeartbeats 4000000 in
set_option maxRecDepth 100000 in
theorem sApp_any (v ev : Value) (l : List Sk.Str) (n : Int) (E : List Bool) (w : World) (hs : SeeK w v l) (he : SeeB w ev E) : Calls Tryd.prog 37 #[.agg #[v, .int .i64 n], ev] w (AppP (Sk.appV l n E) w) := by
  have CF := fun W (h : SeeK W v l) (h2 : SeeB W ev E) => Lib.hid (sFit_any v ev l n E W h h2)
  have HS := Lib.hid hs
  have HE := Lib.hid he
  obtain ⟨ao, cap, rfl, hcap1, hcap2, hC⟩ := hs
  obtain ⟨eo, ecap, rfl, hecap1, hecap2, -⟩ := he
  have HC := Lib.hid hC
  obtain ⟨P0, L0, z0⟩ := boxP_new w (.slice ao l.length cap) (.int .i64 n) 70
  have HL := Lib.hid L0
  have HP := Lib.hid P0
  have HSX := Lib.hid (HS.out.step L0)
  have HEX := Lib.hid (HE.out.step L0)
  clear hC L0 P0 z0
  by_cases h1 : Sk.chkP l n = 0
  · obtain ⟨hR, hn1, hn2⟩ := Sk.chkP_ok h1
    have hf : Sk.fitV l n E = if 6 < E.length then (false, 5) else (Sk.sui l E, 0) := if_pos h1
    have hv : Sk.appV l n E = if 6 < E.length then ([], 5) else (if Sk.sui l E then (Sk.aft l E, 0) else ([], 14)) := if_pos h1
    by_cases h6 : 6 < E.length
    · have hf2 : Sk.fitV l n E = (false, 5) := by rw [hf, if_pos h6]
      have hv2 : Sk.appV l n E = ([], 5) := by rw [hv, if_pos h6]
      rw [hv2]
      rw [hf2] at CF
      clear hv hv2 hf hf2 h1 h6 hR
      go_enter Tryd.func37, Tryd.ntmps37
      go_wp2_with fail
      refine ((CF _ HSX.out HEX.out).out).mono ?_
      rintro e w1 ⟨rfl, hb1⟩
      have HB1 := Lib.hid (below_nxt HL.out hb1)
      clear hb1
      go_wp2
      exact bodyPost_ret (v := .tuple #[.slice none 0 0, .int .i64 5]) (by simp [results, Tryd.results37, go_sem]) rfl ⟨_, rfl, SeeB.nil _, HB1.out, by rintro _ _ ⟨⟩; rfl⟩
    · have hf2 : Sk.fitV l n E = (Sk.sui l E, 0) := by rw [hf, if_neg h6]
      rw [hf2] at CF
      rw [if_neg h6] at hv
      cases hsu : Sk.sui l E <;> rw [hsu] at hv CF
      · rw [if_neg (by decide)] at hv
        rw [hv]
        clear hv hf hf2 h1 h6 hR hsu
        go_enter Tryd.func37, Tryd.ntmps37
        go_wp2_with fail
        refine ((CF _ HSX.out HEX.out).out).mono ?_
        rintro e w1 ⟨rfl, hb1⟩
        have HB1 := Lib.hid (below_nxt HL.out hb1)
        clear hb1
        go_wp2
        exact bodyPost_ret (v := .tuple #[.slice none 0 0, .int .i64 14]) (by simp [results, Tryd.results37, go_sem]) rfl ⟨_, rfl, SeeB.nil _, HB1.out, by rintro _ _ ⟨⟩; rfl⟩
      · rw [if_pos rfl] at hv
        rw [hv]
        have hsui := Sk.sui_iff.1 hsu
        have HAct := Lib.hid (fun i (hi : i < l.length) => show ∃ (k : Nat) (o : Bool), l.getD i Sk.d0 = ((k : Int), o) ∧ k < E.length from by
          obtain ⟨k, hk⟩ := Int.eq_ofNat_of_zero_le (hR.act i hi).1
          refine ⟨k, (l.getD i Sk.d0).2, Prod.ext hk rfl, ?_⟩
          have h := hsui i hi
          unfold Sk.sui1 at h
          rw [Bool.and_eq_true, decide_eq_true_iff] at h
          have := h.1
          omega)
        have hE0 : 0 < E.length := by
          obtain ⟨k, o, -, hk⟩ := HAct.out 0 hR.pos
          omega
        have hE6 : E.length ≤ 6 := by omega
        have hl6 := hR.le6
        have HT := Lib.hid (fun i (hi : i < l.length) => Sk.aft_take hi E)
        have HLn := Lib.hid (fun i => Sk.aft_len (l.take i) E)
        have HAll : Hid (Sk.aft l E = Sk.aft (l.take l.length) E) := Lib.hid (by rw [List.take_length])
        have CCl := fun W (h : SeeB W (.slice eo E.length ecap) E) => Lib.hid (cloB_any E _ W (by omega) hE0 h)
        clear hv hf hf2 h1 h6 hR hsu hsui
        go_enter Tryd.func37, Tryd.ntmps37
        go_wp2_with fail
        refine ((CF _ HSX.out HEX.out).out).mono ?_
        rintro e w1 ⟨rfl, hb1⟩
        have HB1 := Lib.hid (below_nxt HL.out hb1)
        have HP1 := Lib.hid (HP.out.step hb1)
        clear hb1
        go_wp2_with fail
        refine ((CCl _ (HE.out.step HB1.out)).out).mono ?_
        rintro e w2 ⟨u, rfl, hr2, hb2⟩
        have HB2 := Lib.hid (below_nxt HB1.out hb2)
        obtain ⟨p0, p1, p2⟩ := HP1.out.step hb2
        obtain ⟨g, cp, rfl, hg1, hg2⟩ := hr2.form hE0
        have HR2 := Lib.hid hr2
        have hz12 := HB1.out.size
        clear hb2 hr2
        go_wp2
        clear p0 p1 p2
        go_loopw [27] (fun s18 wr => ∃ i : Nat, i ≤ l.length ∧ s18 = .int .i64 (i : Int) ∧ Hid (RowB w1.heap.size 4 wr (.slice (some ⟨g, 0, none⟩) E.length cp) (Sk.aft (l.take i) E)) ∧ Hid (Below w.heap.size w wr)) (fun s18 _ => l.length - (intOf s18).toNat)
        case atStart => exact ⟨0, Nat.zero_le _, rfl, by simpa [Sk.aft] using HR2, HB2⟩
        case round =>
          clear HR2 HB2
          obtain ⟨i, hi, rfl, HRW, HBW⟩ := hrel
          by_cases hil : i < l.length
          · obtain ⟨gs, off, rfl, hgs, c1, c2⟩ := HC.out.at HBW.out hil
            obtain ⟨k, o, hko, hk⟩ := HAct.out i hil
            have HTi := Lib.hid (HT.out i hil)
            have hln := HLn.out i
            clear HT HLn HAct
            rw [hko] at c1 c2 HTi
            generalize Sk.aft (l.take i) E = F at *
            rw [← hln] at hk
            rw [← hln] at HRW
            obtain ⟨d1, d2⟩ := HRW.out.at hk
            have L1 := allocB wr (.cells #[.int .i64 (k : Int), .bool o] 47)
            have hgw : g < wr.heap.size := World.block_lt_of_cell? wr ⟨g, k, none⟩ d1
            have HR1 := Lib.hid ((HRW.out.put k o).step (allocB _ (.cells #[.int .i64 (k : Int), .bool o] 47)))
            have HB1' := Lib.hid (below_nxt (HBW.out.setCell (p := ⟨g, k, none⟩) (by show w.heap.size ≤ g; omega) (.bool o)) (allocB _ (.cells #[.int .i64 (k : Int), .bool o] 47)))
            have e1 := (L1.cell (p := ⟨g, k, none⟩) hgw).trans d1
            have e2 := (L1.frozen (p := ⟨g, k, none⟩) hgw).trans d2
            have hkz : (k : Int) < (E.length : Int) := by omega
            have hT2 : Hid (Sk.aft (l.take (i + 1)) E = F.set k o) := Lib.hid (by rw [HTi.out]; simp)
            clear L1 HRW HBW HTi
            generalize F.getD k false = f at *
            go_wp2
            refine ⟨⟨i + 1, by omega, by first | rfl | go_num, ?_, HB1'⟩, by simp [intOf]; omega⟩
            rw [hT2.out, ← hln]; exact HR1
          · have hii : i = l.length := by omega
            subst hii
            have hln := HLn.out l.length
            have HSe := Lib.hid (show SeeB wr (.slice (some ⟨g, 0, none⟩) E.length cp) (Sk.aft l E) by rw [HAll.out, ← hln]; exact (show RowB w1.heap.size 4 wr (.slice (some ⟨g, 0, none⟩) (Sk.aft (l.take l.length) E).length cp) (Sk.aft (l.take l.length) E) by rw [hln]; exact HRW.out).sees)
            clear HT HLn HAct
            go_wp2
            exact bodyPost_ret (v := .tuple #[.slice (some ⟨g, 0, none⟩) E.length cp, .int .i64 0]) (by simp [results, Tryd.results37, go_sem]) rfl ⟨_, rfl, HSe.out, HBW.out, fun n c h => by cases h⟩
  · have hv : Sk.appV l n E = ([], Sk.chkP l n) := if_neg h1
    have hf : Sk.fitV l n E = (false, Sk.chkP l n) := if_neg h1
    rw [hv]
    rw [hf] at CF
    have h1' : (Sk.chkP l n == 0) = false := by simpa using h1
    clear hv h1 hf
    generalize Sk.chkP l n = q at *
    go_enter Tryd.func37, Tryd.ntmps37
    go_wp2_with fail
    refine ((CF _ HSX.out HEX.out).out).mono ?_
    rintro e w1 ⟨rfl, hb1⟩
    have HB1 := Lib.hid (below_nxt HL.out hb1)
    clear hb1
    go_wp2
    exact bodyPost_ret (v := .tuple #[.slice none 0 0, .int .i64 q]) (by simp [results, Tryd.results37, go_sem]) rfl ⟨_, rfl, SeeB.nil _, HB1.out, by rintro _ _ ⟨⟩; rfl⟩
end Go.Proofs.YtecfbncfhehdcaaDoor

