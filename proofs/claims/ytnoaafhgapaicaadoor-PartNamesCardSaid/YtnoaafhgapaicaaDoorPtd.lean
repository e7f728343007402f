/- The statement PartReads. -/
import Derived.Test.YtnoaafhgapaicaaDoorPtc
namespace Pt
theorem kind_back {a r : Nat} {e : Int} (ha : a < 14) (h : KindP (cat a).word r e) : r = a ∧ e = 0 := by
  rcases h with ⟨h1, h2, h3⟩ | ⟨-, -, h3⟩
  · exact ⟨word_inj r h1 a ha h2, h3⟩
  · exact absurd rfl (h3 a ha)
end Pt
namespace Go.Proofs.YtnoaafhgapaicaaDoor
open Go.RowKit
set_option maxHeartbeats 8000000 in
set_option maxRecDepth 100000 in
theorem reads_any (k m : Nat) (port : ByteArray) (w : World) (hk : k < 256) (hm : m < 256) (hx : Lx w) :
    Calls Tryd.prog 7 #[.int .u8 (k : Int), .int .u8 (m : Int), .string port] w fun e w' => e = .returned (.bool true) ∧ Below w.heap.size w w' := by
  obtain ⟨a, ha⟩ : ∃ a, a = k % 14 := ⟨_, rfl⟩
  obtain ⟨b, hb⟩ : ∃ b, b = m % 14 := ⟨_, rfl⟩
  have ha14 : a < 14 := by omega
  have hb14 : b < 14 := by omega
  have hmod : (k : Int).tmod 14 = (a : Int) := by rw [Int.tmod_eq_emod_of_nonneg (by omega), ha]; omega
  have hmod2 : (m : Int).tmod 14 = (b : Int) := by rw [Int.tmod_eq_emod_of_nonneg (by omega), hb]; omega
  have HX := Lib.hid hx
  have C1 := fun W => Lib.hid (word_any a ha14 W)
  have C2 := fun W => Lib.hid (word_any b hb14 W)
  have C3 := fun W => Lib.hid (show Calls Tryd.prog 13 #[.string (Pt.cat a).word] W fun e w' => e = .returned (.tuple #[.int .i64 (a : Int), .int .i64 0]) ∧ Below W.heap.size W w' by
    refine (kind_any (Pt.cat a).word W).mono ?_
    rintro e w' ⟨r, er, rfl, hp, hb⟩
    obtain ⟨rfl, rfl⟩ := Pt.kind_back ha14 hp
    exact ⟨rfl, hb⟩)
  have C4 := fun W => Lib.hid (ports_any a ha14 W)
  have C5 := fun s W => Lib.hid (role_any a ha14 s W)
  have CA := fun W (h : Lx W) => Lib.hid (awake20_any W h)
  have HMem := Lib.hid (fun x => (Pt.mem_srt (l := Pt.pre (Pt.cat a) 5) (x := x)))
  have HAsc := Lib.hid (fun i h0 hi => Pt.srt_asc (Pt.pre (Pt.cat a) 5) (i := i) h0 hi)
  have HIn := Lib.hid (fun s n e (h : Pt.RoleP (Pt.cat a) s n e) (hs : s ∈ Pt.pre (Pt.cat a) 5) => show n < 5 ∧ e = 0 by
    rcases h with ⟨h1, -, h3⟩ | ⟨-, -, h3⟩
    · exact ⟨h1, h3⟩
    · exact absurd hs h3)
  have HOut := Lib.hid (fun s n e (h : Pt.RoleP (Pt.cat a) s n e) => show (s ∈ Pt.pre (Pt.cat a) 5 ∧ e = 0) ∨ (¬ s ∈ Pt.pre (Pt.cat a) 5 ∧ e = 6 ∧ n = 0) by
    rcases h with ⟨-, h2, h3⟩ | ⟨h1, h2, h3⟩
    · exact .inl ⟨h2, h3⟩
    · exact .inr ⟨h3, h2, h1⟩)
  have HW := Lib.hid (fun h => Pt.word_inj a ha14 b hb14 h)
  have HA := Lib.hid ha
  have HB := Lib.hid hb
  clear ha hb hx ha14 hb14
  generalize Pt.RoleP (Pt.cat a) = RP at *
  generalize Pt.pre (Pt.cat a) 5 = M at *
  generalize Pt.srt M = L at *
  obtain ⟨x, hxx⟩ : ∃ x, x = (Pt.cat a).word := ⟨_, rfl⟩
  obtain ⟨y, hyy⟩ : ∃ y, y = (Pt.cat b).word := ⟨_, rfl⟩
  rw [← hxx] at C1 C3 HW
  rw [← hyy] at C2 HW
  have HXY := Lib.hid (fun (h : a = b) => show x = y by rw [hxx, hyy, h])
  clear hxx hyy
  by_cases hab : a = b
  · obtain rfl := HXY.out hab
    have z1 : ((a : Int) == (b : Int)) = true := by rw [hab]; simp
    clear HW HXY hab
    go_enter Tryd.func7, Tryd.ntmps7
    go_wp2_with fail
    refine (C1 w).out.mono ?_
    rintro e w1 ⟨rfl, hb1⟩
    have HB1 := Lib.hid hb1
    clear hb1 C1
    go_wp2_with fail
    refine (C2 w1).out.mono ?_
    rintro e w2 ⟨rfl, hb2⟩
    have HB2 := Lib.hid (below_nxt HB1.out hb2)
    clear hb2 HB1 C2
    go_wp2_with fail
    refine (C3 w2).out.mono ?_
    rintro e w3 ⟨rfl, hb3⟩
    have HB3 := Lib.hid (below_nxt HB2.out hb3)
    clear hb3 HB2 C3
    go_wp2_with fail
    refine (C4 w3).out.mono ?_
    rintro e w4 ⟨v, rfl, hs4, hb4⟩
    obtain ⟨pa, pc, rfl, hl, -⟩ := hs4.at
    have HS4 := Lib.hid hs4
    have HB4 := Lib.hid (below_nxt HB3.out hb4)
    clear hs4 hb4 HB3 C4
    go_wp2_with fail
    refine (C5 port w4).out.mono ?_
    rintro e w5 ⟨n5, e5, rfl, hr5, hb5⟩
    have HR5 := Lib.hid (HOut.out port n5 e5 hr5)
    have HS5 := Lib.hid (HS4.out.step hb5)
    have HB5 := Lib.hid (below_nxt HB4.out hb5)
    clear hr5 hb5 HS4 HB4
    go_wp2_with fail
    refine (sorted_any _ L w5 HS5.out HAsc.out).mono ?_
    rintro e w6 ⟨rfl, hb6⟩
    have HS6 := Lib.hid (HS5.out.step hb6)
    have HB6 := Lib.hid (below_nxt HB5.out hb6)
    clear hb6 HS5 HB5 HAsc
    go_wp2
    go_loopw [84] (fun s84 wr => ∃ i : Nat, i ≤ L.length ∧ s84 = .int .i64 (i : Int) ∧ Hid (Below w6.heap.size w6 wr)) (fun s84 _ => L.length - (intOf s84).toNat)
    case atStart => exact ⟨0, Nat.zero_le _, rfl, Lib.hid (Below.refl _ _)⟩
    case round =>
      obtain ⟨i, hi, rfl, HBW⟩ := hrel
      by_cases hil : i < L.length
      · have zi : (i : Int) < (L.length : Int) := by omega
        have hsr := HS6.out.step HBW.out
        obtain ⟨pa2, pc2, he, -, hc⟩ := hsr.at
        simp only [Value.slice.injEq] at he
        obtain ⟨rfl, -, rfl⟩ := he
        obtain ⟨g, off, rfl, c0⟩ := hc i hil
        have HIL := Lib.hid (show L.getD i ⟨#[]⟩ ∈ L by rw [List.getD_eq_getElem?_getD, List.getElem?_eq_getElem hil]; exact List.getElem_mem hil)
        clear hc hsr
        generalize L.getD i ⟨#[]⟩ = p at *
        go_wp2_with fail
        clear c0
        refine (C5 p wr).out.mono ?_
        rintro e w7 ⟨n7, e7, rfl, hr7, hb7⟩
        obtain ⟨hn7, rfl⟩ := HIn.out p n7 e7 hr7 ((HMem.out p).1 HIL.out)
        have HBW7 := Lib.hid (HBW.out.trans (hb7.mono HBW.out.size))
        have z7 : (n7 : Int) < 5 := by omega
        have y7 : ¬ ((n7 : Int) < 0) := by omega
        have x7 : ¬ ((5 : Int) ≤ (n7 : Int)) := by omega
        clear hr7 hb7 hn7
        go_wp2
        exact ⟨⟨i + 1, by omega, by first | rfl | go_num, HBW7⟩, by simp [intOf]; omega⟩
      · obtain rfl : i = L.length := by omega
        have HSr := Lib.hid (HS6.out.step HBW.out)
        go_wp2_with fail
        refine (contains_any _ L port wr HSr.out).mono ?_
        rintro e w8 ⟨bb, rfl, hbb, rfl⟩
        rcases HR5.out with ⟨g1, rfl⟩ | ⟨g1, rfl, rfl⟩
        · obtain rfl : bb = true := hbb.2 ((HMem.out port).2 g1)
          clear hbb
          go_wp2_with fail
          refine (CA _ (HX.out.next (HB6.out.trans (HBW.out.mono HB6.out.size)))).out.mono ?_
          rintro e w9 ⟨rfl, hb9⟩
          have HB9 := Lib.hid (below_nxt (HB6.out.trans (HBW.out.mono HB6.out.size)) hb9)
          clear hb9
          go_wp2
          go_ret
          exact ⟨rfl, HB9.out⟩
        · obtain rfl : bb = false := by
            cases bb with
            | false => rfl
            | true => exact absurd ((HMem.out port).1 (hbb.1 rfl)) g1
          clear hbb
          go_wp2_with fail
          refine (CA _ (HX.out.next (HB6.out.trans (HBW.out.mono HB6.out.size)))).out.mono ?_
          rintro e w9 ⟨rfl, hb9⟩
          have HB9 := Lib.hid (below_nxt (HB6.out.trans (HBW.out.mono HB6.out.size)) hb9)
          clear hb9
          go_wp2
          go_ret
          exact ⟨rfl, HB9.out⟩
  · obtain ⟨n1, n2⟩ := txt_ne (fun h : x = y => hab (HW.out h))
    have z1 : ((a : Int) == (b : Int)) = false := by
      have : ¬ ((a : Int) = (b : Int)) := by omega
      simp [this]
    clear HW HXY hab
    go_enter Tryd.func7, Tryd.ntmps7
    go_wp2_with fail
    refine (C1 w).out.mono ?_
    rintro e w1 ⟨rfl, hb1⟩
    have HB1 := Lib.hid hb1
    clear hb1 C1
    go_wp2_with fail
    refine (C2 w1).out.mono ?_
    rintro e w2 ⟨rfl, hb2⟩
    have HB2 := Lib.hid (below_nxt HB1.out hb2)
    clear hb2 HB1 C2
    go_wp2_with fail
    refine (C3 w2).out.mono ?_
    rintro e w3 ⟨rfl, hb3⟩
    have HB3 := Lib.hid (below_nxt HB2.out hb3)
    clear hb3 HB2 C3
    go_wp2_with fail
    refine (C4 w3).out.mono ?_
    rintro e w4 ⟨v, rfl, hs4, hb4⟩
    obtain ⟨pa, pc, rfl, hl, -⟩ := hs4.at
    have HS4 := Lib.hid hs4
    have HB4 := Lib.hid (below_nxt HB3.out hb4)
    clear hs4 hb4 HB3 C4
    go_wp2_with fail
    refine (C5 port w4).out.mono ?_
    rintro e w5 ⟨n5, e5, rfl, hr5, hb5⟩
    have HR5 := Lib.hid (HOut.out port n5 e5 hr5)
    have HS5 := Lib.hid (HS4.out.step hb5)
    have HB5 := Lib.hid (below_nxt HB4.out hb5)
    clear hr5 hb5 HS4 HB4
    go_wp2_with fail
    refine (sorted_any _ L w5 HS5.out HAsc.out).mono ?_
    rintro e w6 ⟨rfl, hb6⟩
    have HS6 := Lib.hid (HS5.out.step hb6)
    have HB6 := Lib.hid (below_nxt HB5.out hb6)
    clear hb6 HS5 HB5 HAsc
    go_wp2
    go_loopw [84] (fun s84 wr => ∃ i : Nat, i ≤ L.length ∧ s84 = .int .i64 (i : Int) ∧ Hid (Below w6.heap.size w6 wr)) (fun s84 _ => L.length - (intOf s84).toNat)
    case atStart => exact ⟨0, Nat.zero_le _, rfl, Lib.hid (Below.refl _ _)⟩
    case round =>
      obtain ⟨i, hi, rfl, HBW⟩ := hrel
      by_cases hil : i < L.length
      · have zi : (i : Int) < (L.length : Int) := by omega
        have hsr := HS6.out.step HBW.out
        obtain ⟨pa2, pc2, he, -, hc⟩ := hsr.at
        simp only [Value.slice.injEq] at he
        obtain ⟨rfl, -, rfl⟩ := he
        obtain ⟨g, off, rfl, c0⟩ := hc i hil
        have HIL := Lib.hid (show L.getD i ⟨#[]⟩ ∈ L by rw [List.getD_eq_getElem?_getD, List.getElem?_eq_getElem hil]; exact List.getElem_mem hil)
        clear hc hsr
        generalize L.getD i ⟨#[]⟩ = p at *
        go_wp2_with fail
        clear c0
        refine (C5 p wr).out.mono ?_
        rintro e w7 ⟨n7, e7, rfl, hr7, hb7⟩
        obtain ⟨hn7, rfl⟩ := HIn.out p n7 e7 hr7 ((HMem.out p).1 HIL.out)
        have HBW7 := Lib.hid (HBW.out.trans (hb7.mono HBW.out.size))
        have z7 : (n7 : Int) < 5 := by omega
        have y7 : ¬ ((n7 : Int) < 0) := by omega
        have x7 : ¬ ((5 : Int) ≤ (n7 : Int)) := by omega
        clear hr7 hb7 hn7
        go_wp2
        exact ⟨⟨i + 1, by omega, by first | rfl | go_num, HBW7⟩, by simp [intOf]; omega⟩
      · obtain rfl : i = L.length := by omega
        have HSr := Lib.hid (HS6.out.step HBW.out)
        go_wp2_with fail
        refine (contains_any _ L port wr HSr.out).mono ?_
        rintro e w8 ⟨bb, rfl, hbb, rfl⟩
        rcases HR5.out with ⟨g1, rfl⟩ | ⟨g1, rfl, rfl⟩
        · obtain rfl : bb = true := hbb.2 ((HMem.out port).2 g1)
          clear hbb
          go_wp2_with fail
          refine (CA _ (HX.out.next (HB6.out.trans (HBW.out.mono HB6.out.size)))).out.mono ?_
          rintro e w9 ⟨rfl, hb9⟩
          have HB9 := Lib.hid (below_nxt (HB6.out.trans (HBW.out.mono HB6.out.size)) hb9)
          clear hb9
          go_wp2
          go_ret
          exact ⟨rfl, HB9.out⟩
        · obtain rfl : bb = false := by
            cases bb with
            | false => rfl
            | true => exact absurd ((HMem.out port).1 (hbb.1 rfl)) g1
          clear hbb
          go_wp2_with fail
          refine (CA _ (HX.out.next (HB6.out.trans (HBW.out.mono HB6.out.size)))).out.mono ?_
          rintro e w9 ⟨rfl, hb9⟩
          have HB9 := Lib.hid (below_nxt (HB6.out.trans (HBW.out.mono HB6.out.size)) hb9)
          clear hb9
          go_wp2
          go_ret
          exact ⟨rfl, HB9.out⟩
theorem reads_card (k m : Int) (s : ByteArray) (w : World) (hst : Lx w) (h0 : 0 ≤ k) (h1 : k ≤ 255) (h2 : 0 ≤ m) (h3 : m ≤ 255) (_ : s.size ≤ 9223372036854775807) :
    Calls Tryd.prog 7 #[.int .u8 k, .int .u8 m, .string s] w fun e w' => e = .returned (.bool true) ∧ Below w.heap.size w w' := by
  obtain ⟨k', rfl⟩ := Int.eq_ofNat_of_zero_le h0
  obtain ⟨m', rfl⟩ := Int.eq_ofNat_of_zero_le h2
  exact reads_any k' m' s w (by omega) (by omega) hst
end Go.Proofs.YtnoaafhgapaicaaDoor
