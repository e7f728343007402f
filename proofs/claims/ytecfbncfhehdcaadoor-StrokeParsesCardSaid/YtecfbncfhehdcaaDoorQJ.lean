/- joined of package stroke, at strokes. -/
import Derived.Test.YtecfbncfhehdcaaDoorQI
namespace Sk
open Go
def txB (x : Str) : ByteArray := ⟨(strT x).toArray⟩
/-- The text of strokes. -/
def lnT (l : List Str) : List UInt8 := Lib.join (l.map strT) [32]
theorem strT_len (x : Str) : (strT x).length = 2 := rfl
theorem lnT_len {l : List Str} (h : l.length ≤ 6) : (lnT l).length ≤ 18 := by
  have := join_len (sep := [32]) (M := 2) (K := 6) (r := l.map strT) (fun x hx => by obtain ⟨y, _, rfl⟩ := List.mem_map.1 hx; exact Nat.le_of_eq (strT_len y)) (by simpa using h)
  simpa [lnT] using this
theorem map_txB (l : List Str) : (l.map txB).map (·.data.toList) = l.map strT := by simp [txB]
theorem take_map {α β : Type} (f : α → β) {l : List α} {i : Nat} (d : α) (h : i < l.length) : (l.take (i + 1)).map f = (l.take i).map f ++ [f (l.getD i d)] := by
  rw [List.take_succ_eq_append_getElem h, List.map_append, List.getD_eq_getElem?_getD, List.getElem?_eq_getElem h]; rfl
end Sk
namespace Go.Proofs.YtecfbncfhehdcaaDoor
open Go.RowKit
theorem RtAct {l : List Sk.Str} (h : Sk.RtL l) {i : Nat} (hi : i < l.length) : ∃ (k : Nat) (o : Bool), l.getD i Sk.d0 = ((k : Int), o) ∧ k < 6 := by
  obtain ⟨k, hk⟩ := Int.eq_ofNat_of_zero_le (h.act i hi).1
  exact ⟨k, (l.getD i Sk.d0).2, Prod.ext hk rfl, by have := (h.act i hi).2; omega⟩
set_option maxHeartbeats 4000000 in
set_option maxRecDepth 100000 in
theorem jnS_any (v : Value) (l : List Sk.Str) (w : World) (hs : SeeK w v l) (hr : Sk.RtL l) :
    Calls Tryd.prog 100 #[v, .string ⟨#[32]⟩, .func (.func 101) #[] #[]] w fun e w' => e = .returned (.string ⟨(Sk.lnT l).toArray⟩) ∧ Below w.heap.size w w' := by
  obtain ⟨i0, hi0, hz0, hz1, hz2⟩ := info_str
  obtain ⟨ao, cap, rfl, hcap1, hcap2, hC⟩ := hs
  have HC := Lib.hid hC
  have HAct := Lib.hid (fun i (hi : i < l.length) => RtAct hr hi)
  have hl6 := hr.le6
  have HT := Lib.hid (fun i (hi : i < l.length) => Sk.take_map Sk.txB Sk.d0 hi)
  have CJ := fun W v' (h : RowS w.heap.size 9 W v' (l.map Sk.txB)) => Lib.hid (joinS_any ⟨#[32]⟩ W h (by simp; omega) (by rw [Sk.map_txB]; have := Sk.lnT_len hl6; unfold Sk.lnT at this; exact Nat.le_trans this (by omega)))
  rw [Sk.map_txB] at CJ
  change ∀ W v', RowS w.heap.size 9 W v' (l.map Sk.txB) → Hid (Calls Tryd.prog 99 #[v', .string ⟨#[32]⟩] W fun e w' => e = .returned (.string ⟨(Sk.lnT l).toArray⟩) ∧ Below W.heap.size W w') at CJ
  clear hC hr
  generalize Sk.lnT l = lt at *
  go_enter Tryd.func100, Tryd.ntmps100
  go_wp2
  go_loopw [7, 12] (fun s7 s12 wr => ∃ i : Nat, i ≤ l.length ∧ s12 = .int .i64 (i : Int) ∧ Hid (RowS w.heap.size 9 wr s7 ((l.take i).map Sk.txB)) ∧ Hid (Below w.heap.size w wr)) (fun _ s12 _ => l.length - (intOf s12).toNat)
  case atStart => exact ⟨0, Nat.zero_le _, rfl, Lib.hid (RowS.nil _ _ _), Lib.hid (Below.refl _ _)⟩
  case round =>
    rename_i s7
    obtain ⟨i, hi, rfl, HR, HBW⟩ := hrel
    by_cases hil : i < l.length
    · obtain ⟨g, off, rfl, hg, c1, c2⟩ := HC.out.at HBW.out hil
      obtain ⟨k, o, hko, hk⟩ := HAct.out i hil
      have HTi := Lib.hid (HT.out i hil)
      have hlen : ((l.take i).map Sk.txB).length ≤ 64 := by simp; omega
      have HLen := Lib.hid hlen
      clear HT HAct CJ hlen
      rw [hko] at c1 c2 HTi
      generalize (l.take i).map Sk.txB = F at *
      obtain ⟨P1, L1, z1⟩ := boxP_new wr (.int .i64 (k : Int)) (.bool o) 47
      have HB1 := Lib.hid (below_nxt HBW.out L1)
      have HR1 := Lib.hid (HR.out.step L1)
      have CT := fun W => Lib.hid (sTx_any k o hk W)
      clear P1 L1 z1 HBW HR
      go_wp2_with fail
      refine ((CT _).out).mono ?_
      rintro e w2 ⟨rfl, hb2⟩
      have HB2 := Lib.hid (below_nxt (below_nxt HB1.out hb2) (allocB w2 (.cells #[.string ⟨(Sk.strT ((k : Int), o)).toArray⟩] 9)))
      have HR2 := Lib.hid ((HR1.out.step hb2).step (allocB w2 (.cells #[.string ⟨(Sk.strT ((k : Int), o)).toArray⟩] 9)))
      clear hb2 HB1 HR1 CT
      go_wp2_with (at_builtin; refine wpList_append_text rfl _ _ 98 rfl 9 i0 Tryd.underlying98 hi0 hz0 hz1 hz2 _ F (Sk.txB ((k : Int), o)) w2.heap.size rfl rfl w.heap.size HR2.out (by simp [Sk.txB]) (Nat.le_trans HLen.out (by omega)) HB2.out.size ?_; intro v5 w5 hr5 hb5; have HR5 := Lib.hid hr5; have HB5 := Lib.hid (HB2.out.trans hb5); clear hr5 hb5)
      exact ⟨⟨i + 1, by omega, by first | rfl | go_num, by rw [HTi.out]; exact HR5, HB5⟩, by simp [intOf]; omega⟩
    · obtain rfl : i = l.length := by omega
      rw [List.take_length] at HR
      have CJ2 := CJ _ _ HR.out
      clear CJ HT HAct
      go_wp2_with fail
      refine (CJ2.out).mono ?_
      rintro e w2 ⟨rfl, hb2⟩
      have HB2 := Lib.hid (below_nxt HBW.out hb2)
      clear hb2
      go_wp2
      go_ret
      exact ⟨rfl, HB2.out⟩
end Go.Proofs.YtecfbncfhehdcaaDoor

