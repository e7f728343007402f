/- The contracts of opposite and greatest of package enclosure; a rule of invariants for regions that draw. -/
import Derived.Test.YtldclpdmcopgnaaGreatDoorEv
import Derived.Orders
import Derived.Deep.RegionHeld3
namespace Go
section
variable {P : Program} {ops : Array Oper} {Q : Exit → Act → World → Prop} {md : Region.Mode}
/-- How many operations have not come up. -/
def leftB (listed : Array Bool) : Nat := (listed.toList.filter fun b => !b).length
theorem left_set : ∀ (l : List Bool) (i : Nat), l[i]? = some false → ((l.set i true).filter fun b => !b).length + 1 = (l.filter fun b => !b).length
  | [], _, h => by simp at h
  | b :: l, 0, h => by
    simp at h
    subst h
    simp
  | b :: l, i + 1, h => by
    have := left_set l i (by simpa using h)
    cases b <;> simp at this ⊢ <;> omega
theorem leftB_set {listed : Array Bool} {i : Nat} (h : listed.getD i true = false) : leftB (listed.setIfInBounds i true) + 1 = leftB listed := by
  have hi : i < listed.size := by
    apply Classical.byContradiction
    intro hn
    simp [Array.getD, hn] at h
  have hl : listed.toList[i]? = some false := by
    rw [List.getElem?_eq_getElem (by simpa using hi)]
    simp [Array.getD, hi] at h
    simpa using h
  have := left_set listed.toList i hl
  unfold leftB
  rw [Array.toList_setIfInBounds]
  exact this
/-- Each operation waits for earlier ones alone. -/
def backB (ops : Array Oper) : Bool := (List.range ops.size).all fun i => match ops[i]? with | some o => o.after.all fun e => decide (e.on < i) | none => true
theorem all_listed {listed : Array Bool} (hs : listed.size = ops.size) (hb : backB ops = true) (hr : Region.ready md ops listed = []) : ∀ i, i < ops.size → listed.getD i false = true := by
  intro i
  induction i using Nat.strongRecOn with
  | _ i ih =>
    intro hi
    apply Classical.byContradiction
    intro hn
    have hf : listed.getD i true = false := by
      have h1 : i < listed.size := by omega
      simp [Array.getD, h1] at hn ⊢
      exact hn
    have hm : i ∈ Region.ready md ops listed := by
      refine mem_ready.2 ⟨hf, ops[i], by simp [hi], fun e he _ => ?_⟩
      have h2 := List.all_eq_true.1 hb i (List.mem_range.2 hi)
      simp only [Array.getElem?_eq_getElem hi] at h2
      have h3 := Array.all_eq_true_iff_forall_mem.1 h2 e he
      have h4 := of_decide_eq_true h3
      exact ih e.on h4 (by omega)
    rw [hr] at hm
    cases hm
theorem wpAny_inv {I : Array Bool → Act → World → Prop} (hb : backB ops = true)
    (step : ∀ listed a w, I listed a w → ∀ i o, ops[i]? = some o → listed.getD i true = false → (∀ e ∈ o.after, Region.binds md e = true → listed.getD e.on false = true) →
      ∀ K' : Act → World → Prop, Shut (∀ a w, I (listed.setIfInBounds i true) a w → K' a w) → if Region.wanted o (yielded ops a.tmps) = true then Oper.wp P o a w K' Q else K' (a.put o.dst undef) w)
    (fin : ∀ listed a w, I listed a w → (∀ i, i < ops.size → listed.getD i false = true) → Q .normal a w) :
    ∀ (fuel : Nat) (listed : Array Bool) (a : Act) (w : World), leftB listed ≤ fuel → listed.size = ops.size → I listed a w → wpAny P md ops Q fuel listed a w := by
  intro fuel
  induction fuel with
  | zero =>
    intro listed a w hl hs hi
    have hr : Region.ready md ops listed = [] := by
      apply Classical.byContradiction
      intro hn
      obtain ⟨j, hj⟩ := List.exists_mem_of_ne_nil _ hn
      have := leftB_set (mem_ready.1 hj).1
      omega
    exact ⟨hr, fin listed a w hi (all_listed hs hb hr)⟩
  | succ fuel ih =>
    intro listed a w hl hs hi
    refine ⟨fun hr => fin listed a w hi (all_listed hs hb hr), fun j hj => ?_⟩
    obtain ⟨h1, o, h2, h3⟩ := mem_ready.1 hj
    refine wpOp_step h2 (fun K' hK => step listed a w hi j o h2 h1 h3 K' (fun a w h => hK a w (ih _ a w ?_ (by simpa using hs) h)))
    have := leftB_set h1
    omega
end
end Go
namespace Go.Proofs.YtldclpdmcopgnaaGreatDoor
open Go.RowKit
/-- The opposite number's text. -/
def negB (s : ByteArray) : ByteArray := ⟨(Fr.out (-(Fr.rat s.data.toList))).1.toArray⟩
set_option maxRecDepth 100000 in
theorem eOpp_any (s : ByteArray) (w : World) (hst : St w) (hs : s.size ≤ 800) (ks : Fr.chk s.data.toList = 0) :
    Calls Tryz.prog 76 #[.string s] w fun e w' => e = .returned (.string (negB s)) ∧ Below w.heap.size w w' := by
  have C := fNeg_any s w hst hs
  unfold OutPost un at C
  rw [if_pos ks] at C
  unfold negB
  generalize Fr.out (-(Fr.rat s.data.toList)) = o at *
  obtain ⟨x, c⟩ := o
  simp only [] at *
  generalize (⟨x.toArray⟩ : ByteArray) = t at *
  have CC := Lib.hid C
  clear C hst ks
  go_enter Tryz.func76, Tryz.ntmps76
  go_wp2_with fail
  refine (CC.out).mono ?_
  rintro e w1 ⟨rfl, hb1⟩
  go_wp2
  go_ret
  exact ⟨rfl, hb1⟩
/-- The greatest of some texts, the first one of several. -/
theorem greatB_or (s t : ByteArray) : greatB s t = s ∨ greatB s t = t := by
  unfold greatB
  split
  · exact .inr rfl
  · exact .inl rfl
theorem greatB_dec (s t : ByteArray) : greatB s t = if decide (Fr.rat s.data.toList < Fr.rat t.data.toList) = true then t else s := by
  unfold greatB
  by_cases e : Fr.rat s.data.toList < Fr.rat t.data.toList
  · rw [if_pos e, if_pos (decide_eq_true e)]
  · rw [if_neg e, if_neg (by simpa using e)]
theorem greatF_ok {p : ByteArray → Prop} : ∀ (l : List ByteArray) (s : ByteArray), p s → (∀ x, x ∈ l → p x) → p (l.foldl greatB s)
  | [], _, hs, _ => hs
  | x :: l, s, hs, h => greatF_ok l (greatB s x) ((greatB_or s x).elim (fun e => by rw [e]; exact hs) (fun e => by rw [e]; exact h x (by simp))) (fun y hy => h y (by simp [hy]))
theorem fold_take (l : List ByteArray) (s : ByteArray) (j : Nat) (hj : j < l.length) : (l.take (j + 1)).foldl greatB s = greatB ((l.take j).foldl greatB s) (l.getD j ⟨#[]⟩) := by
  rw [List.take_add_one, List.foldl_append, List.getElem?_eq_getElem hj, List.getD_eq_getElem?_getD, List.getElem?_eq_getElem hj]
  rfl
set_option maxRecDepth 100000 in
set_option maxHeartbeats 1000000 in
theorem greatest_any (s : ByteArray) (l : List ByteArray) (g : Nat) (w : World) (hst : St w) (hg : g < w.heap.size) (hc : ∀ i, i < l.length → w.cell? ⟨g, i, none⟩ = some (.string (l.getD i ⟨#[]⟩))) (hs : s.size ≤ 800 ∧ Fr.chk s.data.toList = 0) (hl : ∀ x, x ∈ l → x.size ≤ 800 ∧ Fr.chk x.data.toList = 0) (hn : l.length ≤ 1000) :
    Calls Tryz.prog 57 #[.string s, .slice (some ⟨g, 0, none⟩) l.length l.length] w fun e w' => e = .returned (.string (l.foldl greatB s)) ∧ Below w.heap.size w w' := by
  have HC := Lib.hid hc
  have HI := Lib.hid (fun (a b : ByteArray) (ha : a.size ≤ 800 ∧ Fr.chk a.data.toList = 0) (hb : b.size ≤ 800 ∧ Fr.chk b.data.toList = 0) (W : World) (hW : Below w.heap.size w W) => isLess_lit (b := decide (Fr.rat a.data.toList < Fr.rat b.data.toList)) rfl W (hst.next hW) ha.1 hb.1 ha.2 hb.2)
  have HF := Lib.hid (fun j => greatF_ok (p := fun x => x.size ≤ 800 ∧ Fr.chk x.data.toList = 0) (l.take j) s hs (fun x hx => hl x (List.mem_of_mem_take hx)))
  have HL := Lib.hid (fun i (hi : i < l.length) => hl (l.getD i ⟨#[]⟩) (by rw [List.getD_eq_getElem?_getD, List.getElem?_eq_getElem hi]; exact List.getElem_mem hi))
  have HT := Lib.hid (fold_take l s)
  have HA := Lib.hid (show (l.take l.length).foldl greatB s = l.foldl greatB s by rw [List.take_of_length_le (Nat.le_refl _)])
  clear hc hst hs hl
  go_enter Tryz.func57, Tryz.ntmps57
  go_wp2
  go_loopw [9, 0] (fun u9 u0 wr => ∃ j : Nat, j ≤ l.length ∧ u9 = .int .i64 (j : Int) ∧ u0 = .string ((l.take j).foldl greatB s) ∧ Hid (Below w.heap.size w wr)) (fun u9 _ _ => l.length - (intOf u9).toNat)
  case atStart => exact ⟨0, Nat.zero_le _, rfl, rfl, Lib.hid (Below.refl _ _)⟩
  case round =>
    obtain ⟨j, hj, rfl, rfl, HB⟩ := hrel
    by_cases hjl : j < l.length
    · have zj : (j : Int) < (l.length : Int) := by omega
      have c0 := (HB.out.cell (p := ⟨g, j, none⟩) hg).trans (HC.out j hjl)
      have ht := HT.out j hjl
      have CI := Lib.hid (HI.out _ _ (HF.out j) (HL.out j hjl) wr HB.out)
      have hgr := greatB_dec ((l.take j).foldl greatB s) (l.getD j ⟨#[]⟩)
      rw [hgr] at ht
      generalize decide (Fr.rat ((l.take j).foldl greatB s).data.toList < Fr.rat (l.getD j ⟨#[]⟩).data.toList) = b at *
      have HTj := Lib.hid ht
      clear ht hgr
      generalize l.getD j ⟨#[]⟩ = x at *
      generalize (l.take j).foldl greatB s = y at *
      go_wp2_with fail
      clear c0
      refine (CI.out).mono ?_
      rintro e w1 ⟨rfl, hb1⟩
      have HB1 := Lib.hid (HB.out.trans (hb1.mono HB.out.size))
      clear hb1 CI HB
      cases b
      · have HE := Lib.hid (show y = (l.take (j + 1)).foldl greatB s by rw [HTj.out]; rfl)
        clear HTj
        go_wp2
        exact ⟨⟨j + 1, by omega, by first | rfl | go_num, by rw [← HE.out], HB1⟩, by simp [intOf]; omega⟩
      · have HE := Lib.hid (show x = (l.take (j + 1)).foldl greatB s by rw [HTj.out]; rfl)
        clear HTj
        go_wp2
        exact ⟨⟨j + 1, by omega, by first | rfl | go_num, by rw [← HE.out], HB1⟩, by simp [intOf]; omega⟩
    · obtain rfl : j = l.length := by omega
      go_wp2
      go_ret
      exact ⟨congrArg (fun x => Ending.returned (Value.string x)) HA.out, HB.out⟩
end Go.Proofs.YtldclpdmcopgnaaGreatDoor
