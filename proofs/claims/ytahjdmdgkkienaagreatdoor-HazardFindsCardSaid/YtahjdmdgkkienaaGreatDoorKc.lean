/- Cubes of the reference. -/
import Derived.Test.YtahjdmdgkkienaaGreatDoorIm
namespace Ic
/-- The first k values of a care. -/
def rowR (c k : Nat) : List (Nat × Nat) := ((List.range k).filter fun v => v &&& c == v).map fun v => (c, v)
/-- All cubes with a care below m, in the reference's order. -/
def cubR (m : Nat) : List (Nat × Nat) := (List.range m).flatMap fun c => rowR c (c + 1)
theorem rowR_succ (c k : Nat) : rowR c (k + 1) = if k &&& c == k then rowR c k ++ [(c, k)] else rowR c k := by
  unfold rowR
  rw [List.range_succ, List.filter_append, List.map_append]
  by_cases h : (k &&& c == k) = true
  · rw [if_pos h, List.filter_cons_of_pos (by exact h)]; rfl
  · rw [if_neg h, List.filter_cons_of_neg (by exact h)]; simp
theorem cubR_succ (m : Nat) : cubR (m + 1) = cubR m ++ rowR m (m + 1) := by simp [cubR, List.range_succ]
theorem rowR_len (c k : Nat) : (rowR c k).length ≤ k := by
  unfold rowR
  rw [List.length_map]
  exact Nat.le_trans (List.length_filter_le _ _) (by simp)
theorem cubR_len (m : Nat) : (cubR m).length ≤ m * m := by
  induction m with
  | zero => simp [cubR]
  | succ m ih => rw [cubR_succ, List.length_append]; have := rowR_len m (m + 1); simp only [Nat.add_mul, Nat.mul_add]; omega
theorem andNot_small : ∀ c : Nat, c < 64 → ∀ v : Nat, v < 64 → (Go.bits .andNot .i64 (v : Int) (c : Int) == 0) = (v &&& c == v) := by decide +kernel
end Ic
namespace Go.Proofs.YtahjdmdgkkienaaGreatDoor
open Go.RowKit Go.Shelf

/-- A row of cubes that is the call's own. -/
def RowC (B : Nat) (e : TypeId) (w : World) (v : Value) (l : List (Nat × Nat)) : Prop := w.ownsRow B e 2 v l.length (l.flatMap Ic.encC)
theorem RowC.below {B : Nat} {e : TypeId} {w w' : World} {v : Value} {l : List (Nat × Nat)} (h : RowC B e w v l) {C : Nat} (hb : Below C w w') (hC : w.heap.size ≤ C) : RowC B e w' v l := by
  rcases h with ⟨h0, h | ⟨g, cap, cur, h', h1, h2, h3⟩⟩
  · exact ⟨h0, .inl h⟩
  · exact ⟨h0, .inr ⟨g, cap, cur, h', h1, by rw [hb.block g (Nat.lt_of_lt_of_le (Array.getElem?_eq_some_iff.1 h2).1 hC)]; exact h2, h3⟩⟩
theorem RowC.nil (B : Nat) (e : TypeId) (w : World) : RowC B e w (.slice none 0 0) [] := World.ownsRow_nil _ _ _ _

/-- 'append' of a cube to a slice of the call's own. -/
theorem wpList_append_cub {P : Program} {w : World} {ops : Array Oper} {rest : List Oper} {o : Oper} {a : Act} {Q : Exit → Act → World → Prop} (hgd : o.guard = none) (s x : Operand) (t : TypeId)
    (ho : o.op = .call { callee := .builtin .append, args := #[s, x], argTypes := #[t, t] })
    (e : TypeId) (i : TypeInfo) (ht : P.underlying t = some (.slice e)) (hi : P.info? e = some i) (hz : i.zero = some (.agg #[.int .u64 0, .int .u64 0])) (hsize : i.size = 2) (hby : i.bytes = 16)
    (v : Value) (l : List (Nat × Nat)) (y : Nat × Nat) (g : Nat) (hs : a.eval s = v) (hx : a.eval x = .slice (some ⟨g, 0, none⟩) 1 1) (B : Nat) (hown : RowC B e w v l)
    (h0 : w.cell? ⟨g, 0, none⟩ = some (.int .u64 (y.1 : Int))) (h1 : w.cell? ⟨g, 1, none⟩ = some (.int .u64 (y.2 : Int))) (hlen : l.length ≤ 1048576) (hB : B ≤ w.heap.size)
    (h : ∀ v' w', RowC B e w' v' (l ++ [y]) → Below B w w' → wpList P ops Q rest (a.put o.dst v') w') : wpList P ops Q (o :: rest) a w := by
  refine wpList_append_own w hgd s x t ho B e i (.agg #[.int .u64 0, .int .u64 0]) 2 16 ht hi hz hsize hby rfl (by omega) v l.length _ hs hown ⟨g, 0, none⟩ 1 1 [.int .u64 (y.1 : Int), .int .u64 (y.2 : Int)] hx (by simp) ?_ ?_ (by unfold maxLen; omega) ?_ hB ?_
  · intro j u hj
    rw [addr_add]
    rcases j with _ | _ | j
    · simp at hj; subst hj; exact h0
    · simp at hj; subst hj; exact h1
    · simp at hj
  · simp [Value.oneCell']
  · omega
  · intro v' w' r1 r2 r3
    refine h v' w' ?_ ((Below.refl _ _).grown r2 hB (fun g hg => (World.ownsRow.lt hown g hg).1))
    unfold RowC
    rw [List.length_append, List.flatMap_append]
    exact r1

theorem info_cube : ∃ i : TypeInfo, Tryz.prog.info? 62 = some i ∧ i.zero = some (.agg #[.int .u64 0, .int .u64 0]) ∧ i.size = 2 ∧ i.bytes = 16 := by
  have h : (Tryz.prog.info? 62).map (fun i => (i.zero, i.size, i.bytes)) = some (some (.agg #[.int .u64 0, .int .u64 0]), 2, 16) := by kernel_rfl
  obtain ⟨i, h1, h2⟩ := Option.map_eq_some_iff.1 h
  simp only [Prod.mk.injEq] at h2
  exact ⟨i, h1, h2⟩

set_option maxHeartbeats 4000000 in
set_option maxRecDepth 100000 in
theorem rcCubes_any (n : Nat) (w : World) (hn : n ≤ 6) :
    Calls Tryz.prog 83 #[.int .i64 n] w fun e w' => ∃ v, e = .returned v ∧ RowC w.heap.size 62 w' v (Ic.cubR (2 ^ n)) ∧ Below w.heap.size w w' := by
  obtain ⟨i0, hi0, hz0, hz1, hz2⟩ := info_cube
  have hN := Tt.size_le hn
  have CS := fun W => Lib.hid (rSize_any n W (by omega) (by omega))
  rw [Int.toNat_natCast] at CS
  generalize 2 ^ n = N at *
  go_enter Tryz.func83, Tryz.ntmps83
  go_wp2
  go_loopw [3, 4] (fun s3 s4 wr => ∃ c : Nat, c ≤ N ∧ s4 = .int .i64 c ∧ RowC w.heap.size 62 wr s3 (Ic.cubR c) ∧ Hid (Below w.heap.size w wr)) (fun _ s4 _ => N - (intOf s4).toNat)
  case atStart => exact ⟨0, Nat.zero_le _, rfl, RowC.nil _ _ _, Lib.hid (Below.refl _ _)⟩
  case round =>
    obtain ⟨c, hc, rfl, hrow, HW⟩ := hrel
    by_cases hcN : c < N
    · have HS := Lib.hid (Ic.cubR_succ c)
      have hlen : (Ic.cubR c).length ≤ 4096 := Nat.le_trans (Ic.cubR_len c) (Nat.mul_le_mul (by omega : c ≤ 64) (by omega : c ≤ 64))
      have HR := Lib.hid (fun k => Ic.rowR_succ c k)
      have HRL := Lib.hid (fun k => Ic.rowR_len c k)
      have HR0 : Hid (Ic.rowR c 0 = []) := Lib.hid rfl
      have HAN := Lib.hid (fun v hv => Ic.andNot_small c (by omega) v hv)
      generalize Ic.cubR c = l at *
      obtain ⟨wo, hwo⟩ : ∃ wo, wo = wr := ⟨_, rfl⟩
      rw [← hwo] at hrow HW ⊢
      clear hwo wr
      go_wp2_with (go_at_call 44; refine ((CS _).out).mono ?_; rintro e w2 ⟨rfl, rfl⟩)
      go_loopw [3, 5] (fun s3 s5 wq => ∃ k : Nat, k ≤ c + 1 ∧ s5 = .int .i64 k ∧ RowC w.heap.size 62 wq s3 (l ++ Ic.rowR c k) ∧ Hid (Below w.heap.size w wq)) (fun _ s5 _ => c + 1 - (intOf s5).toNat)
      case atStart => exact ⟨0, Nat.zero_le _, rfl, by rw [HR0.out, List.append_nil]; exact hrow, HW⟩
      case round =>
        clear hrow HW
        obtain ⟨k, hk, rfl, hrow, HW⟩ := hrel
        by_cases hkc : k ≤ c
        · have han := HAN.out k (by omega)
          have HRk := Lib.hid (HR.out k)
          have hll : (l ++ Ic.rowR c k).length ≤ 8192 := by rw [List.length_append]; have := HRL.out k; omega
          have HAP : Hid (∀ x, l ++ (Ic.rowR c k ++ [x]) = (l ++ Ic.rowR c k) ++ [x]) := Lib.hid fun x => by simp
          have hwb := HW.out.size
          clear HAN HR HRL HR0 HS hlen
          cases hq : (k &&& c == k)
          · rw [hq] at han
            have HX : Hid (Ic.rowR c (k + 1) = Ic.rowR c k) := Lib.hid (by rw [HRk.out, hq]; rfl)
            clear HRk hq HAP
            go_wp2
            exact ⟨⟨k + 1, by omega, rfl, by rw [HX.out]; exact hrow, HW⟩, by simp [intOf]; omega⟩
          · rw [hq] at han
            have HX : Hid (l ++ Ic.rowR c (k + 1) = (l ++ Ic.rowR c k) ++ [(c, k)]) := Lib.hid (by rw [HRk.out, hq, if_pos rfl, HAP.out])
            clear HRk hq HAP
            generalize l ++ Ic.rowR c k = q at *
            go_wp2_with (at_builtin; refine wpList_append_cub rfl _ _ 22 rfl 62 i0 Tryz.underlying22 hi0 hz0 hz1 hz2 _ q (c, k) wr.heap.size rfl rfl w.heap.size (hrow.below ((Below.refl _ _).alloc (Nat.le_refl _) _) (Nat.le_refl _)) (by simp) (by simp) (by omega) (by simp; omega) ?_; intro v5 w5 hr5 hb5)
            have hbB := (((Below.refl wr.heap.size wr).alloc (Nat.le_refl _) (.cells #[.int .u64 (c : Int), .int .u64 (k : Int)] 62)).mono (show w.heap.size ≤ wr.heap.size by omega)).trans hb5
            exact ⟨⟨k + 1, by omega, rfl, by rw [HX.out]; exact hr5, Lib.hid (HW.out.trans hbB)⟩, by simp [intOf]; omega⟩
        · obtain rfl : k = c + 1 := by omega
          go_wp2
          exact ⟨⟨c + 1, by omega, rfl, by rw [HS.out]; exact hrow, HW⟩, by simp [intOf]; omega⟩
    · obtain rfl : c = N := by omega
      go_wp2_with (go_at_call 44; refine ((CS _).out).mono ?_; rintro e w2 ⟨rfl, rfl⟩)
      exact bodyPost_ret (by simp [results, Tryz.results83, go_sem]) rfl ⟨_, rfl, hrow, HW.out⟩
end Go.Proofs.YtahjdmdgkkienaaGreatDoor

