/- What the variables of the library hold; the contracts of Itoa and of Cut at two points. The contracts of isNumber, value of package timespan, of Number of the reference. The contracts of Number, Digits, dots of the reference. Lists of texts in memory, and strings.Join. joined of package stroke, at strokes. The texts of steps, of package stroke. Format of package stroke. -/
import Derived.WalkSmall
import Derived.Test.YtjpbccpleflkhaaDoorG01
import Derived.Test.YtjpbccpleflkhaaDoorShelf
import Derived.Lib.ItoaNum
import Derived.Test.YtjpbccpleflkhaaDoorG02
import Derived.Lib.Join
namespace Go.Proofs.YtjpbccpleflkhaaDoor
open Go.RowKit

/-- What the package variables of the library hold when a call begins. -/
structure St (w : World) : Prop where
  size : 4 ≤ w.heap.size
  maxLen : ∃ m : Int, w.cell? ⟨0, 0, none⟩ = some (.int .i64 m)
  pow10 : Lib.TabIs Tryd.prog w "internal/strconv.uint64pow10" .u64 Lib.pow10Tab
theorem Tryd.pow10_global : Tryd.prog.globalNamed "internal/strconv.uint64pow10" = some 3 := by kernel_rfl
theorem St.below {w w' : World} (h : St w) {B : Nat} (hb : Below B w w') (hB : 4 ≤ B) : St w' := by
  obtain ⟨h1, ⟨m, h2⟩, h3⟩ := h
  exact ⟨Nat.le_trans h1 hb.size, ⟨m, (hb.cell (p := ⟨0, 0, none⟩) (by show 0 < B; omega)).trans h2⟩, var?_below hb Tryd.pow10_global (by omega) h3⟩
theorem St.next {w w' : World} (h : St w) (hb : Below w.heap.size w w') : St w' := h.below hb h.size

theorem below_more (w : World) (q : Nat) (os : Array Obj) : Below w.heap.size w (Go.Sort.grow (w.drewN q) os) :=
  ⟨rfl, rfl, rfl, by simp [Go.Sort.grow], fun i hi => by
    show ((w.drewN q).heap ++ os)[i]? = _
    rw [Array.getElem?_append_left (by show i < w.heap.size; omega)]
    rfl⟩

theorem itoa_any (n : Int) (w : World) (hst : St w) (h0 : 0 ≤ n) (h1 : n ≤ 9223372036854775807) :
    Calls Tryd.prog 102 #[.int .i64 n] w fun e w' => e = .returned (.string ⟨(Fr.render n.toNat).toArray⟩) ∧ Below w.heap.size w w' := by
  have CI := Tryd.strconv_Itoa n (by omega) h1 w hst.pow10
  rw [Fr.itoa_text, Fr.itxt_eq, if_neg (by omega), List.nil_append, show n.natAbs = n.toNat by omega] at CI
  refine CI.mono ?_
  rintro e w1 ⟨rfl, k, os, hw1⟩
  exact ⟨rfl, by rw [hw1]; exact below_more w k os⟩

theorem below_drawn (w : World) (n : Nat) : Below w.heap.size w (w.drewN n) := ⟨rfl, rfl, rfl, Nat.le_refl _, fun _ _ => rfl⟩
def fstB (s : ByteArray) : ByteArray := ⟨(Tm.cut2 s.data.toList).1.toArray⟩
def restB (s : ByteArray) : ByteArray := ⟨((Tm.cut2 s.data.toList).2.getD []).toArray⟩
theorem cut_any (s : ByteArray) (w : World) (hst : St w) (hs : s.size ≤ 1000000) :
    Calls Tryd.prog 84 #[.string s, .string ⟨#[46, 46]⟩] w fun e w' => e = .returned (.tuple #[.string (fstB s), .string (restB s), .bool (Tm.cut2 s.data.toList).2.isSome]) ∧ Below w.heap.size w w' := by
  obtain ⟨m, hm⟩ := hst.maxLen
  have CC := Tryd.strings_Cut s ⟨#[46, 46]⟩ m w (by omega) hm
  have h0 : Lib.cut s.data.toList (ByteArray.mk #[46, 46]).data.toList = _ := Tm.cut_dots s.data.toList
  rw [h0] at CC
  refine CC.mono ?_
  rintro e w1 ⟨rfl, n, rfl⟩
  exact ⟨rfl, below_drawn w n⟩

end Go.Proofs.YtjpbccpleflkhaaDoor

namespace Go.Proofs.YtjpbccpleflkhaaDoor
open Go.RowKit

theorem take_step (d : ByteArray) (j : Nat) (hj : j < d.size) : d.data.toList.take (j + 1) = d.data.toList.take j ++ [d[j]'hj] := by
  rw [List.take_succ_eq_append_getElem (by show j < d.data.toList.length; exact hj)]
  rfl
theorem all_step (d : ByteArray) (j : Nat) (hj : j < d.size) : (d.data.toList.take (j + 1)).all Fr.isDig = ((d.data.toList.take j).all Fr.isDig && Fr.isDig (d[j]'hj)) := by
  rw [take_step d j hj, List.all_append]
  simp
theorem not_all (d : ByteArray) (j : Nat) (hj : j < d.size) (h : Fr.isDig (d[j]'hj) = false) : d.data.toList.all Fr.isDig = false := by
  rw [List.all_eq_false]
  exact ⟨d[j]'hj, by show d.data[j] ∈ _; exact Array.getElem_mem_toList _, by rw [h]; simp⟩
theorem full_take (d : ByteArray) (j : Nat) (hj : d.size ≤ j) : d.data.toList.take j = d.data.toList := List.take_of_length_le (by show d.data.toList.length ≤ j; exact hj)
theorem head_byte (d : ByteArray) (h : 0 < d.size) : d.data.toList.head? = some (d[0]'h) := by
  have h1 : 0 < d.data.toList.length := h
  cases hd : d.data.toList with
  | nil => rw [hd] at h1; simp at h1
  | cons c l =>
    have h2 : d.data.toList[0]'h1 = c := by simp [hd]
    rw [List.head?_cons, ← h2]
    rfl
theorem byte_int {c : UInt8} {n : Nat} (hn : n < 256) : ((c.toNat : Int) = (n : Int)) ↔ c = UInt8.ofNat n := by
  constructor
  · intro h; apply UInt8.toNat_inj.1; rw [UInt8.toNat_ofNat']; omega
  · intro h; subst h; rw [UInt8.toNat_ofNat']; omega

/-- How a text begins: what isNumber asks before its loop. -/
theorem num_cases (s : ByteArray) : (s.toList = [] ∧ s.size = 0 ∧ Tm.numOk s.data.toList = false) ∨ (7 < s.size ∧ ¬ s.toList = [] ∧ Tm.numOk s.data.toList = false) ∨
    (∃ h : 0 < s.size, (s.size : Int) ≤ 7 ∧ s.toList.isEmpty = false ∧ ((s[0]'h).toNat : Int) = 48 ∧ (!s.toList == [48]) = true ∧ 1 < s.size ∧ Tm.numOk s.data.toList = false) ∨
    (∃ h : 0 < s.size, (s.size : Int) ≤ 7 ∧ s.toList.isEmpty = false ∧ (((s[0]'h).toNat : Int) = 48 ∧ (!s.toList == [48]) = false ∧ s.size = 1 ∨ ¬ ((s[0]'h).toNat : Int) = 48) ∧ Tm.numOk s.data.toList = s.data.toList.all Fr.isDig) := by
  have hl : s.data.toList.length = s.size := rfl
  rw [ByteArray.toList_eq]
  show (s.data.toList = [] ∧ _ ∧ _) ∨ _
  by_cases h0 : s.size = 0
  · have e0 : s.data.toList = [] := List.eq_nil_of_length_eq_zero (by omega)
    exact .inl ⟨e0, h0, Tm.numOk_nil e0⟩
  · have hpos : 0 < s.size := by omega
    have hne : ¬ s.data.toList = [] := by intro e; rw [e] at hl; simp at hl; omega
    by_cases h7 : 7 < s.size
    · exact .inr (.inl ⟨h7, hne, Tm.numOk_long (by omega)⟩)
    · have hh := head_byte s hpos
      by_cases hc : s[0]'hpos = 48
      · have hc' : ((s[0]'hpos).toNat : Int) = 48 := by rw [hc]; rfl
        by_cases h48 : s.data.toList = [48]
        · have h1 : s.size = 1 := by rw [← hl, h48]; rfl
          exact .inr (.inr (.inr ⟨hpos, by omega, by simpa using hne, .inl ⟨hc', by rw [h48]; rfl, h1⟩, Tm.numOk_rest hne (by omega) (.inr h48)⟩))
        · have h1 : 1 < s.size := by
            rcases Nat.lt_or_ge 1 s.size with h | h
            · exact h
            · exfalso
              apply h48
              match hd : s.data.toList with
              | [] => exact absurd hd hne
              | [c] =>
                rw [hd] at hh
                have : c = 48 := by simpa [hc] using hh
                rw [this]
              | c :: d :: l => rw [hd] at hl; simp at hl; omega
          exact .inr (.inr (.inl ⟨hpos, by omega, by simpa using hne, hc', by simpa using h48, h1, Tm.numOk_zero (by rw [hh, hc]) h48⟩))
      · have hc' : ¬ ((s[0]'hpos).toNat : Int) = 48 := by
          intro h; exact hc (UInt8.toNat_inj.1 (by show (s[0]'hpos).toNat = 48; omega))
        exact .inr (.inr (.inr ⟨hpos, by omega, by simpa using hne, .inr hc', Tm.numOk_rest hne (by omega) (.inl (by rw [hh]; simpa using hc))⟩))

end Go.Proofs.YtjpbccpleflkhaaDoor

namespace Tm
open Fr
/-- What Number returns. -/
def numV (l : List UInt8) : Int × Bool := if numOk l = true then (((dv l : Nat) : Int), true) else (0, false)
theorem dv_take2 {l : List UInt8} (h3 : l.length ≤ 7) (j : Nat) (h4 : (l.take j).all isDig = true) : dv (l.take j) < 10000000 := by
  have h5 : (l.take j).length ≤ 7 := Nat.le_trans (by rw [List.length_take]; omega) h3
  exact Nat.lt_of_lt_of_le (dv_lt h4) (Nat.le_trans (Nat.pow_le_pow_right (by omega) h5) (by decide))
def pre (m : Nat) : List UInt8 := if m = 0 then [] else render m
theorem render_step (m : Nat) : render m = pre (m / 10) ++ [byte (m % 10)] := by
  rw [← dec_render]
  by_cases h : m < 10
  · rw [dec_one h, show m / 10 = 0 by omega, show m % 10 = m by omega]; rfl
  · rw [dec_step h]
    unfold pre
    rw [if_neg (by omega), dec_render]
theorem pre_pos {m : Nat} (h : 0 < m) : pre m = render m := by unfold pre; rw [if_neg (by omega)]
end Tm
namespace Go.Proofs.YtjpbccpleflkhaaDoor
open Go.RowKit

theorem num_pair {l : List UInt8} {x : Int} {b : Bool} (h : Tm.numV l = (x, b)) : Ending.returned (.tuple #[.int .i64 x, .bool b]) = Ending.returned (.tuple #[.int .i64 (Tm.numV l).1, .bool (Tm.numV l).2]) := by rw [h]
theorem ret_ib {a b : Int} {c : Bool} (h : a = b) : Ending.returned (.tuple #[.int .i64 a, .bool c]) = Ending.returned (.tuple #[.int .i64 b, .bool c]) := by rw [h]
theorem ret_str {a b : ByteArray} (h : a = b) : Ending.returned (.string a) = Ending.returned (.string b) := by rw [h]
theorem num_bad {l : List UInt8} (h : Tm.numOk l = false) : Tm.numV l = (0, false) := by unfold Tm.numV; rw [h]; rfl
theorem num_good {l : List UInt8} (h : Tm.numOk l = true) : Tm.numV l = (((Fr.dv l : Nat) : Int), true) := by unfold Tm.numV; rw [if_pos h]

set_option maxRecDepth 100000 in
theorem rNumber_any (s : ByteArray) (w : World) (hs : s.size ≤ 1000000) : Calls Tryd.prog 89 #[.string s] w fun e w' => e = .returned (.tuple #[.int .i64 (Tm.numV s.data.toList).1, .bool (Tm.numV s.data.toList).2]) ∧ w = w' := by
  rcases num_cases s with ⟨e1, z0, hr⟩ | ⟨h7, e1, hr⟩ | ⟨hpos, h7, e1, f1, f2, f3, hr⟩ | ⟨hpos, h7, e1, hway, hr⟩
  · rw [num_bad hr]
    go_enter Tryd.func89, Tryd.ntmps89
    go_wp2
    go_ret2
    exact ⟨rfl, rfl⟩
  · rw [num_bad hr]
    go_enter Tryd.func89, Tryd.ntmps89
    go_wp2
    go_ret2
    exact ⟨rfl, rfl⟩
  · rw [num_bad hr]
    have f4 : (1 : Int) < (s.size : Int) := by omega
    go_enter Tryd.func89, Tryd.ntmps89
    go_wp2
    go_ret2
    exact ⟨rfl, rfl⟩
  · obtain ⟨R, hR⟩ : ∃ R, Tm.numV s.data.toList = R := ⟨_, rfl⟩
    rw [hR]
    have HG := fun (h : s.data.toList.all Fr.isDig = true) => Lib.hid (show R = (((Fr.dv s.data.toList : Nat) : Int), true) by rw [← hR]; exact num_good (by rw [hr]; exact h))
    have HB := fun (h : s.data.toList.all Fr.isDig = false) => Lib.hid (show R = (0, false) by rw [← hR]; exact num_bad (by rw [hr]; exact h))
    have h7n : s.size ≤ 7 := by omega
    have HT := fun (j : Nat) (h : (s.data.toList.take j).all Fr.isDig = true) => Lib.hid (Tm.dv_take2 (l := s.data.toList) h7n j h)
    clear hR hr
    obtain ⟨x, b⟩ := R
    have hw2 : ((s.size : Int) ≤ 1) ∨ ((1 : Int) < (s.size : Int) ∧ (((s[0]'hpos).toNat : Int) == 48) = false) := by
      rcases hway with ⟨f1, f2, f3⟩ | f1
      · left; omega
      · by_cases h : (1 : Int) < (s.size : Int)
        · exact .inr ⟨h, by simpa using f1⟩
        · exact .inl (by omega)
    clear hway
    rcases hw2 with f3 | ⟨f3, f1⟩
    all_goals
      go_enter Tryd.func89, Tryd.ntmps89
      go_wp2
      go_loop [4, 5] (fun u4 u5 => ∃ j : Nat, j ≤ s.size ∧ u5 = .int .i64 j ∧ ∃ n : Nat, u4 = .int .i64 n ∧ n < 10000000 ∧ Hid ((s.data.toList.take j).all Fr.isDig = true) ∧ Hid (n = Fr.dv (s.data.toList.take j))) (fun _ u5 => s.size - (intOf u5).toNat)
      case atStart => exact ⟨0, Nat.zero_le _, rfl, 0, rfl, by omega, rfl, rfl⟩
      case round =>
        obtain ⟨j, hj, rfl, n, rfl, hn7, HJ, HN⟩ := hrel
        by_cases hjd : j < s.size
        · have hs1 := all_step s j hjd
          rw [HJ.out, Bool.true_and] at hs1
          have HS := Lib.hid hs1
          clear hs1
          by_cases g1 : (48 : Int) ≤ ((s[j]'hjd).toNat : Int)
          · by_cases g2 : ((s[j]'hjd).toNat : Int) ≤ 57
            · have hdj : Fr.isDig (s[j]'hjd) = true := by unfold Fr.isDig; simp; omega
              have HG2 := Lib.hid hdj
              have HV := Lib.hid (show Fr.dv (s.data.toList.take (j + 1)) = Fr.dv (s.data.toList.take j) * 10 + Fr.dig (s[j]'hjd) by rw [take_step s j hjd, Tm.dv_snoc])
              have HL := (HT (j + 1) (by rw [HS.out]; exact hdj))
              clear hdj
              go_wp2
              exact ⟨⟨j + 1, by omega, by go_num, n * 10 + Fr.dig (s[j]'hjd), by unfold Fr.dig; congr 1; omega, by have h := HL.out; rw [HV.out, ← HN.out] at h; exact h, by unfold Hid; rw [HS.out]; exact HG2.out, by unfold Hid; rw [HV.out, HN.out]⟩, by simp [intOf]; omega⟩
            · have HF := HB (not_all s j hjd (by unfold Fr.isDig; simp; omega))
              go_wp2
              go_ret2
              cases HF.out
              exact ⟨rfl, rfl⟩
          · have HF := HB (not_all s j hjd (by unfold Fr.isDig; simp; omega))
            go_wp2
            go_ret2
            cases HF.out
            exact ⟨rfl, rfl⟩
        · have HF := HG (by have h := HJ.out; rw [full_take s j (by omega)] at h; exact h)
          have HF2 := Lib.hid (full_take s j (by omega))
          go_wp2
          go_ret2
          cases HF.out
          have e := HN.out
          rw [HF2.out] at e
          exact ⟨ret_ib (congrArg Int.ofNat e), rfl⟩

theorem dig_piece (d : Nat) (hd : d < 10) : (ByteArray.mk #[48, 49, 50, 51, 52, 53, 54, 55, 56, 57]).extract d (d + 1) = ⟨#[Fr.byte d]⟩ := by
  match d, hd with
  | 0, _ => rfl
  | 1, _ => rfl
  | 2, _ => rfl
  | 3, _ => rfl
  | 4, _ => rfl
  | 5, _ => rfl
  | 6, _ => rfl
  | 7, _ => rfl
  | 8, _ => rfl
  | 9, _ => rfl
theorem cat_lists (a b : List UInt8) : (ByteArray.mk a.toArray) ++ ⟨b.toArray⟩ = ⟨(a ++ b).toArray⟩ := by
  apply ByteArray.ext
  rw [ByteArray.data_append]
  simp
theorem dig_slice (d : Nat) (hd : d < 10) (w : World) :
    (Instr.slice 9 (.string ⟨#[48, 49, 50, 51, 52, 53, 54, 55, 56, 57]⟩) (some (.int .i64 (d : Int))) (some (.int .i64 ((d : Int) + 1))) none).run Tryd.prog w = .ok (.string ⟨#[Fr.byte d]⟩) w := by
  rw [run_slice_string w 9 _ .i64 .i64 (d : Int) ((d : Int) + 1) Tryd.underlying9 (by omega) (by omega) (by show (d : Int) + 1 ≤ 10; omega)]
  rw [show ((d : Int)).toNat = d by omega, show ((d : Int) + 1).toNat = d + 1 by omega, dig_piece d hd]
def emp : Value → Nat
  | .string s => if s.size = 0 then 1 else 0
  | _ => 0

end Go.Proofs.YtjpbccpleflkhaaDoor

namespace Sk
open Go
theorem joinTail_len (sep : List UInt8) (M : Nat) : ∀ r : List (List UInt8), (∀ x ∈ r, x.length ≤ M) → (Lib.joinTail sep r).length ≤ r.length * (M + sep.length)
  | [], _ => by simp [Lib.joinTail]
  | x :: r, h => by
    have ih := joinTail_len sep M r (fun y hy => h y (by simp [hy]))
    have hx := h x (by simp)
    have e : Lib.joinTail sep (x :: r) = (sep ++ x) ++ Lib.joinTail sep r := by simp [Lib.joinTail]
    rw [e, List.length_append, List.length_append, List.length_cons, Nat.add_mul]
    omega
theorem join_len {sep : List UInt8} {M K : Nat} {r : List (List UInt8)} (h : ∀ x ∈ r, x.length ≤ M) (hK : r.length ≤ K) : (Lib.join r sep).length ≤ K * (M + sep.length) := by
  rcases r with _ | ⟨x, r⟩
  · simp [Lib.join_nil]
  · rw [Lib.join_cons, List.length_append]
    have h1 := joinTail_len sep M r (fun y hy => h y (by simp [hy]))
    have h2 := h x (by simp)
    have h3 : (r.length + 1) * (M + sep.length) ≤ K * (M + sep.length) := Nat.mul_le_mul_right _ (by simpa using hK)
    rw [Nat.add_mul] at h3
    omega
end Sk
namespace Go.Proofs.YtjpbccpleflkhaaDoor
open Go.RowKit

/-- A row of texts that is the call's own. -/
def RowS (B : Nat) (e : TypeId) (w : World) (v : Value) (l : List ByteArray) : Prop := w.ownsRow B e 1 v l.length (l.map fun s => .string s)
theorem RowS.nil (B : Nat) (e : TypeId) (w : World) : RowS B e w (.slice none 0 0) [] := World.ownsRow_nil _ _ _ _
theorem RowS.below {B : Nat} {e : TypeId} {w w' : World} {v : Value} {l : List ByteArray} (h : RowS B e w v l) {C : Nat} (hb : Below C w w') (hC : w.heap.size ≤ C) : RowS B e w' v l := by
  refine ⟨h.1, ?_⟩
  rcases h.2 with h' | ⟨g, cap, cur, h', h1, h2, h3⟩
  · exact .inl h'
  · exact .inr ⟨g, cap, cur, h', h1, by rw [hb.block g (Nat.lt_of_lt_of_le (Array.getElem?_eq_some_iff.1 h2).1 hC)]; exact h2, h3⟩
theorem RowS.step {B : Nat} {e : TypeId} {w w' : World} {v : Value} {l : List ByteArray} (h : RowS B e w v l) (hb : Below w.heap.size w w') : RowS B e w' v l := h.below hb (Nat.le_refl _)
theorem info_str : ∃ i : TypeInfo, Tryd.prog.info? 9 = some i ∧ i.zero = some (.string ⟨#[]⟩) ∧ i.size = 1 ∧ i.bytes = 16 := by
  have h : (Tryd.prog.info? 9).map (fun i => (i.zero, i.size, i.bytes)) = some (some (.string ⟨#[]⟩), 1, 16) := by kernel_rfl
  obtain ⟨i, h1, h2⟩ := Option.map_eq_some_iff.1 h
  simp only [Prod.mk.injEq] at h2
  exact ⟨i, h1, h2⟩
/-- 'append' of one text, laid in a block of its own. -/
theorem wpList_append_text {P : Program} {w : World} {ops : Array Oper} {rest : List Oper} {o : Oper} {a : Act} {Q : Exit → Act → World → Prop} (hgd : o.guard = none) (s x : Operand) (t : TypeId)
    (ho : o.op = .call { callee := .builtin .append, args := #[s, x], argTypes := #[t, t] })
    (e : TypeId) (i : TypeInfo) (ht : P.underlying t = some (.slice e)) (hi : P.info? e = some i) (hz : i.zero = some (.string ⟨#[]⟩)) (hsize : i.size = 1) (hby : i.bytes = 16)
    (v : Value) (l : List ByteArray) (y : ByteArray) (b : Nat) (hs : a.eval s = v) (hx : a.eval x = .slice (some ⟨b, 0, none⟩) 1 1) (B : Nat) (hown : RowS B e w v l) (hy : w.cell? ⟨b, 0, none⟩ = some (.string y)) (hlen : l.length ≤ 1048576) (hB : B ≤ w.heap.size)
    (h : ∀ v' w', RowS B e w' v' (l ++ [y]) → Below B w w' → wpList P ops Q rest (a.put o.dst v') w') : wpList P ops Q (o :: rest) a w := by
  refine wpList_append_own w hgd s x t ho B e i (.string ⟨#[]⟩) 1 16 ht hi hz hsize hby rfl (by omega) v l.length _ hs hown ⟨b, 0, none⟩ 1 1 [.string y] hx (by simp) ?_ ?_ (by unfold maxLen; omega) (by omega) hB ?_
  · intro j u hj
    match j, hj with
    | 0, hj =>
      have : u = .string y := by simpa using hj.symm
      subst this
      simpa [Addr.add] using hy
    | j + 1, hj => simp at hj
  · exact fun u hu => by
      have : u = .string y := by simpa using hu
      subst this; rfl
  · intro v' w' r1 r2 r3
    refine h v' w' ?_ ((Below.refl _ _).grown r2 hB (fun g hg => (World.ownsRow.lt hown g hg).1))
    unfold RowS
    rw [List.length_append, List.map_append]
    exact r1
theorem joinS_any {B : Nat} {e : TypeId} {v : Value} {l : List ByteArray} (sep : ByteArray) (w : World) (h : RowS B e w v l) (hl : l.length ≤ 4096) (hlen : (Lib.join (l.map (·.data.toList)) sep.data.toList).length ≤ 1000000) :
    Calls Tryd.prog 99 #[v, .string sep] w fun e w' => e = .returned (.string ⟨(Lib.join (l.map (·.data.toList)) sep.data.toList).toArray⟩) ∧ Below w.heap.size w w' := by
  rcases id h.2 with ⟨rfl, h0⟩ | ⟨g, cap, cur, rfl, hb, hg, h1, h2, h3, h4⟩
  · have hl0 := List.eq_nil_of_length_eq_zero h0
    subst hl0
    exact (Tryd.strings_Join_none none 0 sep w).mono (by rintro e w' ⟨rfl, rfl⟩; exact ⟨rfl, Below.refl _ _⟩)
  · refine Tryd.strings_Join g 0 cap l sep w (fun j x hj => ?_) (Array.getElem?_eq_some_iff.1 hg).1 (by omega) h1 (by omega)
    have hjl : j < l.length := (List.getElem?_eq_some_iff.1 hj).1
    have h5 := World.ownsRow.cellAt h j (by omega)
    rw [Nat.zero_add, h5, List.getElem?_map, hj]
    rfl
end Go.Proofs.YtjpbccpleflkhaaDoor

namespace Sk
open Go
def txB (x : Str) : ByteArray := ⟨(strT x).toArray⟩
/-- The text of strokes. -/
def lnT (l : List Str) : List UInt8 := Lib.join (l.map strT) [32]
theorem strT_len (x : Str) : (strT x).length = 2 := rfl
theorem lnT_len {l : List Str} (h : l.length ≤ 6) : (lnT l).length ≤ 18 := by
  have := join_len (sep := [32]) (M := 2) (K := 6) (r := l.map strT) (fun x hx => by obtain ⟨y, _, rfl⟩ := List.mem_map.1 hx; exact Nat.le_of_eq (strT_len y)) (by simpa using h)
  simpa [lnT] using this
theorem map_txB (l : List Str) : (l.map txB).map (·.data.toList) = l.map strT := by simp [txB]
theorem take_map {α β : Type} (f : α → β) {l : List α} {i : Nat} (d : α) (h : i < l.length) : (l.take (i + 1)).map f = (l.take i).map f ++ [f (l.getD i d)] := by
  rw [List.take_succ_eq_append_getElem h, List.map_append, List.getD_eq_getElem?_getD, List.getElem?_eq_getElem h]; rfl
end Sk
namespace Go.Proofs.YtjpbccpleflkhaaDoor
open Go.RowKit
theorem RtAct {l : List Sk.Str} (h : Sk.RtL l) {i : Nat} (hi : i < l.length) : ∃ (k : Nat) (o : Bool), l.getD i Sk.d0 = ((k : Int), o) ∧ k < 6 := by
  obtain ⟨k, hk⟩ := Int.eq_ofNat_of_zero_le (h.act i hi).1
  exact ⟨k, (l.getD i Sk.d0).2, Prod.ext hk rfl, by have := (h.act i hi).2; omega⟩
set_option maxHeartbeats 4000000 in
set_option maxRecDepth 100000 in
theorem jnS_any (v : Value) (l : List Sk.Str) (w : World) (hs : SeeK w v l) (hr : Sk.RtL l) :
    Calls Tryd.prog 100 #[v, .string ⟨#[32]⟩, .func (.func 101) #[] #[]] w fun e w' => e = .returned (.string ⟨(Sk.lnT l).toArray⟩) ∧ Below w.heap.size w w' := by
  obtain ⟨i0, hi0, hz0, hz1, hz2⟩ := info_str
  obtain ⟨ao, cap, rfl, hcap1, hcap2, hC⟩ := hs
  have HC := Lib.hid hC
  have HAct := Lib.hid (fun i (hi : i < l.length) => RtAct hr hi)
  have hl6 := hr.le6
  have HT := Lib.hid (fun i (hi : i < l.length) => Sk.take_map Sk.txB Sk.d0 hi)
  have CJ := fun W v' (h : RowS w.heap.size 9 W v' (l.map Sk.txB)) => Lib.hid (joinS_any ⟨#[32]⟩ W h (by simp; omega) (by rw [Sk.map_txB]; have := Sk.lnT_len hl6; unfold Sk.lnT at this; exact Nat.le_trans this (by omega)))
  rw [Sk.map_txB] at CJ
  change ∀ W v', RowS w.heap.size 9 W v' (l.map Sk.txB) → Hid (Calls Tryd.prog 99 #[v', .string ⟨#[32]⟩] W fun e w' => e = .returned (.string ⟨(Sk.lnT l).toArray⟩) ∧ Below W.heap.size W w') at CJ
  clear hC hr
  generalize Sk.lnT l = lt at *
  go_enter Tryd.func100, Tryd.ntmps100
  go_wp2
  go_loopw [7, 12] (fun s7 s12 wr => ∃ i : Nat, i ≤ l.length ∧ s12 = .int .i64 (i : Int) ∧ Hid (RowS w.heap.size 9 wr s7 ((l.take i).map Sk.txB)) ∧ Hid (Below w.heap.size w wr)) (fun _ s12 _ => l.length - (intOf s12).toNat)
  case atStart => exact ⟨0, Nat.zero_le _, rfl, Lib.hid (RowS.nil _ _ _), Lib.hid (Below.refl _ _)⟩
  case round =>
    rename_i s7
    obtain ⟨i, hi, rfl, HR, HBW⟩ := hrel
    by_cases hil : i < l.length
    · obtain ⟨g, off, rfl, hg, c1, c2⟩ := HC.out.at HBW.out hil
      obtain ⟨k, o, hko, hk⟩ := HAct.out i hil
      have HTi := Lib.hid (HT.out i hil)
      have hlen : ((l.take i).map Sk.txB).length ≤ 64 := by simp; omega
      have HLen := Lib.hid hlen
      clear HT HAct CJ hlen
      rw [hko] at c1 c2 HTi
      generalize (l.take i).map Sk.txB = F at *
      obtain ⟨P1, L1, z1⟩ := boxP_new wr (.int .i64 (k : Int)) (.bool o) 47
      have HB1 := Lib.hid (below_nxt HBW.out L1)
      have HR1 := Lib.hid (HR.out.step L1)
      have CT := fun W => Lib.hid (sTx_any k o hk W)
      clear P1 L1 z1 HBW HR
      go_wp2_with fail
      refine ((CT _).out).mono ?_
      rintro e w2 ⟨rfl, hb2⟩
      have HB2 := Lib.hid (below_nxt (below_nxt HB1.out hb2) (allocB w2 (.cells #[.string ⟨(Sk.strT ((k : Int), o)).toArray⟩] 9)))
      have HR2 := Lib.hid ((HR1.out.step hb2).step (allocB w2 (.cells #[.string ⟨(Sk.strT ((k : Int), o)).toArray⟩] 9)))
      clear hb2 HB1 HR1 CT
      go_wp2_with (at_builtin; refine wpList_append_text rfl _ _ 98 rfl 9 i0 Tryd.underlying98 hi0 hz0 hz1 hz2 _ F (Sk.txB ((k : Int), o)) w2.heap.size rfl rfl w.heap.size HR2.out (by simp [Sk.txB]) (Nat.le_trans HLen.out (by omega)) HB2.out.size ?_; intro v5 w5 hr5 hb5; have HR5 := Lib.hid hr5; have HB5 := Lib.hid (HB2.out.trans hb5); clear hr5 hb5)
      exact ⟨⟨i + 1, by omega, by first | rfl | go_num, by rw [HTi.out]; exact HR5, HB5⟩, by simp [intOf]; omega⟩
    · obtain rfl : i = l.length := by omega
      rw [List.take_length] at HR
      have CJ2 := CJ _ _ HR.out
      clear CJ HT HAct
      go_wp2_with fail
      refine (CJ2.out).mono ?_
      rintro e w2 ⟨rfl, hb2⟩
      have HB2 := Lib.hid (below_nxt HBW.out hb2)
      clear hb2
      go_wp2
      go_ret
      exact ⟨rfl, HB2.out⟩
end Go.Proofs.YtjpbccpleflkhaaDoor

namespace Sk
open Go
/-- The text of a step. -/
def stpT (x : Stp) : List UInt8 := lnT x.1 ++ (if x.2 = 0 then [] else 32 :: Fr.render x.2.toNat)
theorem stpT_len {x : Stp} (h : x.1.length ≤ 6) (h0 : 0 ≤ x.2) (h1 : x.2 ≤ 1000000) : (stpT x).length ≤ 26 := by
  have a := lnT_len h
  have b := Tm.render_seven (n := x.2.toNat) (by omega)
  unfold stpT
  rw [List.length_append]
  split
  · simp; omega
  · simp; omega
end Sk
namespace Go.Proofs.YtjpbccpleflkhaaDoor
open Go.RowKit
theorem size_mk (l : List UInt8) : (ByteArray.mk l.toArray).size = l.length := by simp [ByteArray.size]
set_option maxHeartbeats 4000000 in
set_option maxRecDepth 100000 in
theorem sStT_any (v : Value) (l : List Sk.Str) (n : Int) (w : World) (hst : St w) (hs : SeeK w v l) (hc : Sk.chkP l n = 0) :
    Calls Tryd.prog 82 #[.agg #[v, .int .i64 n]] w fun e w' => e = .returned (.string ⟨(Sk.stpT (l, n)).toArray⟩) ∧ Below w.heap.size w w' := by
  obtain ⟨hr, hn0, hn1⟩ := Sk.chkP_ok hc
  have CJ := fun W (h : SeeK W v l) => Lib.hid (jnS_any v l W h hr)
  have HS := Lib.hid hs
  have HST := Lib.hid hst
  obtain ⟨ao, cap, rfl, hcap1, hcap2, -⟩ := hs
  obtain ⟨P0, L0, z0⟩ := boxP_new w (.slice ao l.length cap) (.int .i64 n) 70
  have HL := Lib.hid L0
  have HP := Lib.hid P0
  have HSX := Lib.hid (HS.out.step L0)
  have hlen := Sk.lnT_len hr.le6
  clear L0 P0 z0 hc hst
  by_cases h0 : n = 0
  · subst h0
    have hv : Sk.stpT (l, 0) = Sk.lnT l := by unfold Sk.stpT; simp
    rw [hv]
    clear hv hlen hr
    generalize Sk.lnT l = lt at *
    go_enter Tryd.func82, Tryd.ntmps82
    go_wp2_with fail
    refine ((CJ _ HSX.out).out).mono ?_
    rintro e w1 ⟨rfl, hb1⟩
    have HB1 := Lib.hid (below_nxt HL.out hb1)
    obtain ⟨p0, p1, p2⟩ := HP.out.step hb1
    clear hb1
    go_wp2
    go_ret
    exact ⟨rfl, HB1.out⟩
  · have hv : Sk.stpT (l, n) = Sk.lnT l ++ (32 :: Fr.render n.toNat) := by unfold Sk.stpT; simp only [if_neg h0]
    have hq : (ByteArray.mk (Sk.lnT l).toArray) ++ (ByteArray.mk #[32]) ++ (ByteArray.mk (Fr.render n.toNat).toArray) = ⟨(Sk.stpT (l, n)).toArray⟩ := by
      rw [hv, show (ByteArray.mk #[32]) = ByteArray.mk [(32 : UInt8)].toArray from rfl, cat_lists, cat_lists]; simp
    have h0' : (n == 0) = false := by simpa using h0
    have hrl := Tm.render_seven (n := n.toNat) (by omega)
    have CI := fun W (h : St W) => Lib.hid (itoa_any n W h hn0 (by omega))
    have z1 : (ByteArray.mk (Sk.lnT l).toArray).size ≤ 18 := by rw [size_mk]; exact hlen
    have z2 : (ByteArray.mk (Fr.render n.toNat).toArray).size ≤ 7 := by rw [size_mk]; exact hrl
    rw [← hq]
    clear hv hlen hr hrl h0 hq
    generalize (ByteArray.mk (Sk.lnT l).toArray) = T1 at *
    generalize (ByteArray.mk (Fr.render n.toNat).toArray) = T2 at *
    go_enter Tryd.func82, Tryd.ntmps82
    go_wp2_with fail
    refine ((CJ _ HSX.out).out).mono ?_
    rintro e w1 ⟨rfl, hb1⟩
    have HB1 := Lib.hid (below_nxt HL.out hb1)
    obtain ⟨p0, p1, p2⟩ := HP.out.step hb1
    have HS1 := Lib.hid (HST.out.below HB1.out HST.out.size)
    clear hb1
    go_wp2_with fail
    refine ((CI _ HS1.out).out).mono ?_
    rintro e w2 ⟨rfl, hb2⟩
    have HB2 := Lib.hid (below_nxt HB1.out hb2)
    clear hb2
    go_wp2
    go_ret
    exact ⟨rfl, HB2.out⟩
end Go.Proofs.YtjpbccpleflkhaaDoor

namespace Sk
open Go
def spB (x : Stp) : ByteArray := ⟨(stpT x).toArray⟩
/-- The text of a list of steps. -/
def fmtT (L : List Stp) : List UInt8 := Lib.join (L.map stpT) [59, 32]
/-- The first error of steps. -/
def chkF (L : List Stp) : Int := fe (fun i => chkP (L.getD i t0).1 (L.getD i t0).2) L.length
def fmtV (L : List Stp) : List UInt8 × Int := if 64 < L.length then ([], 5) else (if chkF L = 0 then (fmtT L, 0) else ([], chkF L))
theorem map_spB (l : List Stp) : (l.map spB).map (·.data.toList) = l.map stpT := by simp [spB]
theorem chkF_at {L : List Stp} (h : chkF L = 0) {i : Nat} (hi : i < L.length) : chkP (L.getD i t0).1 (L.getD i t0).2 = 0 := fe_no h i hi
theorem chkF_mem {L : List Stp} (h : chkF L = 0) {x : Stp} (hx : x ∈ L) : chkP x.1 x.2 = 0 := by
  obtain ⟨i, hi, rfl⟩ := List.mem_iff_getElem.1 hx
  have := chkF_at h hi
  rw [List.getD_eq_getElem?_getD, List.getElem?_eq_getElem hi] at this
  exact this
theorem chkF_of {L : List Stp} (h : ∀ i, i < L.length → chkP (L.getD i t0).1 (L.getD i t0).2 = 0) : chkF L = 0 := fe_all h
theorem fmtT_len {L : List Stp} (h : chkF L = 0) (hl : L.length ≤ 64) : (fmtT L).length ≤ 1792 := by
  have := join_len (sep := [59, 32]) (M := 26) (K := 64) (r := L.map stpT) (fun x hx => by
    obtain ⟨y, hy, rfl⟩ := List.mem_map.1 hx
    obtain ⟨hr, h0, h1⟩ := chkP_ok (chkF_mem h hy)
    exact stpT_len hr.le6 h0 h1) (by simpa using hl)
  simpa [fmtT] using this
end Sk
namespace Go.Proofs.YtjpbccpleflkhaaDoor
open Go.RowKit
set_option maxHeartbeats 4000000 in
set_option maxRecDepth 100000 in
theorem jnT_any (v : Value) (L : List Sk.Stp) (w : World) (hst : St w) (hs : SeeT w v L) (hc : Sk.chkF L = 0) (hl : L.length ≤ 64) :
    Calls Tryd.prog 81 #[v, .string ⟨#[59, 32]⟩, .func (.func 82) #[] #[]] w fun e w' => e = .returned (.string ⟨(Sk.fmtT L).toArray⟩) ∧ Below w.heap.size w w' := by
  obtain ⟨i0, hi0, hz0, hz1, hz2⟩ := info_str
  have HST := Lib.hid hst
  obtain ⟨ao, cap, rfl, hcap1, hcap2, hC⟩ := hs
  have HC := Lib.hid hC
  have HAct := Lib.hid (fun i (hi : i < L.length) => Sk.chkF_at hc hi)
  have HT := Lib.hid (fun i (hi : i < L.length) => Sk.take_map Sk.spB Sk.t0 hi)
  have CJ := fun W v' (h : RowS w.heap.size 9 W v' (L.map Sk.spB)) => Lib.hid (joinS_any ⟨#[59, 32]⟩ W h (by simp; omega) (by rw [Sk.map_spB]; have := Sk.fmtT_len hc hl; unfold Sk.fmtT at this; exact Nat.le_trans this (by omega)))
  rw [Sk.map_spB] at CJ
  change ∀ W v', RowS w.heap.size 9 W v' (L.map Sk.spB) → Hid (Calls Tryd.prog 99 #[v', .string ⟨#[59, 32]⟩] W fun e w' => e = .returned (.string ⟨(Sk.fmtT L).toArray⟩) ∧ Below W.heap.size W w') at CJ
  clear hC hc hst
  generalize Sk.fmtT L = lt at *
  go_enter Tryd.func81, Tryd.ntmps81
  go_wp2
  go_loopw [7, 12] (fun s7 s12 wr => ∃ i : Nat, i ≤ L.length ∧ s12 = .int .i64 (i : Int) ∧ Hid (RowS w.heap.size 9 wr s7 ((L.take i).map Sk.spB)) ∧ Hid (Below w.heap.size w wr)) (fun _ s12 _ => L.length - (intOf s12).toNat)
  case atStart => exact ⟨0, Nat.zero_le _, rfl, Lib.hid (RowS.nil _ _ _), Lib.hid (Below.refl _ _)⟩
  case round =>
    rename_i s7
    obtain ⟨i, hi, rfl, HR, HBW⟩ := hrel
    by_cases hil : i < L.length
    · obtain ⟨g, off, ak, ck, rfl, hg, c1, c2, hk⟩ := (HC.out.step HBW.out).at (Below.refl _ _) hil
      have hck := HAct.out i hil
      have HTi := Lib.hid (HT.out i hil)
      have hlen : ((L.take i).map Sk.spB).length ≤ 64 := by simp; omega
      have HLen := Lib.hid hlen
      clear HT HAct CJ hlen
      generalize (L.take i).map Sk.spB = F at *
      generalize hy : L.getD i Sk.t0 = y at *
      obtain ⟨l, n⟩ := y
      simp only at c1 c2 hk hck
      have HCK := Lib.hid hck
      obtain ⟨P1, L1, z1⟩ := boxP_new wr (.slice ak l.length ck) (.int .i64 n) 70
      have HB1 := Lib.hid (below_nxt HBW.out L1)
      have HR1 := Lib.hid (HR.out.step L1)
      have HK1 := Lib.hid (hk.step L1)
      have CT := fun W (h : St W) (h2 : SeeK W (.slice ak l.length ck) l) => Lib.hid (sStT_any _ l n W h h2 HCK.out)
      clear P1 L1 z1 HBW HR hk hck hy
      go_wp2_with fail
      refine ((CT _ (HST.out.below HB1.out HST.out.size) HK1.out).out).mono ?_
      rintro e w2 ⟨rfl, hb2⟩
      have HB2 := Lib.hid (below_nxt (below_nxt HB1.out hb2) (allocB w2 (.cells #[.string ⟨(Sk.stpT (l, n)).toArray⟩] 9)))
      have HR2 := Lib.hid ((HR1.out.step hb2).step (allocB w2 (.cells #[.string ⟨(Sk.stpT (l, n)).toArray⟩] 9)))
      clear hb2 HB1 HR1 CT HK1 HCK
      go_wp2_with (at_builtin; refine wpList_append_text rfl _ _ 98 rfl 9 i0 Tryd.underlying98 hi0 hz0 hz1 hz2 _ F (Sk.spB (l, n)) w2.heap.size rfl rfl w.heap.size HR2.out (by simp [Sk.spB]) (Nat.le_trans HLen.out (by omega)) HB2.out.size ?_; intro v5 w5 hr5 hb5; have HR5 := Lib.hid hr5; have HB5 := Lib.hid (HB2.out.trans hb5); clear hr5 hb5)
      exact ⟨⟨i + 1, by omega, by first | rfl | go_num, by rw [HTi.out]; exact HR5, HB5⟩, by simp [intOf]; omega⟩
    · obtain rfl : i = L.length := by omega
      rw [List.take_length] at HR
      have CJ2 := CJ _ _ HR.out
      clear CJ HT HAct
      go_wp2_with fail
      refine (CJ2.out).mono ?_
      rintro e w2 ⟨rfl, hb2⟩
      have HB2 := Lib.hid (below_nxt HBW.out hb2)
      clear hb2
      go_wp2
      go_ret
      exact ⟨rfl, HB2.out⟩
def FmtP (q : List UInt8 × Int) (w : World) (e : Ending) (w' : World) : Prop := e = .returned (.tuple #[.string ⟨q.1.toArray⟩, .int .i64 q.2]) ∧ Below w.heap.size w w'
set_option maxHeartbeats 4000000 in
set_option maxRecDepth 100000 in
theorem sFmt_any (v : Value) (L : List Sk.Stp) (w : World) (hst : St w) (hs : SeeT w v L) :
    Calls Tryd.prog 51 #[v] w (FmtP (Sk.fmtV L) w) := by
  have HST := Lib.hid hst
  have HS := Lib.hid hs
  obtain ⟨ao, cap, rfl, hcap1, hcap2, hC⟩ := hs
  have HC := Lib.hid hC
  by_cases h64 : 64 < L.length
  · have hv : Sk.fmtV L = ([], 5) := if_pos h64
    rw [hv]
    have h6 : decide (64 < (L.length : Int)) = true := decide_eq_true (by omega)
    clear hv h64 hC hst
    go_enter Tryd.func51, Tryd.ntmps51
    go_wp2
    exact bodyPost_ret (v := .tuple #[.string ⟨#[]⟩, .int .i64 5]) (by simp [results, Tryd.results51, go_sem]) rfl ⟨rfl, Below.refl _ _⟩
  · have hv : Sk.fmtV L = if Sk.chkF L = 0 then (Sk.fmtT L, 0) else ([], Sk.chkF L) := if_neg h64
    have hl : L.length ≤ 64 := by omega
    have h6 : decide (64 < (L.length : Int)) = false := decide_eq_false (by omega)
    have HNo := Lib.hid (fun i (hi : i < L.length) (hb : ∀ a, a < i → Sk.chkP (L.getD a Sk.t0).1 (L.getD a Sk.t0).2 = 0) (h : Sk.chkP (L.getD i Sk.t0).1 (L.getD i Sk.t0).2 ≠ 0) => show Sk.fmtV L = ([], Sk.chkP (L.getD i Sk.t0).1 (L.getD i Sk.t0).2) by
      have e : Sk.chkF L = Sk.chkP (L.getD i Sk.t0).1 (L.getD i Sk.t0).2 := Sk.fe_stop (f := fun i => Sk.chkP (L.getD i Sk.t0).1 (L.getD i Sk.t0).2) hb h hi
      rw [hv, e, if_neg h])
    have HYes := Lib.hid (fun (hb : ∀ a, a < L.length → Sk.chkP (L.getD a Sk.t0).1 (L.getD a Sk.t0).2 = 0) => show Sk.fmtV L = (Sk.fmtT L, 0) ∧ Sk.chkF L = 0 from ⟨by rw [hv, if_pos (Sk.chkF_of hb)], Sk.chkF_of hb⟩)
    have CJ := fun W (h : St W) (h2 : SeeT W (.slice ao L.length cap) L) (hc : Sk.chkF L = 0) => Lib.hid (jnT_any _ L W h h2 hc hl)
    clear hv h64 hC hst
    generalize Sk.fmtV L = q at *
    go_enter Tryd.func51, Tryd.ntmps51
    go_wp2
    go_loopw [12] (fun s12 wr => ∃ i : Nat, i ≤ L.length ∧ s12 = .int .i64 (i : Int) ∧ Hid (∀ a, a < i → Sk.chkP (L.getD a Sk.t0).1 (L.getD a Sk.t0).2 = 0) ∧ Hid (Below w.heap.size w wr)) (fun s12 _ => L.length - (intOf s12).toNat)
    case atStart => exact ⟨0, Nat.zero_le _, rfl, Lib.hid (fun a h => by omega), Lib.hid (Below.refl _ _)⟩
    case round =>
      obtain ⟨i, hi, rfl, HJ, HBW⟩ := hrel
      by_cases hil : i < L.length
      · obtain ⟨g, off, ak, ck, rfl, hg, c1, c2, hk⟩ := (HC.out.step HBW.out).at (Below.refl _ _) hil
        have HNi := Lib.hid (HNo.out i hil HJ.out)
        have HJ2 : Hid (Sk.chkP (L.getD i Sk.t0).1 (L.getD i Sk.t0).2 = 0 → ∀ a, a < i + 1 → Sk.chkP (L.getD a Sk.t0).1 (L.getD a Sk.t0).2 = 0) := Lib.hid (fun h a ha => by
          by_cases e : a = i
          · rw [e]; exact h
          · exact HJ.out a (by omega))
        clear HNo HYes HJ CJ
        generalize L.getD i Sk.t0 = y at *
        obtain ⟨l, n⟩ := y
        simp only at c1 c2 hk
        obtain ⟨P1, L1, z1⟩ := boxP_new wr (.slice ak l.length ck) (.int .i64 n) 70
        have HB1 := Lib.hid (below_nxt HBW.out L1)
        have CT := fun W (h2 : SeeK W (.slice ak l.length ck) l) => Lib.hid (sStp_any _ l n W h2)
        have HK1 := Lib.hid (hk.step L1)
        clear P1 L1 z1 HBW hk
        change Hid (Sk.chkP l n ≠ 0 → q = ([], Sk.chkP l n)) at HNi
        change Hid (Sk.chkP l n = 0 → _) at HJ2
        generalize Sk.chkP l n = ck' at *
        go_wp2_with fail
        refine ((CT _ HK1.out).out).mono ?_
        rintro e w2 ⟨rfl, hb2⟩
        have HB2 := Lib.hid (below_nxt HB1.out hb2)
        clear hb2 HB1
        by_cases h0 : ck' = 0
        · have HJ3 := Lib.hid (HJ2.out h0)
          subst h0
          clear HNi HJ2
          go_wp2
          exact ⟨⟨i + 1, by omega, by first | rfl | go_num, HJ3, HB2⟩, by simp [intOf]; omega⟩
        · have hq := HNi.out h0
          subst hq
          have h0' : (ck' == 0) = false := by simpa using h0
          clear HNi HJ2 h0
          go_wp2
          exact bodyPost_ret (v := .tuple #[.string ⟨#[]⟩, .int .i64 ck']) (by simp [results, Tryd.results51, go_sem]) rfl ⟨rfl, HB2.out⟩
      · obtain rfl : i = L.length := by omega
        obtain ⟨hq, hc⟩ := HYes.out HJ.out
        subst hq
        have CJ2 := CJ wr (HST.out.below HBW.out HST.out.size) (HS.out.step HBW.out) hc
        clear HNo HYes HJ CJ hc
        go_wp2_with fail
        refine (CJ2.out).mono ?_
        rintro e w2 ⟨rfl, hb2⟩
        have HB2 := Lib.hid (below_nxt HBW.out hb2)
        clear hb2
        go_wp2
        exact bodyPost_ret (v := .tuple #[.string ⟨(Sk.fmtT L).toArray⟩, .int .i64 0]) (by simp [results, Tryd.results51, go_sem]) rfl ⟨rfl, HB2.out⟩
end Go.Proofs.YtjpbccpleflkhaaDoor
