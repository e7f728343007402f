/- Behind of the reference: what it returns is its own. Rows of slices of ends. slices.IsSorted, Contains and ContainsFunc at integers and rows of ends, as the statement SequenceRepeats calls them. -/
import Derived.Test.YtjpbccpleflkhaaDoorG14
import Derived.Test.YtjpbccpleflkhaaDoorG11
import Derived.Test.YtjpbccpleflkhaaDoorG17
import Derived.BigQuiet
namespace Go.Proofs.YtjpbccpleflkhaaDoor
open Go.RowKit Go.Shelf
attribute [local go_sem] Oper.semAt_some
set_option maxHeartbeats 8000000 in
set_option maxRecDepth 100000 in
theorem rAft_own (v ev : Value) (l : List Sk.Str) (n : Int) (E : List Bool) (w : World) (hs : SeeK w v l) (he : SeeB w ev E) (hnil : ∀ n c, ev = .slice none n c → c = 0) (hR : Sk.RtL l) (hsu : Sk.sui l E = true) (hE6 : E.length ≤ 6) : Calls Tryd.prog 77 #[.agg #[v, .int .i64 n], ev] w fun e w' => ∃ u, e = .returned u ∧ RowB w.heap.size 4 w' u (Sk.aft l E) ∧ Below w.heap.size w w' := by
  obtain ⟨i0, hi0, hz0, hz1, hz2⟩ := info_bool
  have HEs := Lib.hid he
  have HN := Lib.hid hnil
  obtain ⟨ao, cap, rfl, hcap1, hcap2, hC⟩ := hs
  obtain ⟨eo, ecap, rfl, hecap1, hecap2, hCE⟩ := he
  have HC := Lib.hid hC
  obtain ⟨P0, L0, z0⟩ := boxP_new w (.slice ao l.length cap) (.int .i64 n) 70
  have HP := Lib.hid P0
  have HB := Lib.hid (L0.alloc L0.size (.cells #[] 4))
  have hz := HB.out.size
  have HSA := Lib.hid (HEs.out.step HB.out)
  have HR := Lib.hid (show RowB (w.heap.size + 1) 4 ((w.alloc (.cells #[.slice ao l.length cap, .int .i64 n] 70)).alloc (.cells #[] 4)) (.slice (some ⟨w.heap.size + 1, 0, none⟩) 0 0) [] from ⟨rfl, .inr ⟨w.heap.size + 1, 0, #[], rfl, Nat.le_refl _, by rw [← z0]; exact heap_alloc_new _ _, Nat.le_refl _, by decide, rfl, rfl⟩⟩)
  have hsui := Sk.sui_iff.1 hsu
  have HAct := Lib.hid (fun i (hi : i < l.length) => show ∃ (k : Nat) (o : Bool), l.getD i Sk.d0 = ((k : Int), o) ∧ k < E.length from by
    obtain ⟨k, hk⟩ := Int.eq_ofNat_of_zero_le (hR.act i hi).1
    refine ⟨k, (l.getD i Sk.d0).2, Prod.ext hk rfl, ?_⟩
    have h := hsui i hi
    unfold Sk.sui1 at h
    rw [Bool.and_eq_true, decide_eq_true_iff] at h
    have := h.1
    omega)
  have hE0 : 0 < E.length := by
    obtain ⟨k, o, -, hk⟩ := HAct.out 0 hR.pos
    omega
  have hl6 := hR.le6
  have HT := Lib.hid (fun i (hi : i < l.length) => Sk.aft_take hi E)
  have HLn := Lib.hid (fun i => Sk.aft_len (l.take i) E)
  have HAll : Hid (Sk.aft l E = Sk.aft (l.take l.length) E) := Lib.hid (by rw [List.take_length])
  have HXA := Lib.hid (P0.step (allocB _ (.cells #[] 4)))
  clear hsu hsui hR hnil hC hCE P0 L0 z0 HEs HP
  obtain ⟨p0, p1, p2⟩ := HXA.out
  go_enter Tryd.func77, Tryd.ntmps77
  go_wp2_with (at_builtin; refine wpList_append_bools rfl _ _ 49 rfl 4 i0 Tryd.underlying49 hi0 hz0 hz1 hz2 _ _ [] E rfl rfl (w.heap.size + 1) HR.out HSA.out HN.out (by simp; omega) (by simp) ?_; intro v5 w5 hr5 hb5; rw [List.nil_append] at hr5; obtain ⟨g, cp, rfl, hg1, hg2⟩ := hr5.form hE0; have HR5 := Lib.hid hr5; have HB5 := Lib.hid (HB.out.trans (hb5.mono (by omega))); have HX5 := Lib.hid (HXA.out.below (B := w.heap.size + 1) (by omega) hb5); clear hr5 hb5)
  go_loopw [6] (fun s6 wr => ∃ i : Nat, i ≤ l.length ∧ s6 = .int .i64 (i : Int) ∧ Hid (RowB (w.heap.size + 1) 4 wr (.slice (some ⟨g, 0, none⟩) E.length cp) (Sk.aft (l.take i) E)) ∧ Hid (Below w.heap.size w wr) ∧ Hid (BoxP wr w.heap.size (.slice ao l.length cap) (.int .i64 n))) (fun s6 _ => l.length - (intOf s6).toNat)
  case atStart => exact ⟨0, Nat.zero_le _, rfl, by simpa [Sk.aft] using HR5, HB5, HX5⟩
  case round =>
    clear HR5 HB5 HX5
    obtain ⟨i, hi, rfl, HRW, HBW, HX⟩ := hrel
    obtain ⟨x0, x1, x2⟩ := HX.out
    have hwi : IntKind.i64.wrap (i : Int) = (i : Int) := IntWalk.i64_in _ (by omega)
    by_cases hil : i < l.length
    · obtain ⟨gs, off, rfl, hgs, c1, c2⟩ := HC.out.at HBW.out hil
      obtain ⟨k, o, hko, hk⟩ := HAct.out i hil
      have HTi := Lib.hid (HT.out i hil)
      have hln := HLn.out i
      clear HT HLn HAct
      rw [hko] at c1 c2 HTi
      generalize Sk.aft (l.take i) E = F at *
      rw [← hln] at hk
      rw [← hln] at HRW
      obtain ⟨d1, d2⟩ := HRW.out.at hk
      have HR1 := Lib.hid (HRW.out.put k o)
      have HB1 := Lib.hid (HBW.out.setCell (p := ⟨g, k, none⟩) (by show w.heap.size ≤ g; omega) (.bool o))
      have HX1 := Lib.hid (HX.out.other (k := g) (o := k) (by omega) (.bool o))
      have hkz : (k : Int) < (E.length : Int) := by omega
      have hT2 : Hid (Sk.aft (l.take (i + 1)) E = F.set k o) := Lib.hid (by rw [HTi.out]; simp)
      clear HRW HBW HTi
      generalize F.getD k false = f at *
      go_wp2
      go_region
      go_wp2
      refine ⟨⟨i + 1, by omega, by first | rfl | go_num, ?_, Lib.hid (HB1.out.trans (Below.refl _ _).drew), Lib.hid (HX1.out.step (Below.refl _ _).drew)⟩, by simp [intOf]; omega⟩
      rw [hT2.out, ← hln]; exact Lib.hid (HR1.out.step (Below.refl _ _).drew)
    · have hii : i = l.length := by omega
      subst hii
      have hln := HLn.out l.length
      have HSe := Lib.hid (show RowB w.heap.size 4 wr (.slice (some ⟨g, 0, none⟩) E.length cp) (Sk.aft l E) by rw [HAll.out, ← hln]; exact (show RowB (w.heap.size + 1) 4 wr (.slice (some ⟨g, 0, none⟩) (Sk.aft (l.take l.length) E).length cp) (Sk.aft (l.take l.length) E) by rw [hln]; exact HRW.out).weak (by omega))
      clear HT HLn HAct
      go_wp2
      go_ret
      exact ⟨_, rfl, HSe.out, HBW.out⟩
set_option maxHeartbeats 8000000 in
set_option maxRecDepth 100000 in
theorem rBeh_own (n : Nat) (v : Value) (L : List Sk.Stp) (k : Nat) (w : World) (hs : SeeT w v L) (hn1 : 1 ≤ n) (hn6 : n ≤ 6) (hk : k ≤ L.length) (hf : Fit n L k) : Calls Tryd.prog 44 #[.agg #[.int .i64 (n : Int), v], .int .i64 (k : Int)] w fun e w' => ∃ u, e = .returned u ∧ RowB w.heap.size 4 w' u (Sq.bh n L k) ∧ Below w.heap.size w w' := by
  obtain ⟨i0, hi0, hz0, hz1, hz2⟩ := info_bool
  have hs0 := hs
  obtain ⟨ao, cap, rfl, hcap1, hcap2, hC⟩ := hs
  have HC := Lib.hid hC
  have HF := Lib.hid hf
  clear hC hf hs0
  have HS := Lib.hid (fun i (h : i < L.length) => Sq.bh_succ n h)
  have HLn := Lib.hid (fun i => Sq.bh_len n L i)
  obtain ⟨P0, L0, z0⟩ := boxP_new w (.int .i64 (n : Int)) (.slice ao L.length cap) 32
  have HL0 := Lib.hid L0
  have HP0 := Lib.hid P0
  obtain ⟨p0, p1, p2⟩ := P0
  clear L0 z0
  go_enter Tryd.func44, Tryd.ntmps44
  go_wp2_with (at_make; refine wpList_make_bools _ rfl _ _ 49 rfl 4 i0 Tryd.underlying49 hi0 hz0 hz1 hz2 _ _ _ _ n rfl rfl rfl rfl (by omega) ?_; intro w1 hr1 hb1; have HP1 := Lib.hid (HP0.out.step hb1); have HB1 := Lib.hid (below_nxt HL0.out hb1); have HS1 := Lib.hid (hr1.weak (B' := w.heap.size) (by simp)); clear hr1 hb1)
  clear p0 p1 p2
  go_loopw [5, 6] (fun s5 s6 wr => ∃ (i : Nat) (ev : Value), i ≤ k ∧ s6 = .int .i64 (i : Int) ∧ ev = s5 ∧ Hid (RowB w.heap.size 4 wr ev (Sq.bh n L i)) ∧ Hid (BoxP wr w.heap.size (.int .i64 (n : Int)) (.slice ao L.length cap)) ∧ Hid (Below w.heap.size w wr)) (fun _ s6 _ => k - (intOf s6).toNat)
  case atStart => exact ⟨0, _, Nat.zero_le _, rfl, rfl, Lib.hid (by rw [Sq.bh_zero]; simpa using HS1.out), HP1, HB1⟩
  case round =>
    obtain ⟨i, ev, hi, rfl, rfl, HE, HP, HBW⟩ := hrel
    obtain ⟨p0, p1, p2⟩ := HP.out
    have hwi : IntKind.i64.wrap (i : Int) = (i : Int) := IntWalk.i64_in _ (by omega)
    by_cases hil : i < k
    · have hiL : i < L.length := by omega
      obtain ⟨g, off, ak, ck, rfl, hg, c1, c2, hkk⟩ := (HC.out.step HBW.out).at (Below.refl _ _) hiL
      have HSi := Lib.hid (HS.out i hiL)
      obtain ⟨hR, hsu⟩ := HF.out i hil
      have hEl := HLn.out i
      clear HF HS HC
      generalize L.getD i Sk.t0 = y at *
      obtain ⟨l, m⟩ := y
      simp only at c1 c2 hkk HSi hR hsu
      have HK := Lib.hid hkk
      generalize Sq.bh n L i = E at *
      have CA := fun W (h : SeeK W (.slice ak l.length ck) l) (h2 : SeeB W ev E) => Lib.hid (rAft_own (.slice ak l.length ck) ev l m E W h h2 (SeeB.some h2 (by omega)) hR hsu (by omega))
      clear hkk hR hsu hEl
      go_wp2_with fail
      refine ((CA _ HK.out HE.out.sees).out).mono ?_
      rintro e w2 ⟨u, rfl, hse, hb2⟩
      have HP2 := Lib.hid (HP.out.step hb2)
      have HB2 := Lib.hid (below_nxt HBW.out hb2)
      have HE2 := Lib.hid (hse.weak (B' := w.heap.size) HBW.out.size)
      clear hb2 hse CA c1 c2 p0 p1 p2
      go_wp2
      exact ⟨⟨i + 1, _, by omega, by first | rfl | go_num, rfl, Lib.hid (by rw [HSi.out]; exact HE2.out), HP2, HB2⟩, by simp [intOf]; omega⟩
    · obtain rfl : i = k := by omega
      go_wp2
      go_ret
      exact ⟨_, rfl, HE.out, HBW.out⟩
/-- A slice of slices of ends. -/
def CellsL (w : World) (ao : Option Addr) (Es : List (List Bool)) : Prop := 0 < Es.length → ∃ g off, ao = some ⟨g, off, none⟩ ∧ g < w.heap.size ∧ ∀ i, i < Es.length → ∃ u, w.cell? ⟨g, off + i, none⟩ = some u ∧ SeeB w u (Es.getD i [])
def SeeL (w : World) (v : Value) (Es : List (List Bool)) : Prop := ∃ ao cap, v = .slice ao Es.length cap ∧ Es.length ≤ cap ∧ cap ≤ 9223372036854775807 ∧ CellsL w ao Es
theorem CellsL.at {w wr : World} {ao : Option Addr} {Es : List (List Bool)} (h : CellsL w ao Es) (hb : Below w.heap.size w wr) {i : Nat} (hi : i < Es.length) :
    ∃ g off u, ao = some ⟨g, off, none⟩ ∧ g < w.heap.size ∧ wr.cell? ⟨g, off + i, none⟩ = some u ∧ SeeB wr u (Es.getD i []) := by
  obtain ⟨g, off, h1, h2, h3⟩ := h (by omega)
  obtain ⟨u, h4, h5⟩ := h3 i hi
  exact ⟨g, off, u, h1, h2, (hb.cell (p := ⟨g, off + i, none⟩) h2).trans h4, h5.step hb⟩
theorem CellsL.step {w w' : World} {ao : Option Addr} {Es : List (List Bool)} (h : CellsL w ao Es) (hb : Below w.heap.size w w') : CellsL w' ao Es := by
  intro hl
  obtain ⟨g, off, rfl, hg, h4⟩ := h hl
  refine ⟨g, off, rfl, Nat.lt_of_lt_of_le hg hb.size, fun i hi => ?_⟩
  obtain ⟨u, h1, h2⟩ := h4 i hi
  exact ⟨u, (hb.cell (p := ⟨g, off + i, none⟩) hg).trans h1, h2.step hb⟩
theorem SeeL.step {w w' : World} {v : Value} {Es : List (List Bool)} (h : SeeL w v Es) (hb : Below w.heap.size w w') : SeeL w' v Es := by
  obtain ⟨ao, cap, h1, h2, h3, h4⟩ := h
  exact ⟨ao, cap, h1, h2, h3, h4.step hb⟩
theorem seeB_same {W W' : World} {u : Value} {l : List Bool} (h : SeeB W u l) (hz : W.heap.size ≤ W'.heap.size) (hb : ∀ r, u.ownBlock = some r → r < W.heap.size → W'.heap[r]? = W.heap[r]?) : SeeB W' u l := by
  obtain ⟨ao, cap, rfl, h1, h2, h3⟩ := h
  refine ⟨ao, cap, rfl, h1, h2, fun hl => ?_⟩
  obtain ⟨g, off, rfl, hg, h4⟩ := h3 hl
  have hk := hb g rfl hg
  exact ⟨g, off, rfl, Nat.lt_of_lt_of_le hg hz, fun i hi => (World.cell?_of_block (w := W) hk).trans (h4 i hi)⟩
/-- A row of slices of ends that is the call's own; the slices lie elsewhere. -/
def RowL (B : Nat) (e : TypeId) (w : World) (v : Value) (Es : List (List Bool)) : Prop := ∃ us : List Value, w.ownsRow B e 1 v Es.length us ∧ us.length = Es.length ∧ ∀ i, i < Es.length → SeeB w (us.getD i undef) (Es.getD i []) ∧ ∀ r, (us.getD i undef).ownBlock = some r → r < w.heap.size ∧ v.ownBlock ≠ some r
theorem RowL.step {B : Nat} {e : TypeId} {w w' : World} {v : Value} {Es : List (List Bool)} (h : RowL B e w v Es) (hb : Below w.heap.size w w') : RowL B e w' v Es := by
  obtain ⟨us, h1, h2, h3⟩ := h
  refine ⟨us, ?_, h2, fun i hi => ⟨(h3 i hi).1.step hb, fun r e => ⟨Nat.lt_of_lt_of_le ((h3 i hi).2 r e).1 hb.size, ((h3 i hi).2 r e).2⟩⟩⟩
  rcases h1 with ⟨h0, h | ⟨g, cap, cur, h', h1, h2, h3⟩⟩
  · exact ⟨h0, .inl h⟩
  · exact ⟨h0, .inr ⟨g, cap, cur, h', h1, by rw [hb.block g (Array.getElem?_eq_some_iff.1 h2).1]; exact h2, h3⟩⟩
theorem RowL.nil (B : Nat) (e : TypeId) (w : World) : RowL B e w (.slice none 0 0) [] := ⟨[], World.ownsRow_nil _ _ _ _, rfl, fun i hi => by simp at hi⟩
theorem RowL.form {B : Nat} {e : TypeId} {w : World} {v : Value} {Es : List (List Bool)} (h : RowL B e w v Es) : ∃ ao cap, v = .slice ao Es.length cap := by
  obtain ⟨us, h, -⟩ := h
  rcases h.2 with ⟨rfl, h0⟩ | ⟨g, cap, cur, rfl, _⟩
  · exact ⟨none, 0, by rw [h0]⟩
  · exact ⟨_, _, rfl⟩
theorem RowL.lt {B : Nat} {e : TypeId} {w : World} {v : Value} {Es : List (List Bool)} (h : RowL B e w v Es) : ∀ r, v.ownBlock = some r → B ≤ r ∧ r < w.heap.size := by
  obtain ⟨us, h, -⟩ := h
  exact World.ownsRow.lt h
theorem RowL.sees {B : Nat} {e : TypeId} {w : World} {v : Value} {Es : List (List Bool)} (h : RowL B e w v Es) : SeeL w v Es := by
  obtain ⟨us, h, hl, hp⟩ := h
  have hc := fun g hg => World.ownsRow.cells h (g := g) hg
  have hlt := World.ownsRow.lt h
  rcases h with ⟨h0, ⟨rfl, h2⟩ | ⟨g, cap, cur, rfl, h1, h2, h3, h4, h5⟩⟩
  · have := List.eq_nil_of_length_eq_zero h2
    subst this
    exact ⟨none, 0, rfl, Nat.le_refl _, by omega, fun h => by simp at h⟩
  · have hk := hc g rfl
    refine ⟨_, cap, rfl, h3, by unfold maxLen at h4; omega, fun _ => ⟨g, 0, rfl, (hlt g rfl).2, fun i hi => ⟨us.getD i undef, ?_, (hp i hi).1⟩⟩⟩
    have := hk i (us.getD i undef) (by rw [List.getD_eq_getElem?_getD, List.getElem?_eq_getElem (by omega)]; rfl)
    rw [addr_add] at this
    rw [Nat.zero_add]; exact this
/-- 'append' of a slice of ends to such a row. -/
theorem wpList_append_row {P : Program} {w : World} {ops : Array Oper} {rest : List Oper} {o : Oper} {a : Act} {Q : Exit → Act → World → Prop} (hgd : o.guard = none) (s x : Operand) (t : TypeId)
    (ho : o.op = .call { callee := .builtin .append, args := #[s, x], argTypes := #[t, t] })
    (e : TypeId) (i : TypeInfo) (ht : P.underlying t = some (.slice e)) (hi : P.info? e = some i) (hz : i.zero = some (.slice none 0 0)) (hsize : i.size = 1) (hby : i.bytes = 24)
    (v : Value) (Es : List (List Bool)) (E : List Bool) (u : Value) (g : Nat) (hs : a.eval s = v) (hx : a.eval x = .slice (some ⟨g, 0, none⟩) 1 1) (B : Nat) (hown : RowL B e w v Es)
    (h0 : w.cell? ⟨g, 0, none⟩ = some u) (hu : SeeB w u E) (hf : ∀ r, u.ownBlock = some r → r < w.heap.size ∧ v.ownBlock ≠ some r) (hlen : Es.length ≤ 1048576) (hB : B ≤ w.heap.size)
    (h : ∀ ao' cap' w', RowL B e w' (.slice ao' (Es.length + 1) cap') (Es ++ [E]) → w.grownBy w' v.ownBlock → Below B w w' → wpList P ops Q rest (a.put o.dst (.slice ao' (Es.length + 1) cap')) w') : wpList P ops Q (o :: rest) a w := by
  obtain ⟨us, hown, hl, hp⟩ := hown
  refine wpList_append_own_at w hgd s x t ho B e i (.slice none 0 0) 1 24 ht hi hz hsize hby rfl (by omega) v Es.length _ hs hown ⟨g, 0, none⟩ 1 1 [u] hx (by simp) ?_ ?_ (by unfold maxLen; omega) ?_ hB ?_
  · intro j u' hj
    rw [addr_add]
    rcases j with _ | j
    · simp at hj; subst hj; exact h0
    · simp at hj
  · obtain ⟨ao, cap, rfl, -⟩ := hu
    simp [Value.oneCell']
  · omega
  · intro v' w' r1 r2 r3 r4
    have hk : ∀ u l, SeeB w u l → (∀ r, u.ownBlock = some r → r < w.heap.size ∧ v.ownBlock ≠ some r) → SeeB w' u l ∧ ∀ r, u.ownBlock = some r → r < w'.heap.size ∧ v'.ownBlock ≠ some r := fun u l hs hf =>
      ⟨seeB_same hs r2.size (fun r e hr => r2.block r hr (fun e' => (hf r e).2 e'.symm)), fun r e => ⟨Nat.lt_of_lt_of_le (hf r e).1 r2.size, fun e' => by
        rcases r4 with r4 | r4
        · exact (hf r e).2 (r4 ▸ e')
        · rw [r4] at e'; have := (hf r e).1; simp at e'; omega⟩⟩
    have hr : RowL B e w' v' (Es ++ [E]) := by
      refine ⟨us ++ [u], ?_, by simp [hl], fun i hi => ?_⟩
      · rw [List.length_append]
        exact r1
      · by_cases hi' : i < Es.length
        · obtain ⟨a1, a3⟩ := hp i hi'
          rw [getD_left _ _ _ (by omega), getD_left _ _ _ hi']
          exact hk _ _ a1 a3
        · have : i = Es.length := by simp at hi; omega
          subst this
          rw [getD_end _ _ _ (by omega), getD_end _ _ _ rfl]
          exact hk u E hu hf
    obtain ⟨ao', cap', rfl⟩ : ∃ ao' cap', v' = .slice ao' (Es.length + 1) cap' := by
      rcases r1.2 with ⟨_, h⟩ | ⟨g, cap, cur, rfl, _⟩
      · omega
      · exact ⟨_, _, rfl⟩
    exact h _ _ _ hr r2 ((Below.refl _ _).grown r2 hB (fun g hg => (World.ownsRow.lt hown g hg).1))
theorem info_row : ∃ i : TypeInfo, Tryd.prog.info? 49 = some i ∧ i.zero = some (.slice none 0 0) ∧ i.size = 1 ∧ i.bytes = 24 := by
  have h : (Tryd.prog.info? 49).map (fun i => (i.zero, i.size, i.bytes)) = some (some (.slice none 0 0), 1, 24) := by kernel_rfl
  obtain ⟨i, h1, h2⟩ := Option.map_eq_some_iff.1 h
  simp only [Prod.mk.injEq] at h2
  exact ⟨i, h1, h2⟩
end Go.Proofs.YtjpbccpleflkhaaDoor

namespace Sq
theorem memI_at {l : List Int} {i : Nat} (hi : i < l.length) {b : Int} (h : l.getD i 0 = b) : b ∈ l := by
  rw [← h, List.getD_eq_getElem?_getD, List.getElem?_eq_getElem hi]
  exact List.getElem_mem hi
theorem memI_no {l : List Int} {b : Int} (h : ∀ i, i < l.length → (b == l.getD i 0) = false) : b ∉ l := fun hm => by
  obtain ⟨i, hi, e⟩ := List.mem_iff_getElem.1 hm
  have := h i hi
  rw [List.getD_eq_getElem?_getD, List.getElem?_eq_getElem hi] at this
  rw [show (some l[i]).getD 0 = l[i] from rfl, e] at this
  simp at this
theorem memL_at {l : List (List Bool)} {i : Nat} (hi : i < l.length) {b : List Bool} (h : l.getD i [] = b) : b ∈ l := by
  rw [← h, List.getD_eq_getElem?_getD, List.getElem?_eq_getElem hi]
  exact List.getElem_mem hi
theorem memL_no {l : List (List Bool)} {b : List Bool} (h : ∀ i, i < l.length → decide (l.getD i [] = b) = false) : b ∉ l := fun hm => by
  obtain ⟨i, hi, e⟩ := List.mem_iff_getElem.1 hm
  have := of_decide_eq_false (h i hi)
  rw [List.getD_eq_getElem?_getD, List.getElem?_eq_getElem hi] at this
  exact this e
end Sq
namespace Go.Proofs.YtjpbccpleflkhaaDoor
open Go.RowKit Go.Shelf
attribute [local go_sem] Oper.semAt_some
theorem nan_any (a : Int) (w : World) : Calls Tryd.prog 98 #[.int .i64 a] w fun e w' => e = .returned (.bool false) ∧ w' = w := by
  have h : (a == a) = true := by simp
  go_enter Tryd.func98, Tryd.ntmps98
  go_wp2
  go_ret
  exact ⟨rfl, rfl⟩
theorem less_no (a b : Int) (h : ¬ a < b) (w : World) : Calls Tryd.prog 76 #[.int .i64 a, .int .i64 b] w fun e w' => e = .returned (.bool false) ∧ w' = w := by
  have C := fun a W => Lib.hid (nan_any a W)
  have hd : decide (a < b) = false := decide_eq_false h
  clear h
  go_enter Tryd.func76, Tryd.ntmps76
  go_wp2_with fail
  refine ((C a _).out).mono ?_
  rintro e w1 ⟨rfl, rfl⟩
  go_wp2
  go_ret
  exact ⟨rfl, rfl⟩
set_option maxHeartbeats 4000000 in
set_option maxRecDepth 100000 in
/-- An ascending list is sorted. -/
theorem srt_any (v : Value) (l : List Int) (w : World) (hs : SeeI w v l) (ha : ∀ i, i + 1 < l.length → l.getD i 0 ≤ l.getD (i + 1) 0) : Calls Tryd.prog 43 #[v] w fun e w' => e = .returned (.bool true) ∧ Below w.heap.size w w' := by
  obtain ⟨ao, cap, rfl, hcap1, hcap2, hC⟩ := hs
  have HC := Lib.hid hC
  have HA := Lib.hid ha
  clear hC ha
  have hw0 : IntKind.i64.wrap ((l.length : Int) - 1) = (l.length : Int) - 1 := IntWalk.i64_in _ (by omega)
  go_enter Tryd.func43, Tryd.ntmps43
  go_wp2
  go_loopw [3] (fun s3 wr => ∃ i : Int, -1 ≤ i ∧ i < (l.length : Int) ∧ s3 = .int .i64 i ∧ Hid (Below w.heap.size w wr)) (fun s3 _ => (intOf s3).toNat)
  case atStart => exact ⟨(l.length : Int) - 1, by omega, by omega, rfl, Lib.hid (Below.refl _ _)⟩
  case round =>
    obtain ⟨i, hi0, hi, rfl, HB⟩ := hrel
    have hwi : IntKind.i64.wrap (i - 1) = i - 1 := IntWalk.i64_in _ (by omega)
    by_cases hp : 0 < i
    · obtain ⟨k, rfl⟩ : ∃ k : Nat, i = ((k + 1 : Nat) : Int) := ⟨(i - 1).toNat, by omega⟩
      have hk : k + 1 < l.length := by omega
      obtain ⟨g, off, rfl, hg, c1⟩ := HC.out.at HB.out hk
      obtain ⟨g2, off2, e2, hg2, c2⟩ := HC.out.at HB.out (show k < l.length by omega)
      obtain ⟨rfl, rfl⟩ : g = g2 ∧ off = off2 := by simp at e2; exact e2
      have hle := HA.out k hk
      have hk1 : (((k + 1 : Nat) : Int) - 1) = (k : Int) := by omega
      rw [hk1] at hwi
      have hgr : g < wr.heap.size := Nat.lt_of_lt_of_le hg HB.out.size
      have hz1 : (0 : Int) ≤ (k : Int) := by omega
      have hz2 : (k : Int) < (l.length : Int) := by omega
      have hz3 : (0 : Int) ≤ (k : Int) + 1 := by omega
      have hz4 : (k : Int) + 1 < (l.length : Int) := by omega
      have hz5 : (0 : Int) ≤ ((k + 1 : Nat) : Int) := by omega
      have hz6 : ((k + 1 : Nat) : Int) < (l.length : Int) := by omega
      have hz7 : ((k : Int) + 1).toNat = k + 1 := by omega
      have hz8 : IntKind.i64.wrap ((k : Int) + 1 - 1) = (k : Int) := by rw [show (k : Int) + 1 - 1 = (k : Int) by omega]; exact hwi
      clear HA HC e2
      generalize l.getD (k + 1) 0 = x at *
      generalize l.getD k 0 = y at *
      have CL := fun W => Lib.hid (less_no x y (by omega) W)
      have hdr := (Below.refl wr.heap.size wr).drew
      have HBd := Lib.hid (below_nxt HB.out hdr)
      have D1 := (hdr.cell (p := ⟨g, off + (k + 1), none⟩) hgr).trans c1
      have D2 := (hdr.cell (p := ⟨g, off + k, none⟩) hgr).trans c2
      clear hdr HB
      go_wp2
      go_region_held3 (fun W => W.cell? ⟨g, off + (k + 1), none⟩ = some (.int .i64 x) ∧ W.cell? ⟨g, off + k, none⟩ = some (.int .i64 y))
        (first | (refine ⟨?_, ?_⟩ <;> with_reducible assumption) | (go_split_ands; refine ⟨?_, ?_⟩ <;> with_reducible assumption))
        (first | (go_at_call 76; (with_reducible refine ((CL _).out).mono ?_); rintro e wn ⟨rfl, rfl⟩))
      all_goals (go_wp2; exact ⟨⟨(k : Int), by omega, by omega, by first | rfl | go_num, HBd⟩, by simp [intOf]⟩)
    · go_wp2
      go_ret
      exact ⟨rfl, HB.out⟩
set_option maxHeartbeats 4000000 in
set_option maxRecDepth 100000 in
theorem idxI_any (v : Value) (l : List Int) (b : Int) (w : World) (hs : SeeI w v l) : Calls Tryd.prog 79 #[v, .int .i64 b] w fun e w' => ∃ r : Int, e = .returned (.int .i64 r) ∧ decide (0 ≤ r) = decide (b ∈ l) ∧ Below w.heap.size w w' := by
  obtain ⟨ao, cap, rfl, hcap1, hcap2, hC⟩ := hs
  have HC := Lib.hid hC
  clear hC
  have HAt := Lib.hid (fun i (hi : i < l.length) (h : l.getD i 0 = b) => decide_eq_true (Sq.memI_at hi h))
  have HNo := Lib.hid (fun h => decide_eq_false (Sq.memI_no (l := l) (b := b) h))
  generalize decide (b ∈ l) = q at *
  go_enter Tryd.func79, Tryd.ntmps79
  go_wp2
  go_loopw [8] (fun s8 wr => ∃ i : Nat, i ≤ l.length ∧ s8 = .int .i64 (i : Int) ∧ Hid (∀ j, j < i → (b == l.getD j 0) = false) ∧ Hid (Below w.heap.size w wr)) (fun s8 _ => l.length - (intOf s8).toNat)
  case atStart => exact ⟨0, Nat.zero_le _, rfl, Lib.hid (fun j h => by omega), Lib.hid (Below.refl _ _)⟩
  case round =>
    obtain ⟨i, hi, rfl, HJ, HBW⟩ := hrel
    have hwi : IntKind.i64.wrap (i : Int) = (i : Int) := IntWalk.i64_in _ (by omega)
    by_cases hil : i < l.length
    · obtain ⟨g, off, rfl, hg, c1⟩ := HC.out.at HBW.out hil
      have hgr : g < wr.heap.size := Nat.lt_of_lt_of_le hg HBW.out.size
      have HAi := Lib.hid (HAt.out i hil)
      have HJ2 : Hid ((b == l.getD i 0) = false → ∀ j, j < i + 1 → (b == l.getD j 0) = false) := Lib.hid (fun h j hj => by
        by_cases e : j = i
        · rw [e]; exact h
        · exact HJ.out j (by omega))
      clear HAt HNo HJ
      generalize l.getD i 0 = y at *
      by_cases hby : b = y
      · have HQ := Lib.hid (HAi.out hby.symm)
        have hbb : (b == y) = true := by rw [hby]; simp
        clear HJ2 HAi hby
        go_wp2
        try go_quiet (fail)
        try go_wp2
        go_ret
        exact ⟨_, rfl, by rw [HQ.out]; exact decide_eq_true (by omega), by first | exact HBW.out | exact HBW.out.trans (below_drewN _ _)⟩
      · have hbb : (b == y) = false := by rw [beq_eq_false_iff_ne]; exact hby
        have HJ3 := Lib.hid (HJ2.out hbb)
        clear HJ2 HAi hby
        go_wp2
        try go_quiet (fail)
        try go_wp2
        exact ⟨⟨i + 1, by omega, by first | rfl | go_num, HJ3, by first | exact HBW | exact Lib.hid (HBW.out.trans (below_drewN _ _))⟩, by simp [intOf]; omega⟩
    · obtain rfl : i = l.length := by omega
      have HQ := Lib.hid (HNo.out HJ.out)
      go_wp2
      go_ret
      exact ⟨_, rfl, by rw [HQ.out]; rfl, HBW.out⟩
set_option maxHeartbeats 4000000 in
set_option maxRecDepth 100000 in
theorem conI_any (v : Value) (l : List Int) (b : Int) (w : World) (hs : SeeI w v l) : Calls Tryd.prog 48 #[v, .int .i64 b] w fun e w' => e = .returned (.bool (decide (b ∈ l))) ∧ Below w.heap.size w w' := by
  have HS := Lib.hid hs
  obtain ⟨ao, cap, rfl, -⟩ := hs
  have C := fun V (h : SeeI V (.slice ao l.length cap) l) => Lib.hid (idxI_any (.slice ao l.length cap) l b V h)
  generalize decide (b ∈ l) = q at *
  go_enter Tryd.func48, Tryd.ntmps48
  go_wp2_with fail
  refine ((C _ HS.out).out).mono ?_
  rintro e w1 ⟨r, rfl, hr, hb1⟩
  have HB1 := Lib.hid hb1
  clear hb1
  go_wp2
  go_ret
  exact ⟨by rw [← hr]; rfl, HB1.out⟩
/-- The first closure: the ends are those that it holds. -/
theorem clo1_any (u ev : Value) (D E : List Bool) (gb : Nat) (w : World) (hu : SeeB w u D) (he : SeeB w ev E) (_ : gb < w.heap.size) (hc : w.cell? ⟨gb, 0, none⟩ = some ev) : Calls Tryd.prog 46 #[u, .pointer (some ⟨gb, 0, none⟩)] w fun e w' => e = .returned (.bool (decide (D = E))) ∧ Below w.heap.size w w' := by
  have CE := fun V (h1 : SeeB V u D) (h2 : SeeB V ev E) => Lib.hid (rSmE_any u ev D E V h1 h2)
  have HU := Lib.hid hu
  have HE := Lib.hid he
  clear hu he
  generalize decide (D = E) = q at *
  go_enter Tryd.func46, Tryd.ntmps46
  go_wp2_with fail
  refine ((CE _ HU.out HE.out).out).mono ?_
  rintro e w1 ⟨rfl, hb1⟩
  have HB1 := Lib.hid hb1
  clear hb1
  go_wp2
  go_ret
  exact ⟨rfl, HB1.out⟩
set_option maxHeartbeats 4000000 in
set_option maxRecDepth 100000 in
theorem idxL_any (v ev : Value) (Es : List (List Bool)) (E : List Bool) (gb : Nat) (w : World) (hs : SeeL w v Es) (he : SeeB w ev E) (hg : gb < w.heap.size) (hc : w.cell? ⟨gb, 0, none⟩ = some ev) : Calls Tryd.prog 78 #[v, .func (.func 46) #[] #[.pointer (some ⟨gb, 0, none⟩)]] w fun e w' => ∃ r : Int, e = .returned (.int .i64 r) ∧ decide (0 ≤ r) = decide (E ∈ Es) ∧ Below w.heap.size w w' := by
  obtain ⟨ao, cap, rfl, hcap1, hcap2, hC⟩ := hs
  have HC := Lib.hid hC
  have HE := Lib.hid he
  have HG := Lib.hid (show ∀ W, Below w.heap.size w W → W.cell? ⟨gb, 0, none⟩ = some ev from fun W hb => (hb.cell (p := ⟨gb, 0, none⟩) hg).trans hc)
  have HAt := Lib.hid (fun i (hi : i < Es.length) (h : Es.getD i [] = E) => decide_eq_true (Sq.memL_at hi h))
  have HNo := Lib.hid (fun h => decide_eq_false (Sq.memL_no (l := Es) (b := E) h))
  clear hC he hc
  generalize decide (E ∈ Es) = q at *
  go_enter Tryd.func78, Tryd.ntmps78
  go_wp2
  go_loopw [8] (fun s8 wr => ∃ i : Nat, i ≤ Es.length ∧ s8 = .int .i64 (i : Int) ∧ Hid (∀ j, j < i → decide (Es.getD j [] = E) = false) ∧ Hid (Below w.heap.size w wr)) (fun s8 _ => Es.length - (intOf s8).toNat)
  case atStart => exact ⟨0, Nat.zero_le _, rfl, Lib.hid (fun j h => by omega), Lib.hid (Below.refl _ _)⟩
  case round =>
    obtain ⟨i, hi, rfl, HJ, HBW⟩ := hrel
    have hwi : IntKind.i64.wrap (i : Int) = (i : Int) := IntWalk.i64_in _ (by omega)
    by_cases hil : i < Es.length
    · obtain ⟨g, off, u, rfl, hg', c1, hsu⟩ := HC.out.at HBW.out hil
      have hgr : g < wr.heap.size := Nat.lt_of_lt_of_le hg' HBW.out.size
      have HAi := Lib.hid (HAt.out i hil)
      have HJ2 : Hid (decide (Es.getD i [] = E) = false → ∀ j, j < i + 1 → decide (Es.getD j [] = E) = false) := Lib.hid (fun h j hj => by
        by_cases e : j = i
        · rw [e]; exact h
        · exact HJ.out j (by omega))
      have CF := Lib.hid (clo1_any u ev (Es.getD i []) E gb wr hsu (HE.out.step HBW.out) (Nat.lt_of_lt_of_le hg HBW.out.size) (HG.out _ HBW.out))
      clear HAt HNo HJ hsu
      generalize Es.getD i [] = y at *
      by_cases hby : y = E
      · have HQ := Lib.hid (HAi.out hby)
        rw [decide_eq_true hby] at CF
        clear HJ2 HAi hby
        go_wp2_with fail
        refine (CF.out).mono ?_
        rintro e w1 ⟨rfl, hb1⟩
        have HB1 := Lib.hid (below_nxt HBW.out hb1)
        clear hb1 c1
        go_wp2
        go_ret
        exact ⟨_, rfl, by rw [HQ.out]; exact decide_eq_true (by omega), HB1.out⟩
      · have HJ3 := Lib.hid (HJ2.out (decide_eq_false hby))
        rw [decide_eq_false hby] at CF
        clear HJ2 HAi hby
        go_wp2_with fail
        refine (CF.out).mono ?_
        rintro e w1 ⟨rfl, hb1⟩
        have HB1 := Lib.hid (below_nxt HBW.out hb1)
        clear hb1 c1
        go_wp2
        exact ⟨⟨i + 1, by omega, by first | rfl | go_num, HJ3, HB1⟩, by simp [intOf]; omega⟩
    · obtain rfl : i = Es.length := by omega
      have HQ := Lib.hid (HNo.out HJ.out)
      go_wp2
      go_ret
      exact ⟨_, rfl, by rw [HQ.out]; rfl, HBW.out⟩
set_option maxHeartbeats 4000000 in
set_option maxRecDepth 100000 in
theorem conL_any (v ev : Value) (Es : List (List Bool)) (E : List Bool) (gb : Nat) (w : World) (hs : SeeL w v Es) (he : SeeB w ev E) (hg : gb < w.heap.size) (hc : w.cell? ⟨gb, 0, none⟩ = some ev) : Calls Tryd.prog 45 #[v, .func (.func 46) #[] #[.pointer (some ⟨gb, 0, none⟩)]] w fun e w' => e = .returned (.bool (decide (E ∈ Es))) ∧ Below w.heap.size w w' := by
  have C := Lib.hid (idxL_any v ev Es E gb w hs he hg hc)
  obtain ⟨ao, cap, rfl, -⟩ := hs
  clear he hc
  generalize decide (E ∈ Es) = q at *
  go_enter Tryd.func45, Tryd.ntmps45
  go_wp2_with fail
  refine (C.out).mono ?_
  rintro e w1 ⟨r, rfl, hr, hb1⟩
  have HB1 := Lib.hid hb1
  clear hb1
  go_wp2
  go_ret
  exact ⟨by rw [← hr]; rfl, HB1.out⟩
/-- The second closure at a step behind the first one. -/
theorem clo2_any (k : Int) (n : Value) (ao : Option Addr) (len cap gs : Nat) (w : World) (h1 : 1 ≤ k) (h2 : k < (len : Int)) (hP : BoxP w gs n (.slice ao len cap)) : Calls Tryd.prog 50 #[.int .i64 k, .pointer (some ⟨gs, 0, none⟩)] w fun e w' => e = .returned (.bool false) ∧ Below w.heap.size w w' := by
  obtain ⟨p0, p1, p2⟩ := hP
  have hd1 : decide (k < 1) = false := decide_eq_false (by omega)
  have hd2 : decide ((len : Int) ≤ k) = false := decide_eq_false (by omega)
  go_enter Tryd.func50, Tryd.ntmps50
  go_wp2
  try go_quiet (fail)
  try go_wp2
  go_ret
  exact ⟨rfl, by first | exact Below.refl _ _ | exact below_drewN _ _⟩
set_option maxHeartbeats 4000000 in
set_option maxRecDepth 100000 in
theorem idxF_any (v n : Value) (l : List Int) (ao' : Option Addr) (len cap' gs : Nat) (w : World) (hs : SeeI w v l) (hP : BoxP w gs n (.slice ao' len cap')) (hl : ∀ i, i < l.length → 1 ≤ l.getD i 0 ∧ l.getD i 0 < (len : Int)) : Calls Tryd.prog 80 #[v, .func (.func 50) #[] #[.pointer (some ⟨gs, 0, none⟩)]] w fun e w' => e = .returned (.int .i64 (-1)) ∧ Below w.heap.size w w' := by
  obtain ⟨ao, cap, rfl, hcap1, hcap2, hC⟩ := hs
  have HC := Lib.hid hC
  have HP := Lib.hid hP
  have HL := Lib.hid hl
  clear hC hP hl
  go_enter Tryd.func80, Tryd.ntmps80
  go_wp2
  go_loopw [8] (fun s8 wr => ∃ i : Nat, i ≤ l.length ∧ s8 = .int .i64 (i : Int) ∧ Hid (Below w.heap.size w wr)) (fun s8 _ => l.length - (intOf s8).toNat)
  case atStart => exact ⟨0, Nat.zero_le _, rfl, Lib.hid (Below.refl _ _)⟩
  case round =>
    obtain ⟨i, hi, rfl, HBW⟩ := hrel
    have hwi : IntKind.i64.wrap (i : Int) = (i : Int) := IntWalk.i64_in _ (by omega)
    by_cases hil : i < l.length
    · obtain ⟨g, off, rfl, hg', c1⟩ := HC.out.at HBW.out hil
      have hgr : g < wr.heap.size := Nat.lt_of_lt_of_le hg' HBW.out.size
      obtain ⟨h1, h2⟩ := HL.out i hil
      have CF := Lib.hid (clo2_any (l.getD i 0) n ao' len cap' gs wr h1 h2 (HP.out.step HBW.out))
      clear HL h1 h2
      generalize l.getD i 0 = y at *
      go_wp2_with fail
      refine (CF.out).mono ?_
      rintro e w1 ⟨rfl, hb1⟩
      have HB1 := Lib.hid (below_nxt HBW.out hb1)
      clear hb1 c1
      go_wp2
      exact ⟨⟨i + 1, by omega, by first | rfl | go_num, HB1⟩, by simp [intOf]; omega⟩
    · obtain rfl : i = l.length := by omega
      go_wp2
      go_ret
      exact ⟨rfl, HBW.out⟩
theorem conF_any (v n : Value) (l : List Int) (ao' : Option Addr) (len cap' gs : Nat) (w : World) (hs : SeeI w v l) (hP : BoxP w gs n (.slice ao' len cap')) (hl : ∀ i, i < l.length → 1 ≤ l.getD i 0 ∧ l.getD i 0 < (len : Int)) : Calls Tryd.prog 49 #[v, .func (.func 50) #[] #[.pointer (some ⟨gs, 0, none⟩)]] w fun e w' => e = .returned (.bool false) ∧ Below w.heap.size w w' := by
  have C := Lib.hid (idxF_any v n l ao' len cap' gs w hs hP hl)
  obtain ⟨ao, cap, rfl, -⟩ := hs
  clear hP hl
  go_enter Tryd.func49, Tryd.ntmps49
  go_wp2_with fail
  refine (C.out).mono ?_
  rintro e w1 ⟨rfl, hb1⟩
  have HB1 := Lib.hid hb1
  clear hb1
  go_wp2
  go_ret
  exact ⟨rfl, HB1.out⟩
end Go.Proofs.YtjpbccpleflkhaaDoor
