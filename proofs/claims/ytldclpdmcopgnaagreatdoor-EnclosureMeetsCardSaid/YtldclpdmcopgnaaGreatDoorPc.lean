/- The contracts of the functions of package fraction on texts: isInteger, isLong, split. The contracts of the functions of package fraction on quotients: sign, opposite, integer, split. The contracts of the functions of package fraction on two quotients: multiply, divide, add, subtract. -/
import Derived.Test.YtldclpdmcopgnaaGreatDoorNh
import Derived.Test.YtldclpdmcopgnaaGreatDoorShelf
import Derived.Test.YtldclpdmcopgnaaGreatDoorNf
import Derived.Deep.RegionHeld3
namespace Go.Proofs.YtldclpdmcopgnaaGreatDoor
open Go.RowKit

/-- A text without its sign. -/
def bareB (s : ByteArray) : ByteArray := ⟨(Fr.bare s.data.toList).toArray⟩
theorem bareB_list (s : ByteArray) : (bareB s).data.toList = Fr.bare s.data.toList := rfl

theorem hasPrefix_dash (l : List UInt8) : Lib.hasPrefix l [45] = Fr.isNeg l := by
  cases l with
  | nil => rfl
  | cons c l => simp [Lib.hasPrefix, Fr.isNeg, List.isPrefixOf]; exact Bool.beq_comm
theorem trimPrefix_dash (l : List UInt8) : Lib.trimPrefix l [45] = Fr.bare l := by
  unfold Lib.trimPrefix
  rw [hasPrefix_dash]
  cases l with
  | nil => rfl
  | cons c l =>
    simp only [Fr.isNeg, Fr.bare]
    by_cases h : c = 45 <;> simp [h]

theorem trim_any (s : ByteArray) (w : World) : Calls Tryz.prog 131 #[.string s, .string ⟨#[45]⟩] w fun e w' => e = .returned (.string (bareB s)) ∧ w = w' := by
  have h := Tryz.strings_TrimPrefix s ⟨#[45]⟩ w
  refine h.mono fun e w' ⟨h1, h2⟩ => ⟨?_, h2.symm⟩
  rw [h1]
  have : Lib.trimPrefix s.data.toList (ByteArray.mk #[45]).data.toList = Fr.bare s.data.toList := trimPrefix_dash _
  rw [this]
  rfl
theorem liteCut_any (s : ByteArray) (w : World) : Calls Tryz.prog 161 #[.string s, .string ⟨#[45]⟩] w fun e w' => e = .returned (.tuple #[.string (bareB s), .bool (Fr.isNeg s.data.toList)]) ∧ w = w' := by
  have CH := Tryz.stringslite_HasPrefix s ⟨#[45]⟩ w
  have h4 : Lib.hasPrefix s.data.toList (ByteArray.mk #[45]).data.toList = Fr.isNeg s.data.toList := hasPrefix_dash _
  rw [h4] at CH
  have CH' := Lib.hid CH
  cases hneg : Fr.isNeg s.data.toList
  · rw [hneg] at CH'
    go_enter Tryz.func161, Tryz.ntmps161
    go_wp2_with fail
    refine (CH'.out).mono ?_
    rintro e w1 ⟨rfl, rfl⟩
    go_wp2
    go_ret2
    have e : bareB s = s := by
      unfold bareB
      rw [Fr.bare_of_not hneg]
    rw [e]
    exact ⟨rfl, rfl⟩
  · have h1 := Fr.bare_of_neg hneg
    have hl : s.data.toList.length = s.size := rfl
    have hpos : (1 : Int) ≤ (s.size : Int) := by rw [← hl, h1, List.length_cons]; omega
    have hb : bareB s = s.extract 1 s.size := by
      unfold bareB
      generalize Fr.bare s.data.toList = l at h1 ⊢
      have e : s = ⟨(45 :: l).toArray⟩ := by
        apply ByteArray.ext; rw [← Array.toList_inj, h1]
      have e2 : s.size = l.length + 1 := by show s.data.toList.length = _; rw [h1]; rfl
      rw [e2, e, ByteArray.extract_mk]
      simp
    rw [hb]
    rw [hneg] at CH'
    clear hb h1 h4 CH hl hneg
    go_enter Tryz.func161, Tryz.ntmps161
    go_wp2_with fail
    refine (CH'.out).mono ?_
    rintro e w1 ⟨rfl, rfl⟩
    go_wp2
    go_ret2
    exact ⟨rfl, rfl⟩
theorem cutPrefix_any (s : ByteArray) (w : World) : Calls Tryz.prog 145 #[.string s, .string ⟨#[45]⟩] w fun e w' => e = .returned (.tuple #[.string (bareB s), .bool (Fr.isNeg s.data.toList)]) ∧ w = w' := by
  have CC := Lib.hid (liteCut_any s w)
  generalize bareB s = t at *
  generalize Fr.isNeg s.data.toList = r at *
  go_enter Tryz.func145, Tryz.ntmps145
  go_wp2_with fail
  refine (CC.out).mono ?_
  rintro e w1 ⟨rfl, rfl⟩
  go_wp2
  go_ret2
  exact ⟨rfl, rfl⟩

theorem isLong_any (s : ByteArray) (w : World) : Calls Tryz.prog 115 #[.string s] w fun e w' => e = .returned (.bool (Fr.isLong s.data.toList)) ∧ w = w' := by
  have h1 : (bareB s).size = (Fr.bare s.data.toList).length := by simp [bareB, ByteArray.size]
  have h2 : Fr.isLong s.data.toList = decide ((60 : Int) < ((bareB s).size : Int)) := by unfold Fr.isLong; rw [h1]; simp; omega
  rw [h2]
  go_enter Tryz.func115, Tryz.ntmps115
  go_wp2_with (go_at_call 131; refine (trim_any _ _).mono ?_; rintro e w' ⟨rfl, rfl⟩)
  go_ret
  exact ⟨rfl, rfl⟩

theorem isInteger_any (s : ByteArray) (w : World) (hs : s.size ≤ 1000000) : Calls Tryz.prog 114 #[.string s] w fun e w' => e = .returned (.bool (Fr.isInt s.data.toList)) ∧ w = w' := by
  have CT := Lib.hid (trim_any s w)
  have hl := bareB_list s
  have HL := Lib.hid hl
  have hsz : (bareB s).size ≤ 1000000 := by
    have h1 : (bareB s).size = (Fr.bare s.data.toList).length := by simp [bareB, ByteArray.size]
    have h2 : (Fr.bare s.data.toList).length ≤ s.data.toList.length := by
      cases s.data.toList with
      | nil => exact Nat.le_refl _
      | cons c l => simp only [Fr.bare]; split <;> simp
    have h3 : s.data.toList.length = s.size := rfl
    omega
  clear hl
  generalize bareB s = d at *
  by_cases h0 : d.size = 0
  · have e0 : d.data.toList = [] := List.eq_nil_of_length_eq_zero h0
    have hr : Fr.isInt s.data.toList = false := by unfold Fr.isInt; rw [← HL.out, e0]; rfl
    have e1 : d.toList = [] := by rw [ByteArray.toList_eq]; exact e0
    rw [hr]
    clear e0 hr HL h0
    go_enter Tryz.func114, Tryz.ntmps114
    go_wp2_with (go_at_call 131; refine (CT.out).mono ?_; rintro e w' ⟨rfl, rfl⟩)
    go_ret
    exact ⟨rfl, rfl⟩
  · have hpos : 0 < d.size := by omega
    have e1 : ¬ d.toList = [] := by
      rw [ByteArray.toList_eq]
      intro h
      have : d.size = 0 := by show d.data.toList.length = 0; rw [h]; rfl
      omega
    have e2 : d.toList.isEmpty = false := by simpa using e1
    have hne : Fr.bare s.data.toList ≠ [] := by rw [← HL.out, ← ByteArray.toList_eq]; exact e1
    have hhd : (Fr.bare s.data.toList).head? = some (d[0]'hpos) := by
      rw [← HL.out, List.head?_eq_getElem?, List.getElem?_eq_getElem (by show 0 < d.data.toList.length; exact hpos)]
      rfl
    have hlen1 : s.data.toList.length = 1 → s.data.toList = [48] ∨ d[0]'hpos ≠ 48 := by
      intro h
      match hs' : s.data.toList, h with
      | [c], _ =>
        by_cases hc : c = 48
        · left; rw [hc]
        · right
          intro hd
          rw [hd, hs'] at hhd
          simp only [Fr.bare] at hhd
          split at hhd
          · cases hhd
          · exact hc (by simpa using hhd)
    by_cases hB : d[0]'hpos = 48 ∧ s.data.toList ≠ [48]
    · have hr : Fr.isInt s.data.toList = false := by
        unfold Fr.isInt
        rw [hhd, hB.1]
        have : (s.data.toList.length == 1) = false := by
          rw [beq_eq_false_iff_ne]
          intro h
          rcases hlen1 h with h | h
          · exact hB.2 h
          · exact h hB.1
        rw [this]
        simp
      have f1 : ((d[0]'hpos).toNat : Int) = 48 := by rw [hB.1]; rfl
      have f2 : (!s.toList == [48]) = true := by rw [ByteArray.toList_eq]; simpa using hB.2
      rw [hr]
      clear hr HL h0 hB hne hhd hlen1
      go_enter Tryz.func114, Tryz.ntmps114
      go_wp2_with (go_at_call 131; refine (CT.out).mono ?_; rintro e w' ⟨rfl, rfl⟩)
      go_ret
      exact ⟨rfl, rfl⟩
    · have hr : Fr.isInt s.data.toList = d.data.toList.all Fr.isDig := by
        unfold Fr.isInt
        rw [hhd, HL.out]
        have h1 : (Fr.bare s.data.toList).isEmpty = false := by simpa using hne
        have h2 : ((some (d[0]'hpos) != some 48) || s.data.toList.length == 1) = true := by
          by_cases hc : d[0]'hpos = 48
          · have : s.data.toList = [48] := by
              by_cases h : s.data.toList = [48]
              · exact h
              · exact absurd ⟨hc, h⟩ hB
            rw [this]; simp
          · simp [hc]
        rw [h1, h2]
        rfl
      rw [hr]
      have hway : (((d[0]'hpos).toNat : Int) = 48 ∧ (!s.toList == [48]) = false) ∨ ¬ (((d[0]'hpos).toNat : Int) = 48) := by
        by_cases hc : d[0]'hpos = 48
        · left
          refine ⟨by rw [hc]; rfl, ?_⟩
          have : s.data.toList = [48] := by
            by_cases h : s.data.toList = [48]
            · exact h
            · exact absurd ⟨hc, h⟩ hB
          rw [ByteArray.toList_eq, this]; rfl
        · right
          intro h
          exact hc (UInt8.toNat_inj.1 (by show (d[0]'hpos).toNat = 48; omega))
      have hpart : ∀ j, (hj : j < d.size) → (d.data.toList.take (j + 1)).all Fr.isDig = ((d.data.toList.take j).all Fr.isDig && Fr.isDig (d[j]'hj)) := by
        intro j hj
        rw [List.take_succ_eq_append_getElem (by show j < d.data.toList.length; exact hj), List.all_append]
        simp
        rfl
      have HP := Lib.hid hpart
      clear hr HL h0 hB hne hhd hlen1 hpart
      obtain ⟨R, hR⟩ : ∃ R, d.data.toList.all Fr.isDig = R := ⟨_, rfl⟩
      rw [hR]
      have HR := Lib.hid hR
      clear hR
      rcases hway with ⟨f1, f2⟩ | f1
      all_goals
        go_enter Tryz.func114, Tryz.ntmps114
        go_wp2_with (go_at_call 131; refine (CT.out).mono ?_; rintro e w' ⟨rfl, rfl⟩)
        go_loop [20] (fun u20 => ∃ j : Nat, j ≤ d.size ∧ u20 = .int .i64 j ∧ Hid ((d.data.toList.take j).all Fr.isDig = true)) (fun u20 => d.size - (intOf u20).toNat)
        case atStart => exact ⟨0, Nat.zero_le _, rfl, rfl⟩
        case round =>
          obtain ⟨j, hj, rfl, HJ⟩ := hrel
          by_cases hjd : j < d.size
          · have hs1 := HP.out j hjd
            rw [HJ.out, Bool.true_and] at hs1
            have HS := Lib.hid hs1
            clear hs1
            by_cases g1 : (48 : Int) ≤ ((d[j]'hjd).toNat : Int)
            · by_cases g2 : ((d[j]'hjd).toNat : Int) ≤ 57
              · have hdig : Fr.isDig (d[j]'hjd) = true := by unfold Fr.isDig; simp; omega
                have HG := Lib.hid hdig
                clear hdig
                go_wp2
                go_round
                case rel => exact ⟨j + 1, by omega, by go_num, by unfold Hid; rw [HS.out]; exact HG.out⟩
                case measure => simp [intOf]; omega
              · have hdig : Fr.isDig (d[j]'hjd) = false := by unfold Fr.isDig; simp; omega
                have hfin : d.data.toList.all Fr.isDig = false := by
                  rw [List.all_eq_false]
                  exact ⟨d[j]'hjd, by show d.data[j] ∈ _; exact Array.getElem_mem_toList _, by rw [hdig]; simp⟩
                have HF := Lib.hid (show R = false by rw [← HR.out]; exact hfin)
                clear hdig hfin
                go_wp2
                go_ret
                rw [HF.out]
                exact ⟨rfl, rfl⟩
            · have hdig : Fr.isDig (d[j]'hjd) = false := by unfold Fr.isDig; simp; omega
              have hfin : d.data.toList.all Fr.isDig = false := by
                rw [List.all_eq_false]
                exact ⟨d[j]'hjd, by show d.data[j] ∈ _; exact Array.getElem_mem_toList _, by rw [hdig]; simp⟩
              have HF := Lib.hid (show R = false by rw [← HR.out]; exact hfin)
              clear hdig hfin
              go_wp2
              go_ret
              rw [HF.out]
              exact ⟨rfl, rfl⟩
          · have HF := Lib.hid (show R = true by
              have h := HJ.out
              rw [← HR.out]
              rw [List.take_of_length_le (by show d.data.toList.length ≤ j; have : d.data.toList.length = d.size := rfl; omega)] at h
              exact h)
            go_wp2
            go_ret
            rw [HF.out]
            exact ⟨rfl, rfl⟩

end Go.Proofs.YtldclpdmcopgnaaGreatDoor

namespace Go.Proofs.YtldclpdmcopgnaaGreatDoor
open Go.RowKit

theorem IsNat.form {k : IntKind} {B : Nat} {w : World} {v : Value} {n m : Nat} (h : IsNat k B w v n m) : ∃ ao l c, v = .slice ao l c := by
  obtain ⟨l, h1, _⟩ := h
  obtain ⟨ao, cap, h2, _⟩ := h1.form
  exact ⟨ao, _, cap, h2⟩

/-- A struct value is a quotient with a sign. -/
def RatIs (w : World) (x : Value) (b : Bool) (m n p : Nat) : Prop := ∃ u v, x = .agg #[.bool b, u, v] ∧ IsNat .u32 1000000000 w u m p ∧ IsNat .u32 1000000000 w v n p
theorem RatIs.below {w w' : World} {x : Value} {b : Bool} {m n p : Nat} (h : RatIs w x b m n p) {C : Nat} (hb : Below C w w') (hC : w.heap.size ≤ C) : RatIs w' x b m n p := by
  obtain ⟨u, v, h1, h2, h3⟩ := h
  exact ⟨u, v, h1, h2.below hb hC, h3.below hb hC⟩

/-- A struct value is a rational number. -/
def RatQ (w : World) (x : Value) (q : Rat) (p : Nat) : Prop := ∃ b m n, RatIs w x b m n p ∧ 0 < n ∧ Fr.num b m n = q
theorem RatQ.below {w w' : World} {x : Value} {q : Rat} {p : Nat} (h : RatQ w x q p) {C : Nat} (hb : Below C w w') (hC : w.heap.size ≤ C) : RatQ w' x q p := by
  obtain ⟨b, m, n, h1, h2⟩ := h
  exact ⟨b, m, n, h1.below hb hC, h2⟩
/-- What a call leaves that returns a rational number. -/
def Newer (B : Nat) (x : Value) : Prop := ∀ b u v, x = .agg #[.bool b, u, v] → ∀ g, g < B → u.ownBlock ≠ some g ∧ v.ownBlock ≠ some g
theorem Newer.mk {B g h : Nat} {b : Bool} {u v : Value} (hu : u.ownBlock = some g) (hv : v.ownBlock = some h) (hg : B ≤ g) (hh : B ≤ h) : Newer B (.agg #[.bool b, u, v]) := by
  intro b' u' v' he t ht
  cases he
  rw [hu, hv]
  exact ⟨fun e => by have := Option.some.inj e; omega, fun e => by have := Option.some.inj e; omega⟩
def QPost (w : World) (q : Rat) (p : Nat) (e : Ending) (w' : World) : Prop := ∃ x, e = .returned x ∧ Below w.heap.size w w' ∧ RatQ w' x q p ∧ Newer w.heap.size x

/-- What a call leaves that returns a quotient. -/
def RatPost (w : World) (b : Bool) (m n p : Nat) (e : Ending) (w' : World) : Prop := ∃ x, e = .returned x ∧ Below w.heap.size w w' ∧ RatIs w' x b m n p

theorem not_run (b : Bool) : ∀ w : World, (Op.unary .not (.bool b)).run Tryz.prog w = .ok (.bool (!b)) w := fun _ => rfl

set_option maxRecDepth 100000 in
theorem sign_any (x : Value) (b : Bool) (m n p : Nat) (w : World) (h : RatIs w x b m n p) :
    Calls Tryz.prog 88 #[x] w fun e w' => e = .returned (.int .i64 (if m = 0 then 0 else if b then -1 else 1)) ∧ Below w.heap.size w w' := by
  obtain ⟨u, v, rfl, ⟨l, sl, nl, el, ll⟩, _⟩ := h
  obtain ⟨ao, ca, rfl, a1, a2, _⟩ := sl.opened
  clear sl
  by_cases h0 : l.length = 0
  · have hm : m = 0 := by rw [← el]; exact (Limb.norm_zero (by omega) nl).2 h0
    have hb0 : ((l.length : Int) == 0) = true := by simp [h0]
    rw [if_pos hm]
    clear h0 el nl hm
    go_enter Tryz.func88, Tryz.ntmps88
    go_wp2
    go_ret
    exact ⟨rfl, (Below.refl _ _).alloc (Nat.le_refl _) _⟩
  · have hm : ¬ m = 0 := by
      intro hm
      exact h0 ((Limb.norm_zero (B := 1000000000) (by omega) nl).1 (by rw [el]; exact hm))
    have hb0 : ((l.length : Int) == 0) = false := beq_eq_false_iff_ne.2 (by omega)
    rw [if_neg hm]
    clear h0 el nl hm
    cases b
    all_goals
      go_enter Tryz.func88, Tryz.ntmps88
      go_wp2
      go_ret
      exact ⟨rfl, (Below.refl _ _).alloc (Nat.le_refl _) _⟩

set_option maxRecDepth 100000 in
theorem opposite_any (x : Value) (b : Bool) (m n p : Nat) (w : World) (h : RatIs w x b m n p) :
    Calls Tryz.prog 136 #[x] w (RatPost w (!b) m n p) := by
  obtain ⟨u, v, rfl, hu, hv⟩ := h
  have hnot := not_run b
  obtain ⟨ua, ul, uc, rfl⟩ := hu.form
  obtain ⟨va, vl, vc, rfl⟩ := hv.form
  have HU := Lib.hid hu
  have HV := Lib.hid hv
  clear hu hv
  go_enter Tryz.func136, Tryz.ntmps136
  go_wp2
  have hbel : ∀ o1 o2, Below w.heap.size w ((w.alloc o1).alloc o2) := fun o1 o2 => ((Below.refl _ _).alloc (Nat.le_refl _) _).alloc (by simp) _
  refine bodyPost_ret (v := .agg #[.bool (!b), .slice ua ul uc, .slice va vl vc]) (by simp [results, Tryz.results136, go_sem]) rfl ⟨_, rfl, hbel _ _, _, _, rfl, HU.out.below (hbel _ _) (Nat.le_refl _), HV.out.below (hbel _ _) (Nat.le_refl _)⟩

end Go.Proofs.YtldclpdmcopgnaaGreatDoor

namespace Go.Proofs.YtldclpdmcopgnaaGreatDoor
open Go.RowKit

theorem times_nat {u v : Value} {m n p q : Nat} {w : World} (hu : IsNat .u32 1000000000 w u m p) (hv : IsNat .u32 1000000000 w v n q) (hp : p ≤ 900) (hq : q ≤ 900) :
    Calls Tryz.prog 153 #[u, v] w fun e w' => ∃ r, e = .returned r ∧ Below w.heap.size w w' ∧ IsNat .u32 1000000000 w' r (m * n) (p + q) ∧ r.ownBlock = some w.heap.size := by
  obtain ⟨a, sa, na, ea, la⟩ := hu
  obtain ⟨b, sb, nb, eb, lb⟩ := hv
  have h := times_own u v a b w sa sb na.1 nb.1 (by omega) (by omega)
  rw [ea, eb] at h
  exact h.mono fun e w' ⟨r, h1, h2, h3, h4⟩ => ⟨r, h1, h2, h3.up (by omega), h4⟩

/-- A struct of a quotient that has just been laid, and not yet written. -/
def Fresh (W : World) (g : Nat) : Prop :=
  g < W.heap.size ∧ W.cell? ⟨g, 0, none⟩ = some (.bool false) ∧ W.cell? ⟨g, 1, none⟩ = some (.slice none 0 0) ∧ W.cell? ⟨g, 2, none⟩ = some (.slice none 0 0) ∧
  W.frozen? ⟨g, 0, none⟩ = false ∧ W.frozen? ⟨g, 1, none⟩ = false ∧ W.frozen? ⟨g, 2, none⟩ = false
theorem Fresh.below {W W' : World} {g : Nat} (h : Fresh W g) (hb : Below W.heap.size W W') : Fresh W' g := by
  obtain ⟨h0, h1, h2, h3, h4, h5, h6⟩ := h
  exact ⟨Nat.lt_of_lt_of_le h0 hb.size, (hb.cell (p := ⟨g, 0, none⟩) h0).trans h1, (hb.cell (p := ⟨g, 1, none⟩) h0).trans h2, (hb.cell (p := ⟨g, 2, none⟩) h0).trans h3,
    (hb.frozen (p := ⟨g, 0, none⟩) h0).trans h4, (hb.frozen (p := ⟨g, 1, none⟩) h0).trans h5, (hb.frozen (p := ⟨g, 2, none⟩) h0).trans h6⟩
theorem set3 (w : World) (g b o : Nat) (h : b ≠ g) (x y z : Value) : (((w.setCell ⟨g, 0, none⟩ x).setCell ⟨g, 1, none⟩ y).setCell ⟨g, 2, none⟩ z).cell? ⟨b, o, none⟩ = w.cell? ⟨b, o, none⟩ :=
  World.cell?_of_block (by rw [Below.heap_setCell _ _ _ _ h, Below.heap_setCell _ _ _ _ h, Below.heap_setCell _ _ _ _ h])

theorem fresh_one (w : World) (T : TypeId) : Fresh (w.alloc (.cells #[.bool false, .slice none 0 0, .slice none 0 0] T)) w.heap.size := by
  unfold Fresh
  simp
theorem fresh_new (w : World) (o1 o2 : Obj) (T : TypeId) : Fresh (((w.alloc o1).alloc o2).alloc (.cells #[.bool false, .slice none 0 0, .slice none 0 0] T)).drew (w.heap.size + 2) := by
  have h := fresh_one ((w.alloc o1).alloc o2) T
  have e : ((w.alloc o1).alloc o2).heap.size = w.heap.size + 2 := by simp
  rw [e] at h
  exact h

set_option maxRecDepth 100000 in
set_option maxHeartbeats 2000000 in
theorem multiply_any (x y : Value) (b c : Bool) (m n k l p q : Nat) (w : World) (hx : RatIs w x b m n p) (hy : RatIs w y c k l q) (hn : 0 < n) (hl : 0 < l) (hp : p ≤ 400) (hq : q ≤ 400) :
    Calls Tryz.prog 140 #[x, y] w (QPost w (Fr.num b m n * Fr.num c k l) (p + q)) := by
  obtain ⟨u1, v1, rfl, hu1, hv1⟩ := hx
  obtain ⟨u2, v2, rfl, hu2, hv2⟩ := hy
  obtain ⟨u1a, u1l, u1c, rfl⟩ := hu1.form
  obtain ⟨v1a, v1l, v1c, rfl⟩ := hv1.form
  obtain ⟨u2a, u2l, u2c, rfl⟩ := hu2.form
  obtain ⟨v2a, v2l, v2c, rfl⟩ := hv2.form
  have C1 := fun W (h : Below w.heap.size w W) => Lib.hid (times_nat (hu1.below h (Nat.le_refl _)) (hu2.below h (Nat.le_refl _)) (by omega) (by omega))
  have C2 := fun W (h : Below w.heap.size w W) => Lib.hid (times_nat (hv1.below h (Nat.le_refl _)) (hv2.below h (Nat.le_refl _)) (by omega) (by omega))
  clear hu1 hv1 hu2 hv2
  have hb0 : ∀ o1 o2 o3, Below w.heap.size w (((w.alloc o1).alloc o2).alloc o3).drew := fun o1 o2 o3 => ((((Below.refl _ _).alloc (Nat.le_refl _) _).alloc (by simp) _).alloc (by simp; omega) _).drew
  go_enter Tryz.func140, Tryz.ntmps140
  go_wp2_with fail
  go_region_held3 (fun W => W.cell? ⟨w.heap.size, 0, none⟩ = some (.bool b) ∧ W.cell? ⟨w.heap.size, 1, none⟩ = some (.slice u1a u1l u1c) ∧ W.cell? ⟨w.heap.size, 2, none⟩ = some (.slice v1a v1l v1c) ∧
      W.cell? ⟨w.heap.size + 1, 0, none⟩ = some (.bool c) ∧ W.cell? ⟨w.heap.size + 1, 1, none⟩ = some (.slice u2a u2l u2c) ∧ W.cell? ⟨w.heap.size + 1, 2, none⟩ = some (.slice v2a v2l v2c))
    (first
      | (go_split_ands; refine ⟨?_, ?_, ?_, ?_, ?_, ?_⟩ <;> (rw [hb2.cell (by simp <;> omega)]; assumption))
      | (go_split_ands; refine ⟨?_, ?_, ?_, ?_, ?_, ?_⟩ <;> (rw [hb1.cell (by simp <;> omega)]; assumption))
      | (go_split_ands; refine ⟨?_, ?_, ?_, ?_, ?_, ?_⟩ <;> (rw [set3 _ _ _ _ (by omega)]; assumption))
      | go_keep)
    (first
      | (go_at_call 153; (with_reducible refine ((C1 _ (hb0 _ _ _)).out).mono ?_); rintro e w1 ⟨r1, rfl, hb1, hr1, hg1⟩; have hB1 := (hb0 _ _ _).trans (hb1.mono (by simp <;> omega)); have hF1 := (fresh_new _ _ _ _).below hb1; have hs1 := hF1.1)
      | (go_at_call 153; (with_reducible refine ((C2 _ (hb0 _ _ _)).out).mono ?_); rintro e w1 ⟨r1, rfl, hb1, hr1, hg1⟩; have hB1 := (hb0 _ _ _).trans (hb1.mono (by simp <;> omega)); have hF1 := (fresh_new _ _ _ _).below hb1; have hs1 := hF1.1)
      | (go_at_call 153; (with_reducible refine ((C1 _ hB1).out).mono ?_); rintro e w2 ⟨r2, rfl, hb2, hr2, hg2⟩; obtain ⟨r1a, r1l, r1c, rfl⟩ := hr1.form; obtain ⟨r2a, r2l, r2c, rfl⟩ := hr2.form; have hF2 := hF1.below hb2; obtain ⟨q0, q1, q2, q3, q4, q5, q6⟩ := hF2)
      | (go_at_call 153; (with_reducible refine ((C2 _ hB1).out).mono ?_); rintro e w2 ⟨r2, rfl, hb2, hr2, hg2⟩; obtain ⟨r1a, r1l, r1c, rfl⟩ := hr1.form; obtain ⟨r2a, r2l, r2c, rfl⟩ := hr2.form; have hF2 := hF1.below hb2; obtain ⟨q0, q1, q2, q3, q4, q5, q6⟩ := hF2))
  go_wp2
  have hB2 := hB1.trans (hb2.mono hB1.size)
  have hfin := ((hB2.setCell (p := ⟨w.heap.size + 1 + 1, 0, none⟩) (by simp; omega) (.bool !(b == c))).setCell (p := ⟨w.heap.size + 1 + 1, 1, none⟩) (by simp; omega) (.slice r1a r1l r1c)).setCell (p := ⟨w.heap.size + 1 + 1, 2, none⟩) (by simp; omega) (.slice r2a r2l r2c)
  have g1 : (Value.slice r1a r1l r1c).ownBlock ≠ some (w.heap.size + 1 + 1) := by rw [hg1]; intro e; have := Option.some.inj e; simp at this
  have g2 : (Value.slice r2a r2l r2c).ownBlock ≠ some (w.heap.size + 1 + 1) := by rw [hg2]; intro e; have := Option.some.inj e; omega
  exact bodyPost_ret (v := .agg #[.bool !(b == c), .slice r1a r1l r1c, .slice r2a r2l r2c]) (by simp [results, Tryz.results140, go_sem, q1, q2, q3]) rfl ⟨_, rfl, hfin, ⟨_, _, _, ⟨_, _, rfl, (((hr1.below hb2 (Nat.le_refl _)).put g1 _).put g1 _).put g1 _, ((hr2.put g2 _).put g2 _).put g2 _⟩, Nat.mul_pos hn hl, Fr.num_mul b c m n k l⟩, Newer.mk hg1 hg2 (by simp; omega) (by omega)⟩

set_option maxRecDepth 100000 in
set_option maxHeartbeats 2000000 in
theorem divide_any (x y : Value) (b c : Bool) (m n k l p q : Nat) (w : World) (hx : RatIs w x b m n p) (hy : RatIs w y c k l q) (hn : 0 < n) (hk : 0 < k) (hl : 0 < l) (hp : p ≤ 400) (hq : q ≤ 400) :
    Calls Tryz.prog 141 #[x, y] w (QPost w (Fr.num b m n / Fr.num c k l) (p + q)) := by
  obtain ⟨u1, v1, rfl, hu1, hv1⟩ := hx
  obtain ⟨u2, v2, rfl, hu2, hv2⟩ := hy
  obtain ⟨u1a, u1l, u1c, rfl⟩ := hu1.form
  obtain ⟨v1a, v1l, v1c, rfl⟩ := hv1.form
  obtain ⟨u2a, u2l, u2c, rfl⟩ := hu2.form
  obtain ⟨v2a, v2l, v2c, rfl⟩ := hv2.form
  have C1 := fun W (h : Below w.heap.size w W) => Lib.hid (times_nat (hu1.below h (Nat.le_refl _)) (hv2.below h (Nat.le_refl _)) (by omega) (by omega))
  have C2 := fun W (h : Below w.heap.size w W) => Lib.hid (times_nat (hv1.below h (Nat.le_refl _)) (hu2.below h (Nat.le_refl _)) (by omega) (by omega))
  clear hu1 hv1 hu2 hv2
  have hb0 : ∀ o1 o2 o3, Below w.heap.size w (((w.alloc o1).alloc o2).alloc o3).drew := fun o1 o2 o3 => ((((Below.refl _ _).alloc (Nat.le_refl _) _).alloc (by simp) _).alloc (by simp; omega) _).drew
  go_enter Tryz.func141, Tryz.ntmps141
  go_wp2_with fail
  go_region_held3 (fun W => W.cell? ⟨w.heap.size, 0, none⟩ = some (.bool b) ∧ W.cell? ⟨w.heap.size, 1, none⟩ = some (.slice u1a u1l u1c) ∧ W.cell? ⟨w.heap.size, 2, none⟩ = some (.slice v1a v1l v1c) ∧
      W.cell? ⟨w.heap.size + 1, 0, none⟩ = some (.bool c) ∧ W.cell? ⟨w.heap.size + 1, 1, none⟩ = some (.slice u2a u2l u2c) ∧ W.cell? ⟨w.heap.size + 1, 2, none⟩ = some (.slice v2a v2l v2c))
    (first
      | (go_split_ands; refine ⟨?_, ?_, ?_, ?_, ?_, ?_⟩ <;> (rw [hb2.cell (by simp <;> omega)]; assumption))
      | (go_split_ands; refine ⟨?_, ?_, ?_, ?_, ?_, ?_⟩ <;> (rw [hb1.cell (by simp <;> omega)]; assumption))
      | (go_split_ands; refine ⟨?_, ?_, ?_, ?_, ?_, ?_⟩ <;> (rw [set3 _ _ _ _ (by omega)]; assumption))
      | go_keep)
    (first
      | (go_at_call 153; (with_reducible refine ((C1 _ (hb0 _ _ _)).out).mono ?_); rintro e w1 ⟨r1, rfl, hb1, hr1, hg1⟩; have hB1 := (hb0 _ _ _).trans (hb1.mono (by simp <;> omega)); have hF1 := (fresh_new _ _ _ _).below hb1; have hs1 := hF1.1)
      | (go_at_call 153; (with_reducible refine ((C2 _ (hb0 _ _ _)).out).mono ?_); rintro e w1 ⟨r1, rfl, hb1, hr1, hg1⟩; have hB1 := (hb0 _ _ _).trans (hb1.mono (by simp <;> omega)); have hF1 := (fresh_new _ _ _ _).below hb1; have hs1 := hF1.1)
      | (go_at_call 153; (with_reducible refine ((C1 _ hB1).out).mono ?_); rintro e w2 ⟨r2, rfl, hb2, hr2, hg2⟩; obtain ⟨r1a, r1l, r1c, rfl⟩ := hr1.form; obtain ⟨r2a, r2l, r2c, rfl⟩ := hr2.form; have hF2 := hF1.below hb2; obtain ⟨q0, q1, q2, q3, q4, q5, q6⟩ := hF2)
      | (go_at_call 153; (with_reducible refine ((C2 _ hB1).out).mono ?_); rintro e w2 ⟨r2, rfl, hb2, hr2, hg2⟩; obtain ⟨r1a, r1l, r1c, rfl⟩ := hr1.form; obtain ⟨r2a, r2l, r2c, rfl⟩ := hr2.form; have hF2 := hF1.below hb2; obtain ⟨q0, q1, q2, q3, q4, q5, q6⟩ := hF2))
  go_wp2
  have hB2 := hB1.trans (hb2.mono hB1.size)
  have hfin := ((hB2.setCell (p := ⟨w.heap.size + 1 + 1, 0, none⟩) (by simp; omega) (.bool !(b == c))).setCell (p := ⟨w.heap.size + 1 + 1, 1, none⟩) (by simp; omega) (.slice r1a r1l r1c)).setCell (p := ⟨w.heap.size + 1 + 1, 2, none⟩) (by simp; omega) (.slice r2a r2l r2c)
  have g1 : (Value.slice r1a r1l r1c).ownBlock ≠ some (w.heap.size + 1 + 1) := by rw [hg1]; intro e; have := Option.some.inj e; simp at this
  have g2 : (Value.slice r2a r2l r2c).ownBlock ≠ some (w.heap.size + 1 + 1) := by rw [hg2]; intro e; have := Option.some.inj e; omega
  exact bodyPost_ret (v := .agg #[.bool !(b == c), .slice r1a r1l r1c, .slice r2a r2l r2c]) (by simp [results, Tryz.results141, go_sem, q1, q2, q3]) rfl ⟨_, rfl, hfin, ⟨_, _, _, ⟨_, _, rfl, (((hr1.below hb2 (Nat.le_refl _)).put g1 _).put g1 _).put g1 _, ((hr2.put g2 _).put g2 _).put g2 _⟩, Nat.mul_pos hn hk, Fr.num_div b c m n k l hk hl⟩, Newer.mk hg1 hg2 (by simp; omega) (by omega)⟩

end Go.Proofs.YtldclpdmcopgnaaGreatDoor

