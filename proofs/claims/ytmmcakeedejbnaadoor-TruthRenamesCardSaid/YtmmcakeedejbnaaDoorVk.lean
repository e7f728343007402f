/- The call of the statement TruthRenames. -/
import Derived.Test.YtmmcakeedejbnaaDoorVi
import Derived.Test.YtmmcakeedejbnaaDoorUz
namespace Go.Proofs.YtmmcakeedejbnaaDoor
open Go.RowKit

set_option maxRecDepth 100000 in
set_option maxHeartbeats 4000000 in
theorem lawRenames_any (n : Int) (b : Nat) (os : List Int) (v : Value) (w : World) (hst : St w) (hb : b < 2 ^ 64) (hs : SeesI w v os) :
    Calls Tryd.prog 6 #[.agg #[.int .i64 n, .int .u64 b], v] w fun e w' => e = .returned (.bool true) ∧ Below w.heap.size w w' := by
  have HST := Lib.hid hst
  clear hst
  have C1 := fun W h hS => Lib.hid (tRename_any n b os v W hb h hS)
  have C2 := fun W hS => Lib.hid (rRename_any n b os v W hb hS)
  generalize renV n b os = r1 at *
  obtain ⟨⟨x1, y1⟩, z1⟩ := r1
  simp only [] at C1 C2
  have HS := Lib.hid (fun (W : World) (hW : Below w.heap.size w W) => hs.below hW (Nat.le_refl _))
  obtain ⟨ao, cap, rfl, hc1, hc2, hC⟩ := hs
  clear hC hb
  generalize os.length = l at *
  obtain ⟨P0, L0, z0⟩ := tab1_new w n b 24
  by_cases hl : l ≤ 100
  · go_enter Tryd.func6, Tryd.ntmps6
    go_wp2_with fail
    refine ((C1 _ (HST.out.next L0) (HS.out _ L0)).out).mono ?_
    rintro e w1 ⟨rfl, hb⟩
    have hz := hb.size
    have V1 := P0.below (by simp <;> omega) hb
    have hB := L0.trans (hb.mono (by simp <;> omega))
    clear hb P0 L0
    have n1_1 : w.heap.size < w1.heap.size := V1.1
    obtain ⟨a10, a11, a12, a13, a14⟩ := id V1
    have H1 := Lib.hid V1
    clear V1
    have hE := hB.alloc hB.size (.cells #[.int .i64 x1, .int .u64 y1] 24)
    go_wp2_with fail
    refine ((C2 _ (HS.out _ hE)).out).mono ?_
    rintro e w2 ⟨rfl, hb⟩
    have V1 := H1.out.box hb
    have V2 := tabI_box hb
    have hB' := below_nxtb hB hb
    clear hb hB a10 a11 a12 a13 a14 H1
    have hB := hB'
    clear hB'
    have n2_1 : w.heap.size < w2.heap.size := V1.1
    have n2_2 : w1.heap.size < w2.heap.size := V2.1
    obtain ⟨a10, a11, a12, a13, a14⟩ := id V1
    obtain ⟨a20, a21, a22, a23, a24⟩ := id V2
    have H1 := Lib.hid V1
    have H2 := Lib.hid V2
    clear V1 V2
    clear hE
    go_wp2_with fail
    have hE := hB.alloc hB.size (.cells #[.int .i64 x1, .int .u64 y1] 24)
    refine (awake_any _ (HST.out.next hE)).mono ?_
    rintro e wz ⟨rfl, hb⟩
    have hF := below_nxt hE hb
    go_wp2
    go_ret
    exact ⟨rfl, hF⟩
  · go_enter Tryd.func6, Tryd.ntmps6
    go_wp2_with fail
    refine (awake_any _ (HST.out.next L0)).mono ?_
    rintro e wz ⟨rfl, hb⟩
    have hF := below_nxt L0 hb
    go_wp2
    go_ret
    exact ⟨rfl, hF⟩
end Go.Proofs.YtmmcakeedejbnaaDoor
