/- own of the statements: passes as those of the reference. -/
import Derived.Test.YthjkcncfppndkaaDoorGK
import Derived.Lib.OwnBridge
namespace Go.Proofs.YthjkcncfppndkaaDoor
open Go.RowKit
theorem own_end {wr W w3 : World} {v3 : Value} {t : ByteArray} {f : List ByteArray} {a : Bool} {u : Value} (hL : Below wr.heap.size wr W) (hS : SeeS wr u f) (r1 : w3.ownsRow wr.heap.size 78 3 v3 (0 + 1) ([] ++ [.string t, u, .bool a])) (r2 : W.grownBy w3 (Value.slice none 0 0).ownBlock) :
    SeeQ w3 v3 (some (t, f, a)) ∧ Below wr.heap.size wr w3 := by
  have hb : Below wr.heap.size wr w3 := hL.trans ((Below.refl _ _).grown r2 hL.size (fun k hk => by cases hk))
  refine ⟨?_, hb⟩
  rcases id r1.2 with ⟨rfl, h0⟩ | ⟨g, cap, cur, rfl, h1, hg, -⟩
  · omega
  · have k0 := World.ownsRow.cellAt r1 0 (by omega)
    have k1 := World.ownsRow.cellAt r1 1 (by omega)
    have k2 := World.ownsRow.cellAt r1 2 (by omega)
    exact ⟨g, u, cap, rfl, (Array.getElem?_eq_some_iff.1 hg).1, k0, k1, k2, hS.step hb⟩
set_option maxHeartbeats 4000000 in
set_option maxRecDepth 100000 in
theorem own_any (v : Value) (o : Option (ByteArray × List ByteArray × Bool)) (w : World) (h : SeeP w v o) : Calls Tryd.prog 31 #[v] w fun e w' => ∃ v', e = .returned v' ∧ SeeQ w' v' o ∧ Below w.heap.size w w' := by
  match o, h with
  | none, h =>
    obtain rfl := h
    go_enter Tryd.func31, Tryd.ntmps31
    go_wp2
    go_loopw [3, 8] (fun s3 s8 wr => s8 = .int .i64 0 ∧ s3 = .slice none 0 0 ∧ wr = w) (fun _ _ _ => 0)
    case atStart => exact ⟨rfl, rfl, rfl⟩
    case round =>
      obtain ⟨rfl, rfl, rfl⟩ := hrel
      go_wp2
      go_ret
      exact ⟨_, rfl, rfl, Below.refl _ _⟩
  | some (t, f, a), h =>
    obtain ⟨i0, hi0, hz0, hz1, hz2⟩ := info_pass
    obtain ⟨g, u, rfl, hg, p1, p2, p3, p4⟩ := h
    obtain ⟨ua, un, uc, rfl⟩ := p4.form
    have HS := Lib.hid p4
    have HG := Lib.hid hg
    clear p4 hg
    go_enter Tryd.func31, Tryd.ntmps31
    go_wp2
    go_loopw [3, 8] (fun s3 s8 wr => (s8 = .int .i64 0 ∧ s3 = .slice none 0 0 ∧ wr = w) ∨ (s8 = .int .i64 1 ∧ Hid (SeeQ wr s3 (some (t, f, a)) ∧ Below w.heap.size w wr))) (fun _ s8 _ => 1 - (intOf s8).toNat)
    case atStart => exact .inl ⟨rfl, rfl, rfl⟩
    case round =>
      rcases hrel with ⟨rfl, rfl, rfl⟩ | ⟨rfl, HQ⟩
      · have hn : ∀ (B : Nat) (W : World), W.ownsRow B 78 3 (.slice none 0 0) 0 [] := fun B W => World.ownsRow_nil _ _ _ _
        have L1 : Below wr.heap.size wr (wr.alloc (.cells #[.string t, .slice ua un uc, .bool a] 75)) := (Below.refl _ _).alloc (Nat.le_refl _) _
        have L2 : Below wr.heap.size wr ((wr.alloc (.cells #[.string t, .slice ua un uc, .bool a] 75)).alloc (.cells #[.string t, .slice ua un uc, .bool a] 78)) := L1.alloc (by simp) _
        have HL := Lib.hid L2
        have HN := Lib.hid hn
        have HP1 := Lib.hid (show ∀ j x, [.string t, .slice ua un uc, .bool a][j]? = some x → ((wr.alloc (.cells #[.string t, .slice ua un uc, .bool a] 75)).alloc (.cells #[.string t, .slice ua un uc, .bool a] 78)).cell? ((⟨wr.heap.size + 1, 0, none⟩ : Addr).add j) = some x from fun j x hj => by
          have hadd : (⟨wr.heap.size + 1, 0, none⟩ : Addr).add j = ⟨wr.heap.size + 1, j, none⟩ := by unfold Addr.add; split <;> simp_all
          rw [hadd]
          exact cell_new (by simp) (by simpa using hj))
        clear hn L1 L2
        go_wp2_with (at_builtin; (refine wpList_append_own _ rfl _ _ 51 rfl wr.heap.size 78 i0 (.agg #[.string ⟨#[]⟩, .slice none 0 0, .bool false]) 3 48 Tryd.underlying51 hi0 hz0 hz1 hz2 rfl (by omega) (.slice none 0 0) 0 [] rfl (HN.out _ _) ⟨wr.heap.size + 1, 0, none⟩ 1 1 [.string t, .slice ua un uc, .bool a] rfl rfl HP1.out (by intro x hx; simp at hx; rcases hx with rfl | rfl | rfl <;> rfl) (by unfold maxLen; omega) (by omega) (by simp <;> omega) ?_; intro v3 w3 r1 r2 _; have HQ := Lib.hid (own_end HL.out HS.out r1 r2); clear r1 r2 HL HS HN HP1))
        exact ⟨.inr ⟨rfl, HQ⟩, by simp [intOf]⟩
      · go_wp2
        go_ret
        exact ⟨_, rfl, HQ.out.1, HQ.out.2⟩
end Go.Proofs.YthjkcncfppndkaaDoor
