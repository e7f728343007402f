/- descend and Path of package digraph. -/
import Derived.Test.YtkjhockppkdakaaDl
namespace Dg
/-- The edges turned round. -/
def rv (es : List (Nat × Nat)) : List (Nat × Nat) := es.map fun e => (e.2, e.1)
theorem rv_mem {es : List (Nat × Nat)} {a b : Nat} : (a, b) ∈ rv es ↔ (b, a) ∈ es := by
  unfold rv
  rw [List.mem_map]
  constructor
  · rintro ⟨⟨x, y⟩, h, e⟩
    simp only [Prod.mk.injEq] at e
    obtain ⟨rfl, rfl⟩ := e; exact h
  · intro h; exact ⟨(b, a), h, rfl⟩
theorem rv_ok {n : Nat} {es : List (Nat × Nat)} (h : Ok n es) : Ok n (rv es) := fun e he => by
  obtain ⟨a, b⟩ := e
  have := h _ (rv_mem.1 he)
  exact ⟨this.2, this.1⟩
theorem rv_len (es : List (Nat × Nat)) : (rv es).length = es.length := by simp [rv]
theorem swp_cst (es : List (Nat × Nat)) : swp (cst es) = cst (rv es) := by simp [swp, cst, rv]
section
variable (n : Nat) (es : List (Nat × Nat)) (t : Nat)
/-- How far it is from a vertex to t. -/
def dt (v : Nat) : Int := dist n (rv es) t v
/-- The next vertex on the way to t. -/
def nx (v : Nat) : Nat := (near (distL n (rv es) t) (nb es v)).1.toNat
def it (v : Nat) : Nat → Nat
  | 0 => v
  | j + 1 => nx n es t (it v j)
def pth (v k : Nat) : List Nat := (List.range (k + 1)).map (it n es t v)
end
theorem pth_succ (n : Nat) (es : List (Nat × Nat)) (t v k : Nat) : pth n es t v (k + 1) = pth n es t v k ++ [it n es t v (k + 1)] := by
  unfold pth; rw [List.range_succ, List.map_append]; rfl
theorem pth_len (n : Nat) (es : List (Nat × Nat)) (t v k : Nat) : (pth n es t v k).length = k + 1 := by simp [pth]
theorem nb_sorted (es : List (Nat × Nat)) (v : Nat) : (nb es v).Pairwise (· ≤ ·) := by
  have := List.pairwise_mergeSort (le := fun x y : Int => decide (x ≤ y)) (by simp; omega) (by simp; omega) (ci (adj es v))
  exact this.imp (by simp)
theorem nb_ok {n : Nat} {es : List (Nat × Nat)} (h : Ok n es) (v : Nat) : ∀ x ∈ nb es v, ∃ u : Nat, x = u ∧ u < n := fun x hx => by
  obtain ⟨u, rfl, hu⟩ := nb_mem.1 hx
  exact ⟨u, rfl, (h _ hu).2⟩
section
variable {n : Nat} {es : List (Nat × Nat)} {t : Nat} (hE : Ok n es) (ht : t < n)
include hE ht
theorem dt_edge {v u : Nat} (h : (v, u) ∈ es) (hu : 0 ≤ dt n es t u) : 0 ≤ dt n es t v ∧ dt n es t v ≤ dt n es t u + 1 := dist_edge (rv_ok hE) ht (rv_mem.2 h) hu
theorem dt_next {v k : Nat} (h : dt n es t v = (k : Int) + 1) : ∃ u, (v, u) ∈ es ∧ dt n es t u = k := by
  obtain ⟨u, h1, h2⟩ := dist_pred (rv_ok hE) ht h
  exact ⟨u, rv_mem.1 h1, h2⟩
omit ht in
/-- What nearest finds among the neighbours of a vertex. -/
theorem near_ok (v : Nat) : (near (distL n (rv es) t) (nb es v)).2 = true → (v, nx n es t v) ∈ es ∧ nx n es t v < n ∧ (near (distL n (rv es) t) (nb es v)).1 = (nx n es t v : Int) ∧ 0 ≤ dt n es t (nx n es t v) ∧ (∀ u, (v, u) ∈ es → 0 ≤ dt n es t u → dt n es t (nx n es t v) ≤ dt n es t u) ∧ (∀ u, (v, u) ∈ es → dt n es t u = dt n es t (nx n es t v) → nx n es t v ≤ u) := by
  intro h
  have hr := near_nr (distL n (rv es) t) (nb es v) _ (Nat.le_refl _)
  have hf := near_first (distL n (rv es) t) (nb es v) (nb_sorted es v) _ (Nat.le_refl _)
  rw [List.take_length] at hr hf
  obtain ⟨hm, hne⟩ := hr.mem h
  obtain ⟨u, hu, hue⟩ := nb_mem.1 hm
  have hun : u < n := (hE _ hue).2
  have hx : nx n es t v = u := by unfold nx; rw [hu, Int.toNat_natCast]
  have hl := hr.least h
  have hf := hf h
  rw [hu, Int.toNat_natCast] at hne hl hf
  rw [distL_at hun] at hne hl hf
  have hg := dist_ge (n := n) (E := rv es) (s := t) (v := u)
  rw [hx]
  refine ⟨hue, hun, hu, by unfold dt; omega, fun y hy hy0 => ?_, fun y hy he => ?_⟩
  · have := hl (y : Int) (nb_mem.2 ⟨y, rfl, hy⟩)
    have hyn : y < n := (hE _ hy).2
    rw [Int.toNat_natCast, distL_at hyn] at this
    refine this ?_
    unfold dt at hy0
    omega
  · have := hf (y : Int) (nb_mem.2 ⟨y, rfl, hy⟩)
    have hyn : y < n := (hE _ hy).2
    rw [Int.toNat_natCast, distL_at hyn] at this
    have := this he
    omega
omit ht in
theorem near_none {v : Nat} (h : (near (distL n (rv es) t) (nb es v)).2 = false) : ∀ u, (v, u) ∈ es → dt n es t u = -1 := fun u hu => by
  have hr := near_nr (distL n (rv es) t) (nb es v) _ (Nat.le_refl _)
  rw [List.take_length] at hr
  have := hr.none h (u : Int) (nb_mem.2 ⟨u, rfl, hu⟩)
  rwa [Int.toNat_natCast, distL_at (hE _ hu).2] at this
theorem nx_ok {v k : Nat} (h : dt n es t v = (k : Int) + 1) : (v, nx n es t v) ∈ es ∧ nx n es t v < n ∧ (near (distL n (rv es) t) (nb es v)).1 = (nx n es t v : Int) ∧ dt n es t (nx n es t v) = k ∧ (∀ u, (v, u) ∈ es → dt n es t u = k → nx n es t v ≤ u) := by
  obtain ⟨u, hu, hd⟩ := dt_next hE ht h
  have hs : (near (distL n (rv es) t) (nb es v)).2 = true := by
    cases hh : (near (distL n (rv es) t) (nb es v)).2
    · have := near_none hE hh u hu; omega
    · rfl
  obtain ⟨h1, h2, h3, h4, h5, h6⟩ := near_ok hE v hs
  have h7 := h5 u hu (by omega)
  have h8 := dt_edge hE ht h1 h4
  have h9 : dt n es t (nx n es t v) = k := by omega
  exact ⟨h1, h2, h3, h9, fun y hy he => h6 y hy (by omega)⟩
theorem it_ok {v k : Nat} (hv : v < n) (h : dt n es t v = k) : ∀ j, j ≤ k → it n es t v j < n ∧ dt n es t (it n es t v j) = ((k - j : Nat) : Int)
  | 0, _ => ⟨hv, h⟩
  | j + 1, hj => by
    obtain ⟨h1, h2⟩ := it_ok hv h j (by omega)
    obtain ⟨_, h4, _, h6, _⟩ := nx_ok hE ht (v := it n es t v j) (k := k - (j + 1)) (by omega)
    exact ⟨h4, h6⟩
end
end Dg
namespace Go.Proofs.Ytkjhockppkdakaa
open Go.RowKit Go.Shelf

set_option maxHeartbeats 4000000 in
set_option maxRecDepth 100000 in
theorem dDesc_any (n : Nat) (es : List (Nat × Nat)) (t v k : Nat) (nv lv : Value) (w : World) (hE : Dg.Ok n es) (ht : t < n) (hn : n ≤ 256) (hv : v < n) (hk : Dg.dt n es t v = k) (hN : SeesL w nv (Dg.nbL n es)) (hL : SeesI w lv (Dg.distL n (Dg.rv es) t)) :
    Calls Try.prog 51 #[nv, lv, .int .i64 v] w fun e w' => ∃ u, e = .returned u ∧ RowI w.heap.size 3 w' u (Dg.ci (Dg.pth n es t v k)) ∧ Below w.heap.size w w' := by
  obtain ⟨i0, hi0, hz0, hz1, hz2⟩ := info_int
  have hkn : k < n := by
    have := Dg.dist_lt (n := n) (E := Dg.rv es) (s := t) ht (v := v)
    unfold Dg.dt at hk; omega
  have HIT := Lib.hid (Dg.it_ok hE ht hv hk)
  have HL := Lib.hid hL
  obtain ⟨N, cap, rfl, hcap1, hcap2, hNlt, hNc⟩ := hN
  rw [Dg.nbL_len] at *
  have HNC := Lib.hid hNc
  obtain ⟨al, cl, rfl, hl1, hl2, hCl⟩ := hL.opened
  rw [Dg.distL_len] at *
  have HNX := Lib.hid (fun (u k : Nat) (h : Dg.dt n es t u = (k : Int) + 1) => Dg.nx_ok hE ht h)
  have CN := fun u (hu : u < n) uv W h1 h2 => Lib.hid (dNear_any n (Dg.nb es u) (Dg.distL n (Dg.rv es) t) uv (.slice al n cl) W hn (Dg.nb_ok hE u) Dg.distL_len (fun x hx => by rw [Dg.distL_at hx]; exact Dg.dist_ge) h1 h2)
  have R0 := RowI.one w.heap.size 3 w (Nat.le_refl _) (v : Int)
  have L0 : Below w.heap.size w (w.alloc (.cells #[.int .i64 (v : Int)] 3)) := (Below.refl _ _).alloc (Nat.le_refl _) _
  have HPS := Lib.hid (fun j => Dg.pth_succ n es t v j)
  have HPL := Lib.hid (fun j => Dg.pth_len n es t v j)
  have HP0 : Hid (Dg.pth n es t v 0 = [v]) := Lib.hid rfl
  have HI0 : Hid (Dg.it n es t v 0 = v) := Lib.hid rfl
  have HIS : Hid (∀ j, Dg.it n es t v (j + 1) = Dg.nx n es t (Dg.it n es t v j)) := Lib.hid (fun _ => rfl)
  have HDL := Lib.hid (fun x (hx : x < n) => show (Dg.distL n (Dg.rv es) t).getD x 0 = Dg.dt n es t x from Dg.distL_at hx)
  clear hNc hL hE hk
  go_enter Try.func51, Try.ntmps51
  go_wp2
  go_loopw [7, 8] (fun s7 s8 wr => ∃ j : Nat, j ≤ k ∧ s8 = .int .i64 (Dg.it n es t v j : Nat) ∧ RowI w.heap.size 3 wr s7 (Dg.ci (Dg.pth n es t v j)) ∧ Hid (Below w.heap.size w wr)) (fun _ s8 _ => ((Dg.distL n (Dg.rv es) t).getD (intOf s8).toNat 0).toNat)
  case atStart => exact ⟨0, Nat.zero_le _, by rw [HI0.out], by rw [HP0.out]; exact R0, Lib.hid L0⟩
  case round =>
    clear R0 L0 HP0 HI0
    obtain ⟨j, hj, rfl, hrow, HB⟩ := hrel
    obtain ⟨ra, rc, rfl⟩ := hrow.form
    obtain ⟨hin, hid⟩ := HIT.out j hj
    have RW := Lib.hid hrow
    obtain ⟨bl, ol, rfl, hbl, l1⟩ := hCl.at HB.out (i := Dg.it n es t v j) (by rw [Dg.distL_len]; exact hin)
    rw [HDL.out _ hin, hid] at l1
    have hmea : ((Dg.distL n (Dg.rv es) t).getD (Dg.it n es t v j) 0).toNat = k - j := by rw [HDL.out _ hin, hid, Int.toNat_natCast]
    by_cases hjk : j < k
    · obtain ⟨h1, h2, h3, h4, -⟩ := HNX.out (Dg.it n es t v j) (k - (j + 1)) (by rw [hid]; omega)
      have CNj := CN _ hin
      have HISj := Lib.hid (HIS.out j)
      have HPSj := Lib.hid (HPS.out j)
      have hpl : (Dg.ci (Dg.pth n es t v j)).length ≤ 256 := by rw [Dg.ci_len, HPL.out j]; omega
      obtain ⟨uv, n1, n2⟩ := HNC.out _ hin
      rw [Dg.nbL_at es hin] at n2
      have n3 := (HB.out.cell (p := ⟨N, Dg.it n es t v j, none⟩) hNlt).trans n1
      have HN2 := Lib.hid n2
      have hmea2 : ((Dg.distL n (Dg.rv es) t).getD (Dg.nx n es t (Dg.it n es t v j)) 0).toNat = k - (j + 1) := by rw [HDL.out _ h2, h4, Int.toNat_natCast]
      rw [h3] at CNj
      have hpos : (0 : Int) < ((k - j : Nat) : Int) := by omega
      rw [HISj.out] at HPSj
      have HM1 := Lib.hid hmea
      have HM2 := Lib.hid hmea2
      clear CN HIT HNX HPS HPL HIS HDL HNC hrow hid h1 h3 h4 n1 n2 hmea hmea2 hCl
      generalize Dg.nx n es t (Dg.it n es t v j) = y at *
      generalize (Dg.near (Dg.distL n (Dg.rv es) t) (Dg.nb es (Dg.it n es t v j))).2 = fd at *
      generalize hq : Dg.it n es t v j = x at *
      go_wp2_with fail
      refine ((CNj uv wr (HN2.out.step HB.out) (HL.out.step HB.out)).out).mono ?_
      rintro e w3 ⟨rfl, hb⟩
      have HB3 := Lib.hid (below_nxt HB.out hb)
      have R3 := Lib.hid (RW.out.step hb)
      have hz3 := HB3.out.size
      clear hb CNj
      go_wp2_with (at_builtin; refine wpList_append_int rfl _ _ 27 rfl 3 i0 Try.underlying27 hi0 hz0 hz1 hz2 _ _ (Dg.ci (Dg.pth n es t v j)) [(y : Int)] rfl rfl w.heap.size (R3.out.step ((Below.refl _ _).alloc (Nat.le_refl _) _)) (SeesI.one _ _ _) (by simp; omega) (by simp; omega) ?_; intro a5 p5 w5 hr5 hg5 ho5; have hb5 := RowI.belowOwn (C := w.heap.size) (R3.out.step ((Below.refl _ _).alloc (Nat.le_refl _) _)) hg5 (by simp; omega) (Nat.le_refl _); have HB5 := Lib.hid ((HB3.out.alloc HB3.out.size (.cells #[.int .i64 (y : Int)] 3)).trans hb5); have HR5 := Lib.hid hr5; clear hr5 hg5 ho5 hb5)
      exact ⟨⟨j + 1, by omega, by rw [HISj.out], by rw [HPSj.out, Dg.ci_append]; exact HR5.out, HB5⟩, by
        show ((Dg.distL n (Dg.rv es) t).getD ((y : Int)).toNat 0).toNat < ((Dg.distL n (Dg.rv es) t).getD ((x : Int)).toNat 0).toNat
        rw [Int.toNat_natCast, Int.toNat_natCast, HM1.out, HM2.out]
        omega⟩
    · obtain rfl : j = k := by omega
      have hpos : ¬ (0 : Int) < ((j - j : Nat) : Int) := by omega
      clear hrow
      go_wp2
      exact bodyPost_ret (v := .slice ra (Dg.ci (Dg.pth n es t v j)).length rc) (by simp [results, Try.results51, go_sem]) rfl ⟨_, rfl, RW.out, HB.out⟩
end Go.Proofs.Ytkjhockppkdakaa
