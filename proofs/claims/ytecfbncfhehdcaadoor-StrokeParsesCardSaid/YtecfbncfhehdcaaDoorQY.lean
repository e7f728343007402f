/- The examples of the chapter, as plain facts. -/
import Derived.Test.YtecfbncfhehdcaaDoorQW
import Derived.Test.YtecfbncfhehdcaaDoorQX
namespace Sk
open Go
/-- The texts of the examples, where they fail, and how. -/
def exs : List (ByteArray × Int × Int) := [(⟨#[65, 43, 59, 32, 66, 43, 32, 65, 43]⟩, 4, 9), (⟨#[65, 43, 32, 65, 45]⟩, 0, 7), (⟨#[65, 43, 59, 66, 43]⟩, 0, 4), (⟨#[65, 43, 59, 32]⟩, 4, 4), (⟨#[65, 43, 32, 48]⟩, 0, 4), (⟨#[71, 43]⟩, 0, 4)]
def ex0 : ByteArray × Int × Int := (⟨#[]⟩, 0, 0)
theorem exs_all : ∀ i, i < 6 → parV (exs.getD i ex0).1.data.toList = ([], (exs.getD i ex0).2.1, (exs.getD i ex0).2.2) := by
  intro i hi
  rcases (show i = 0 ∨ i = 1 ∨ i = 2 ∨ i = 3 ∨ i = 4 ∨ i = 5 by omega) with rfl | rfl | rfl | rfl | rfl | rfl <;> kernel_rfl
theorem par_one : ∃ L, parV (ByteArray.mk #[65, 43, 59, 32, 66, 43, 32, 67, 43, 59, 32, 65, 45]).data.toList = (L, 0, 0) ∧ L.length = 3 := by
  refine ⟨[([(0, true)], 0), ([(1, true), (2, true)], 0), ([(0, false)], 0)], ?_, rfl⟩
  kernel_rfl
theorem fmt_one : fmtV [([(0, true), (1, false)], 200)] = ([65, 43, 32, 66, 45, 32, 50, 48, 48], 0) := by kernel_rfl
theorem app_one : appV [(0, true), (1, false)] 200 [false, true] = ([true, false], 0) := by kernel_rfl
end Sk

