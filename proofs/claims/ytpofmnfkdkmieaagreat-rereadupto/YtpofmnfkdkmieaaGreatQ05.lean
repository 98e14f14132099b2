/- What is proved here: what the program's own tables say of its types: the place of a field, the number of a type's cells, a slice's elements. Made by a script; each fact is reckoned by the kernel. -/
import Derived.Test.YtpofmnfkdkmieaaGreatProg
import Derived.Test.YtpofmnfkdkmieaaGreatQ03
set_option linter.unusedVariables false
set_option linter.unusedSimpArgs false
namespace Go.Proofs.YtpofmnfkdkmieaaGreat.E
open Go Go.RowKit

def fTab : List (Nat × Nat × Nat) := [(24, 0, 0), (24, 1, 1), (24, 2, 2), (24, 3, 3), (25, 0, 0), (25, 1, 1), (25, 2, 2), (25, 3, 3), (37, 0, 0), (37, 1, 1), (37, 2, 2), (37, 3, 3), (37, 4, 4), (37, 5, 5), (37, 6, 6), (37, 7, 7), (37, 8, 8), (37, 9, 9), (38, 0, 0), (38, 1, 1), (38, 2, 2), (38, 3, 3), (38, 4, 4), (38, 5, 5), (38, 6, 6), (38, 7, 7), (38, 8, 8), (38, 9, 9), (39, 0, 0), (40, 0, 0), (70, 0, 0), (70, 1, 1), (71, 0, 0), (71, 1, 1), (72, 0, 0), (72, 1, 1), (72, 2, 2), (72, 3, 3), (73, 0, 0), (73, 1, 1), (73, 2, 2), (73, 3, 3), (74, 0, 0), (74, 1, 1), (74, 2, 2), (75, 0, 0), (75, 1, 1), (75, 2, 2), (88, 0, 0), (88, 1, 1), (89, 0, 0), (89, 1, 1), (97, 0, 0), (97, 1, 1), (97, 2, 2), (98, 0, 0), (98, 1, 1), (98, 2, 2), (127, 0, 0), (127, 1, 1), (127, 2, 2), (128, 0, 0), (128, 1, 1), (128, 2, 2), (133, 0, 0), (133, 1, 1), (133, 2, 2), (133, 3, 3), (133, 4, 5), (133, 5, 6), (133, 6, 7), (133, 7, 8), (133, 8, 9), (134, 0, 0), (134, 1, 1), (134, 2, 2), (134, 3, 3), (134, 4, 5), (134, 5, 6), (134, 6, 7), (134, 7, 8), (134, 8, 9), (135, 0, 0), (135, 1, 1), (136, 0, 0), (136, 1, 1), (142, 0, 0), (142, 1, 1), (143, 0, 0), (143, 1, 1), (168, 0, 0), (168, 1, 1), (168, 2, 2), (168, 3, 3), (169, 0, 0), (169, 1, 1), (169, 2, 2), (169, 3, 3), (175, 0, 0), (175, 1, 1), (175, 2, 2), (176, 0, 0), (176, 1, 1), (176, 2, 2), (184, 0, 0), (184, 1, 1), (184, 2, 2), (185, 0, 0), (185, 1, 1), (185, 2, 2), (200, 0, 0), (200, 1, 1), (201, 0, 0), (201, 1, 1), (202, 0, 0), (202, 1, 4), (202, 2, 5), (202, 3, 6), (202, 4, 16), (202, 5, 17), (202, 6, 19), (203, 0, 0), (203, 1, 4), (203, 2, 5), (203, 3, 6), (203, 4, 16), (203, 5, 17), (203, 6, 19), (207, 0, 0), (207, 1, 4), (207, 2, 14), (207, 3, 15), (207, 4, 16), (207, 5, 17), (207, 6, 18), (208, 0, 0), (208, 1, 4), (208, 2, 14), (208, 3, 15), (208, 4, 16), (208, 5, 17), (208, 6, 18), (225, 0, 0), (226, 0, 0), (232, 0, 0), (233, 0, 0), (263, 0, 0), (263, 1, 1), (263, 2, 2), (263, 3, 3), (264, 0, 0), (264, 1, 1), (264, 2, 2), (264, 3, 3)]
theorem fTab_ok : ∀ e ∈ fTab, FF Tryz.prog e.1 e.2.1 e.2.2 := by
  simp only [fTab, List.forall_mem_cons]
  refine ⟨?_, ?_, ?_, ?_, ?_, ?_, ?_, ?_, ?_, ?_, ?_, ?_, ?_, ?_, ?_, ?_, ?_, ?_, ?_, ?_, ?_, ?_, ?_, ?_, ?_, ?_, ?_, ?_, ?_, ?_, ?_, ?_, ?_, ?_, ?_, ?_, ?_, ?_, ?_, ?_, ?_, ?_, ?_, ?_, ?_, ?_, ?_, ?_, ?_, ?_, ?_, ?_, ?_, ?_, ?_, ?_, ?_, ?_, ?_, ?_, ?_, ?_, ?_, ?_, ?_, ?_, ?_, ?_, ?_, ?_, ?_, ?_, ?_, ?_, ?_, ?_, ?_, ?_, ?_, ?_, ?_, ?_, ?_, ?_, ?_, ?_, ?_, ?_, ?_, ?_, ?_, ?_, ?_, ?_, ?_, ?_, ?_, ?_, ?_, ?_, ?_, ?_, ?_, ?_, ?_, ?_, ?_, ?_, ?_, ?_, ?_, ?_, ?_, ?_, ?_, ?_, ?_, ?_, ?_, ?_, ?_, ?_, ?_, ?_, ?_, ?_, ?_, ?_, ?_, ?_, ?_, ?_, ?_, ?_, ?_, ?_, ?_, ?_, ?_, ?_, ?_, ?_, ?_, ?_, ?_, ?_, ?_, ?_, ?_, ?_, ?_, ?_, ?_, ?_, List.forall_mem_nil _⟩
  · intro b off w; kernel_rfl
  · intro b off w; kernel_rfl
  · intro b off w; kernel_rfl
  · intro b off w; kernel_rfl
  · intro b off w; kernel_rfl
  · intro b off w; kernel_rfl
  · intro b off w; kernel_rfl
  · intro b off w; kernel_rfl
  · intro b off w; kernel_rfl
  · intro b off w; kernel_rfl
  · intro b off w; kernel_rfl
  · intro b off w; kernel_rfl
  · intro b off w; kernel_rfl
  · intro b off w; kernel_rfl
  · intro b off w; kernel_rfl
  · intro b off w; kernel_rfl
  · intro b off w; kernel_rfl
  · intro b off w; kernel_rfl
  · intro b off w; kernel_rfl
  · intro b off w; kernel_rfl
  · intro b off w; kernel_rfl
  · intro b off w; kernel_rfl
  · intro b off w; kernel_rfl
  · intro b off w; kernel_rfl
  · intro b off w; kernel_rfl
  · intro b off w; kernel_rfl
  · intro b off w; kernel_rfl
  · intro b off w; kernel_rfl
  · intro b off w; kernel_rfl
  · intro b off w; kernel_rfl
  · intro b off w; kernel_rfl
  · intro b off w; kernel_rfl
  · intro b off w; kernel_rfl
  · intro b off w; kernel_rfl
  · intro b off w; kernel_rfl
  · intro b off w; kernel_rfl
  · intro b off w; kernel_rfl
  · intro b off w; kernel_rfl
  · intro b off w; kernel_rfl
  · intro b off w; kernel_rfl
  · intro b off w; kernel_rfl
  · intro b off w; kernel_rfl
  · intro b off w; kernel_rfl
  · intro b off w; kernel_rfl
  · intro b off w; kernel_rfl
  · intro b off w; kernel_rfl
  · intro b off w; kernel_rfl
  · intro b off w; kernel_rfl
  · intro b off w; kernel_rfl
  · intro b off w; kernel_rfl
  · intro b off w; kernel_rfl
  · intro b off w; kernel_rfl
  · intro b off w; kernel_rfl
  · intro b off w; kernel_rfl
  · intro b off w; kernel_rfl
  · intro b off w; kernel_rfl
  · intro b off w; kernel_rfl
  · intro b off w; kernel_rfl
  · intro b off w; kernel_rfl
  · intro b off w; kernel_rfl
  · intro b off w; kernel_rfl
  · intro b off w; kernel_rfl
  · intro b off w; kernel_rfl
  · intro b off w; kernel_rfl
  · intro b off w; kernel_rfl
  · intro b off w; kernel_rfl
  · intro b off w; kernel_rfl
  · intro b off w; kernel_rfl
  · intro b off w; kernel_rfl
  · intro b off w; kernel_rfl
  · intro b off w; kernel_rfl
  · intro b off w; kernel_rfl
  · intro b off w; kernel_rfl
  · intro b off w; kernel_rfl
  · intro b off w; kernel_rfl
  · intro b off w; kernel_rfl
  · intro b off w; kernel_rfl
  · intro b off w; kernel_rfl
  · intro b off w; kernel_rfl
  · intro b off w; kernel_rfl
  · intro b off w; kernel_rfl
  · intro b off w; kernel_rfl
  · intro b off w; kernel_rfl
  · intro b off w; kernel_rfl
  · intro b off w; kernel_rfl
  · intro b off w; kernel_rfl
  · intro b off w; kernel_rfl
  · intro b off w; kernel_rfl
  · intro b off w; kernel_rfl
  · intro b off w; kernel_rfl
  · intro b off w; kernel_rfl
  · intro b off w; kernel_rfl
  · intro b off w; kernel_rfl
  · intro b off w; kernel_rfl
  · intro b off w; kernel_rfl
  · intro b off w; kernel_rfl
  · intro b off w; kernel_rfl
  · intro b off w; kernel_rfl
  · intro b off w; kernel_rfl
  · intro b off w; kernel_rfl
  · intro b off w; kernel_rfl
  · intro b off w; kernel_rfl
  · intro b off w; kernel_rfl
  · intro b off w; kernel_rfl
  · intro b off w; kernel_rfl
  · intro b off w; kernel_rfl
  · intro b off w; kernel_rfl
  · intro b off w; kernel_rfl
  · intro b off w; kernel_rfl
  · intro b off w; kernel_rfl
  · intro b off w; kernel_rfl
  · intro b off w; kernel_rfl
  · intro b off w; kernel_rfl
  · intro b off w; kernel_rfl
  · intro b off w; kernel_rfl
  · intro b off w; kernel_rfl
  · intro b off w; kernel_rfl
  · intro b off w; kernel_rfl
  · intro b off w; kernel_rfl
  · intro b off w; kernel_rfl
  · intro b off w; kernel_rfl
  · intro b off w; kernel_rfl
  · intro b off w; kernel_rfl
  · intro b off w; kernel_rfl
  · intro b off w; kernel_rfl
  · intro b off w; kernel_rfl
  · intro b off w; kernel_rfl
  · intro b off w; kernel_rfl
  · intro b off w; kernel_rfl
  · intro b off w; kernel_rfl
  · intro b off w; kernel_rfl
  · intro b off w; kernel_rfl
  · intro b off w; kernel_rfl
  · intro b off w; kernel_rfl
  · intro b off w; kernel_rfl
  · intro b off w; kernel_rfl
  · intro b off w; kernel_rfl
  · intro b off w; kernel_rfl
  · intro b off w; kernel_rfl
  · intro b off w; kernel_rfl
  · intro b off w; kernel_rfl
  · intro b off w; kernel_rfl
  · intro b off w; kernel_rfl
  · intro b off w; kernel_rfl
  · intro b off w; kernel_rfl
  · intro b off w; kernel_rfl
  · intro b off w; kernel_rfl
  · intro b off w; kernel_rfl
  · intro b off w; kernel_rfl
  · intro b off w; kernel_rfl
  · intro b off w; kernel_rfl
  · intro b off w; kernel_rfl
  · intro b off w; kernel_rfl
  · intro b off w; kernel_rfl
def oneTab : List (Nat) := [1, 2, 3, 4, 5, 9, 22, 23, 26, 27, 28, 29, 30, 31, 32, 33, 34, 35, 36, 47, 48, 51, 53, 54, 64, 69, 76, 92, 103, 119, 131, 132, 141, 159, 183, 186, 187, 197, 198, 206, 224, 229, 231, 252, 254, 259, 260, 266, 270, 271, 276, 293, 295, 310, 335, 362, 403, 412, 441, 448, 464, 468]
theorem oneTab_ok : ∀ e ∈ oneTab, T1 Tryz.prog e := by
  simp only [oneTab, List.forall_mem_cons]
  refine ⟨?_, ?_, ?_, ?_, ?_, ?_, ?_, ?_, ?_, ?_, ?_, ?_, ?_, ?_, ?_, ?_, ?_, ?_, ?_, ?_, ?_, ?_, ?_, ?_, ?_, ?_, ?_, ?_, ?_, ?_, ?_, ?_, ?_, ?_, ?_, ?_, ?_, ?_, ?_, ?_, ?_, ?_, ?_, ?_, ?_, ?_, ?_, ?_, ?_, ?_, ?_, ?_, ?_, ?_, ?_, ?_, ?_, ?_, ?_, ?_, ?_, ?_, List.forall_mem_nil _⟩
  · intro w; exact ⟨by kernel_rfl, by kernel_rfl⟩
  · intro w; exact ⟨by kernel_rfl, by kernel_rfl⟩
  · intro w; exact ⟨by kernel_rfl, by kernel_rfl⟩
  · intro w; exact ⟨by kernel_rfl, by kernel_rfl⟩
  · intro w; exact ⟨by kernel_rfl, by kernel_rfl⟩
  · intro w; exact ⟨by kernel_rfl, by kernel_rfl⟩
  · intro w; exact ⟨by kernel_rfl, by kernel_rfl⟩
  · intro w; exact ⟨by kernel_rfl, by kernel_rfl⟩
  · intro w; exact ⟨by kernel_rfl, by kernel_rfl⟩
  · intro w; exact ⟨by kernel_rfl, by kernel_rfl⟩
  · intro w; exact ⟨by kernel_rfl, by kernel_rfl⟩
  · intro w; exact ⟨by kernel_rfl, by kernel_rfl⟩
  · intro w; exact ⟨by kernel_rfl, by kernel_rfl⟩
  · intro w; exact ⟨by kernel_rfl, by kernel_rfl⟩
  · intro w; exact ⟨by kernel_rfl, by kernel_rfl⟩
  · intro w; exact ⟨by kernel_rfl, by kernel_rfl⟩
  · intro w; exact ⟨by kernel_rfl, by kernel_rfl⟩
  · intro w; exact ⟨by kernel_rfl, by kernel_rfl⟩
  · intro w; exact ⟨by kernel_rfl, by kernel_rfl⟩
  · intro w; exact ⟨by kernel_rfl, by kernel_rfl⟩
  · intro w; exact ⟨by kernel_rfl, by kernel_rfl⟩
  · intro w; exact ⟨by kernel_rfl, by kernel_rfl⟩
  · intro w; exact ⟨by kernel_rfl, by kernel_rfl⟩
  · intro w; exact ⟨by kernel_rfl, by kernel_rfl⟩
  · intro w; exact ⟨by kernel_rfl, by kernel_rfl⟩
  · intro w; exact ⟨by kernel_rfl, by kernel_rfl⟩
  · intro w; exact ⟨by kernel_rfl, by kernel_rfl⟩
  · intro w; exact ⟨by kernel_rfl, by kernel_rfl⟩
  · intro w; exact ⟨by kernel_rfl, by kernel_rfl⟩
  · intro w; exact ⟨by kernel_rfl, by kernel_rfl⟩
  · intro w; exact ⟨by kernel_rfl, by kernel_rfl⟩
  · intro w; exact ⟨by kernel_rfl, by kernel_rfl⟩
  · intro w; exact ⟨by kernel_rfl, by kernel_rfl⟩
  · intro w; exact ⟨by kernel_rfl, by kernel_rfl⟩
  · intro w; exact ⟨by kernel_rfl, by kernel_rfl⟩
  · intro w; exact ⟨by kernel_rfl, by kernel_rfl⟩
  · intro w; exact ⟨by kernel_rfl, by kernel_rfl⟩
  · intro w; exact ⟨by kernel_rfl, by kernel_rfl⟩
  · intro w; exact ⟨by kernel_rfl, by kernel_rfl⟩
  · intro w; exact ⟨by kernel_rfl, by kernel_rfl⟩
  · intro w; exact ⟨by kernel_rfl, by kernel_rfl⟩
  · intro w; exact ⟨by kernel_rfl, by kernel_rfl⟩
  · intro w; exact ⟨by kernel_rfl, by kernel_rfl⟩
  · intro w; exact ⟨by kernel_rfl, by kernel_rfl⟩
  · intro w; exact ⟨by kernel_rfl, by kernel_rfl⟩
  · intro w; exact ⟨by kernel_rfl, by kernel_rfl⟩
  · intro w; exact ⟨by kernel_rfl, by kernel_rfl⟩
  · intro w; exact ⟨by kernel_rfl, by kernel_rfl⟩
  · intro w; exact ⟨by kernel_rfl, by kernel_rfl⟩
  · intro w; exact ⟨by kernel_rfl, by kernel_rfl⟩
  · intro w; exact ⟨by kernel_rfl, by kernel_rfl⟩
  · intro w; exact ⟨by kernel_rfl, by kernel_rfl⟩
  · intro w; exact ⟨by kernel_rfl, by kernel_rfl⟩
  · intro w; exact ⟨by kernel_rfl, by kernel_rfl⟩
  · intro w; exact ⟨by kernel_rfl, by kernel_rfl⟩
  · intro w; exact ⟨by kernel_rfl, by kernel_rfl⟩
  · intro w; exact ⟨by kernel_rfl, by kernel_rfl⟩
  · intro w; exact ⟨by kernel_rfl, by kernel_rfl⟩
  · intro w; exact ⟨by kernel_rfl, by kernel_rfl⟩
  · intro w; exact ⟨by kernel_rfl, by kernel_rfl⟩
  · intro w; exact ⟨by kernel_rfl, by kernel_rfl⟩
  · intro w; exact ⟨by kernel_rfl, by kernel_rfl⟩
def nTab : List (Nat × Nat) := [(24, 4), (25, 4), (37, 10), (38, 10), (39, 10), (40, 10), (70, 2), (71, 2), (72, 5), (73, 5), (74, 7), (75, 7), (88, 2), (89, 2), (97, 3), (98, 3), (127, 4), (128, 4), (133, 10), (134, 10), (135, 2), (136, 2), (142, 2), (143, 2), (168, 4), (169, 4), (175, 3), (176, 3), (184, 3), (185, 3), (200, 2), (201, 2), (202, 20), (203, 20), (207, 19), (208, 19), (225, 1), (226, 1), (232, 1), (233, 1), (263, 4), (264, 4), (273, 0)]
theorem nTab_ok : ∀ e ∈ nTab, TN Tryz.prog e.1 e.2 := by
  simp only [nTab, List.forall_mem_cons]
  refine ⟨?_, ?_, ?_, ?_, ?_, ?_, ?_, ?_, ?_, ?_, ?_, ?_, ?_, ?_, ?_, ?_, ?_, ?_, ?_, ?_, ?_, ?_, ?_, ?_, ?_, ?_, ?_, ?_, ?_, ?_, ?_, ?_, ?_, ?_, ?_, ?_, ?_, ?_, ?_, ?_, ?_, ?_, ?_, List.forall_mem_nil _⟩
  · intro w; exact ⟨by kernel_rfl, by kernel_rfl⟩
  · intro w; exact ⟨by kernel_rfl, by kernel_rfl⟩
  · intro w; exact ⟨by kernel_rfl, by kernel_rfl⟩
  · intro w; exact ⟨by kernel_rfl, by kernel_rfl⟩
  · intro w; exact ⟨by kernel_rfl, by kernel_rfl⟩
  · intro w; exact ⟨by kernel_rfl, by kernel_rfl⟩
  · intro w; exact ⟨by kernel_rfl, by kernel_rfl⟩
  · intro w; exact ⟨by kernel_rfl, by kernel_rfl⟩
  · intro w; exact ⟨by kernel_rfl, by kernel_rfl⟩
  · intro w; exact ⟨by kernel_rfl, by kernel_rfl⟩
  · intro w; exact ⟨by kernel_rfl, by kernel_rfl⟩
  · intro w; exact ⟨by kernel_rfl, by kernel_rfl⟩
  · intro w; exact ⟨by kernel_rfl, by kernel_rfl⟩
  · intro w; exact ⟨by kernel_rfl, by kernel_rfl⟩
  · intro w; exact ⟨by kernel_rfl, by kernel_rfl⟩
  · intro w; exact ⟨by kernel_rfl, by kernel_rfl⟩
  · intro w; exact ⟨by kernel_rfl, by kernel_rfl⟩
  · intro w; exact ⟨by kernel_rfl, by kernel_rfl⟩
  · intro w; exact ⟨by kernel_rfl, by kernel_rfl⟩
  · intro w; exact ⟨by kernel_rfl, by kernel_rfl⟩
  · intro w; exact ⟨by kernel_rfl, by kernel_rfl⟩
  · intro w; exact ⟨by kernel_rfl, by kernel_rfl⟩
  · intro w; exact ⟨by kernel_rfl, by kernel_rfl⟩
  · intro w; exact ⟨by kernel_rfl, by kernel_rfl⟩
  · intro w; exact ⟨by kernel_rfl, by kernel_rfl⟩
  · intro w; exact ⟨by kernel_rfl, by kernel_rfl⟩
  · intro w; exact ⟨by kernel_rfl, by kernel_rfl⟩
  · intro w; exact ⟨by kernel_rfl, by kernel_rfl⟩
  · intro w; exact ⟨by kernel_rfl, by kernel_rfl⟩
  · intro w; exact ⟨by kernel_rfl, by kernel_rfl⟩
  · intro w; exact ⟨by kernel_rfl, by kernel_rfl⟩
  · intro w; exact ⟨by kernel_rfl, by kernel_rfl⟩
  · intro w; exact ⟨by kernel_rfl, by kernel_rfl⟩
  · intro w; exact ⟨by kernel_rfl, by kernel_rfl⟩
  · intro w; exact ⟨by kernel_rfl, by kernel_rfl⟩
  · intro w; exact ⟨by kernel_rfl, by kernel_rfl⟩
  · intro w; exact ⟨by kernel_rfl, by kernel_rfl⟩
  · intro w; exact ⟨by kernel_rfl, by kernel_rfl⟩
  · intro w; exact ⟨by kernel_rfl, by kernel_rfl⟩
  · intro w; exact ⟨by kernel_rfl, by kernel_rfl⟩
  · intro w; exact ⟨by kernel_rfl, by kernel_rfl⟩
  · intro w; exact ⟨by kernel_rfl, by kernel_rfl⟩
  · intro w; exact ⟨by kernel_rfl, by kernel_rfl⟩
def sTab : List (Nat × Nat × Nat) := [(22, 128, 4), (23, 134, 10), (27, 69, 1), (28, 76, 1), (29, 22, 1), (30, 23, 1), (31, 131, 1), (32, 132, 1), (33, 47, 1), (34, 92, 1), (35, 53, 1), (36, 54, 1), (47, 136, 2), (53, 89, 2), (54, 3, 1), (64, 5, 1), (69, 71, 2), (76, 75, 7), (92, 98, 3), (131, 169, 4), (132, 176, 3), (198, 264, 4), (310, 9, 1)]
theorem sTab_ok : ∀ e ∈ sTab, TS Tryz.prog e.1 e.2.1 e.2.2 := by
  simp only [sTab, List.forall_mem_cons]
  refine ⟨?_, ?_, ?_, ?_, ?_, ?_, ?_, ?_, ?_, ?_, ?_, ?_, ?_, ?_, ?_, ?_, ?_, ?_, ?_, ?_, ?_, ?_, ?_, List.forall_mem_nil _⟩
  · exact ⟨by kernel_rfl, fun w => by kernel_rfl⟩
  · exact ⟨by kernel_rfl, fun w => by kernel_rfl⟩
  · exact ⟨by kernel_rfl, fun w => by kernel_rfl⟩
  · exact ⟨by kernel_rfl, fun w => by kernel_rfl⟩
  · exact ⟨by kernel_rfl, fun w => by kernel_rfl⟩
  · exact ⟨by kernel_rfl, fun w => by kernel_rfl⟩
  · exact ⟨by kernel_rfl, fun w => by kernel_rfl⟩
  · exact ⟨by kernel_rfl, fun w => by kernel_rfl⟩
  · exact ⟨by kernel_rfl, fun w => by kernel_rfl⟩
  · exact ⟨by kernel_rfl, fun w => by kernel_rfl⟩
  · exact ⟨by kernel_rfl, fun w => by kernel_rfl⟩
  · exact ⟨by kernel_rfl, fun w => by kernel_rfl⟩
  · exact ⟨by kernel_rfl, fun w => by kernel_rfl⟩
  · exact ⟨by kernel_rfl, fun w => by kernel_rfl⟩
  · exact ⟨by kernel_rfl, fun w => by kernel_rfl⟩
  · exact ⟨by kernel_rfl, fun w => by kernel_rfl⟩
  · exact ⟨by kernel_rfl, fun w => by kernel_rfl⟩
  · exact ⟨by kernel_rfl, fun w => by kernel_rfl⟩
  · exact ⟨by kernel_rfl, fun w => by kernel_rfl⟩
  · exact ⟨by kernel_rfl, fun w => by kernel_rfl⟩
  · exact ⟨by kernel_rfl, fun w => by kernel_rfl⟩
  · exact ⟨by kernel_rfl, fun w => by kernel_rfl⟩
  · exact ⟨by kernel_rfl, fun w => by kernel_rfl⟩
def strTab : List (Nat) := [9]
theorem strTab_ok : ∀ e ∈ strTab, TStr Tryz.prog e := by
  simp only [strTab, List.forall_mem_cons]
  refine ⟨?_, List.forall_mem_nil _⟩
  · show _ = _; kernel_rfl
def zTab : List (Nat × List Value) := [(1, [.nilFunc]), (2, [.int .i64 0]), (3, [.int .i64 0]), (4, [.bool false]), (5, [.int .u8 0]), (9, [.string ⟨#[]⟩]), (22, [.slice none 0 0]), (23, [.slice none 0 0]), (24, [.string ⟨#[]⟩, .string ⟨#[]⟩, .slice none 0 0, .slice none 0 0]), (25, [.string ⟨#[]⟩, .string ⟨#[]⟩, .slice none 0 0, .slice none 0 0]), (26, [.pointer none]), (27, [.slice none 0 0]), (28, [.slice none 0 0]), (29, [.slice none 0 0]), (30, [.slice none 0 0]), (31, [.slice none 0 0]), (32, [.slice none 0 0]), (33, [.slice none 0 0]), (34, [.slice none 0 0]), (35, [.slice none 0 0]), (36, [.slice none 0 0]), (37, [.slice none 0 0, .slice none 0 0, .slice none 0 0, .slice none 0 0, .slice none 0 0, .slice none 0 0, .slice none 0 0, .slice none 0 0, .slice none 0 0, .slice none 0 0]), (38, [.slice none 0 0, .slice none 0 0, .slice none 0 0, .slice none 0 0, .slice none 0 0, .slice none 0 0, .slice none 0 0, .slice none 0 0, .slice none 0 0, .slice none 0 0]), (39, [.slice none 0 0, .slice none 0 0, .slice none 0 0, .slice none 0 0, .slice none 0 0, .slice none 0 0, .slice none 0 0, .slice none 0 0, .slice none 0 0, .slice none 0 0]), (40, [.slice none 0 0, .slice none 0 0, .slice none 0 0, .slice none 0 0, .slice none 0 0, .slice none 0 0, .slice none 0 0, .slice none 0 0, .slice none 0 0, .slice none 0 0]), (47, [.slice none 0 0]), (48, [.int .i64 0]), (51, [.nilFunc]), (53, [.slice none 0 0]), (54, [.slice none 0 0]), (64, [.slice none 0 0]), (69, [.slice none 0 0]), (70, [.int .i64 0, .string ⟨#[]⟩]), (71, [.int .i64 0, .string ⟨#[]⟩]), (72, [.string ⟨#[]⟩, .string ⟨#[]⟩, .slice none 0 0, .int .i64 0, .string ⟨#[]⟩]), (73, [.string ⟨#[]⟩, .string ⟨#[]⟩, .slice none 0 0, .int .i64 0, .string ⟨#[]⟩]), (74, [.int .i64 0, .int .i64 0, .string ⟨#[]⟩, .string ⟨#[]⟩, .slice none 0 0, .int .i64 0, .string ⟨#[]⟩]), (75, [.int .i64 0, .int .i64 0, .string ⟨#[]⟩, .string ⟨#[]⟩, .slice none 0 0, .int .i64 0, .string ⟨#[]⟩]), (76, [.slice none 0 0]), (88, [.string ⟨#[]⟩, .string ⟨#[]⟩]), (89, [.string ⟨#[]⟩, .string ⟨#[]⟩]), (92, [.slice none 0 0]), (97, [.int .i64 0, .int .i64 0, .string ⟨#[]⟩]), (98, [.int .i64 0, .int .i64 0, .string ⟨#[]⟩]), (103, [.int .u64 0]), (119, [.pointer none]), (127, [.string ⟨#[]⟩, .bool false, .int .i64 0, .string ⟨#[]⟩]), (128, [.string ⟨#[]⟩, .bool false, .int .i64 0, .string ⟨#[]⟩]), (131, [.slice none 0 0]), (132, [.slice none 0 0]), (133, [.string ⟨#[]⟩, .bool false, .slice none 0 0, .int .i64 0, .string ⟨#[]⟩, .int .i64 0, .int .i64 0, .slice none 0 0, .slice none 0 0, .slice none 0 0]), (134, [.string ⟨#[]⟩, .bool false, .slice none 0 0, .int .i64 0, .string ⟨#[]⟩, .int .i64 0, .int .i64 0, .slice none 0 0, .slice none 0 0, .slice none 0 0]), (135, [.string ⟨#[]⟩, .string ⟨#[]⟩]), (136, [.string ⟨#[]⟩, .string ⟨#[]⟩]), (141, [.nilFunc]), (142, [.int .i64 0, .int .i64 0]), (143, [.int .i64 0, .int .i64 0]), (159, [.nilFunc]), (168, [.int .i64 0, .int .i64 0, .int .i64 0, .string ⟨#[]⟩]), (169, [.int .i64 0, .int .i64 0, .int .i64 0, .string ⟨#[]⟩]), (175, [.int .i64 0, .slice none 0 0, .slice none 0 0]), (176, [.int .i64 0, .slice none 0 0, .slice none 0 0]), (183, [.pointer none]), (184, [.string ⟨#[]⟩, .int .i64 0, .bool false]), (185, [.string ⟨#[]⟩, .int .i64 0, .bool false]), (186, [.nilFunc]), (187, [.nilFunc]), (197, [.map none]), (198, [.slice none 0 0]), (200, [.slice none 0 0, .slice none 0 0]), (201, [.slice none 0 0, .slice none 0 0]), (202, [.string ⟨#[]⟩, .string ⟨#[]⟩, .slice none 0 0, .slice none 0 0, .map none, .int .i64 0, .string ⟨#[]⟩, .bool false, .slice none 0 0, .int .i64 0, .string ⟨#[]⟩, .int .i64 0, .int .i64 0, .slice none 0 0, .slice none 0 0, .slice none 0 0, .int .i64 0, .slice none 0 0, .slice none 0 0, .bool false]), (203, [.string ⟨#[]⟩, .string ⟨#[]⟩, .slice none 0 0, .slice none 0 0, .map none, .int .i64 0, .string ⟨#[]⟩, .bool false, .slice none 0 0, .int .i64 0, .string ⟨#[]⟩, .int .i64 0, .int .i64 0, .slice none 0 0, .slice none 0 0, .slice none 0 0, .int .i64 0, .slice none 0 0, .slice none 0 0, .bool false]), (206, [.pointer none]), (207, [.string ⟨#[]⟩, .string ⟨#[]⟩, .slice none 0 0, .slice none 0 0, .string ⟨#[]⟩, .bool false, .slice none 0 0, .int .i64 0, .string ⟨#[]⟩, .int .i64 0, .int .i64 0, .slice none 0 0, .slice none 0 0, .slice none 0 0, .slice none 0 0, .slice none 0 0, .slice none 0 0, .bool false, .bool false]), (208, [.string ⟨#[]⟩, .string ⟨#[]⟩, .slice none 0 0, .slice none 0 0, .string ⟨#[]⟩, .bool false, .slice none 0 0, .int .i64 0, .string ⟨#[]⟩, .int .i64 0, .int .i64 0, .slice none 0 0, .slice none 0 0, .slice none 0 0, .slice none 0 0, .slice none 0 0, .slice none 0 0, .bool false, .bool false]), (224, [.pointer none]), (225, [.string ⟨#[]⟩]), (226, [.string ⟨#[]⟩]), (229, [.nilFunc]), (231, [.pointer none]), (232, [.slice none 0 0]), (233, [.slice none 0 0]), (252, [.int .u64 0]), (254, [.nilFunc]), (259, [.nilFunc]), (260, [.nilFunc]), (263, [.nilFunc, .nilFunc, .bool false, .bool false]), (264, [.nilFunc, .nilFunc, .bool false, .bool false]), (266, [.pointer none]), (270, [.nilFunc]), (271, [.nilFunc]), (273, []), (276, [.nilFunc]), (293, [.nilFunc]), (295, [.nilFunc]), (310, [.slice none 0 0]), (335, [.nilFunc]), (362, [.int .i64 0]), (403, [.pointer none]), (412, [.nilFunc]), (441, [.int .i64 0]), (448, [.int .u32 0]), (464, [.int .u64 0]), (468, [.pointer none])]
theorem zTab_ok : ∀ e ∈ zTab, TZ Tryz.prog e.1 e.2 := by
  simp only [zTab, List.forall_mem_cons]
  refine ⟨?_, ?_, ?_, ?_, ?_, ?_, ?_, ?_, ?_, ?_, ?_, ?_, ?_, ?_, ?_, ?_, ?_, ?_, ?_, ?_, ?_, ?_, ?_, ?_, ?_, ?_, ?_, ?_, ?_, ?_, ?_, ?_, ?_, ?_, ?_, ?_, ?_, ?_, ?_, ?_, ?_, ?_, ?_, ?_, ?_, ?_, ?_, ?_, ?_, ?_, ?_, ?_, ?_, ?_, ?_, ?_, ?_, ?_, ?_, ?_, ?_, ?_, ?_, ?_, ?_, ?_, ?_, ?_, ?_, ?_, ?_, ?_, ?_, ?_, ?_, ?_, ?_, ?_, ?_, ?_, ?_, ?_, ?_, ?_, ?_, ?_, ?_, ?_, ?_, ?_, ?_, ?_, ?_, ?_, ?_, ?_, ?_, ?_, ?_, ?_, ?_, ?_, ?_, ?_, ?_, List.forall_mem_nil _⟩
  · intro w; kernel_rfl
  · intro w; kernel_rfl
  · intro w; kernel_rfl
  · intro w; kernel_rfl
  · intro w; kernel_rfl
  · intro w; kernel_rfl
  · intro w; kernel_rfl
  · intro w; kernel_rfl
  · intro w; kernel_rfl
  · intro w; kernel_rfl
  · intro w; kernel_rfl
  · intro w; kernel_rfl
  · intro w; kernel_rfl
  · intro w; kernel_rfl
  · intro w; kernel_rfl
  · intro w; kernel_rfl
  · intro w; kernel_rfl
  · intro w; kernel_rfl
  · intro w; kernel_rfl
  · intro w; kernel_rfl
  · intro w; kernel_rfl
  · intro w; kernel_rfl
  · intro w; kernel_rfl
  · intro w; kernel_rfl
  · intro w; kernel_rfl
  · intro w; kernel_rfl
  · intro w; kernel_rfl
  · intro w; kernel_rfl
  · intro w; kernel_rfl
  · intro w; kernel_rfl
  · intro w; kernel_rfl
  · intro w; kernel_rfl
  · intro w; kernel_rfl
  · intro w; kernel_rfl
  · intro w; kernel_rfl
  · intro w; kernel_rfl
  · intro w; kernel_rfl
  · intro w; kernel_rfl
  · intro w; kernel_rfl
  · intro w; kernel_rfl
  · intro w; kernel_rfl
  · intro w; kernel_rfl
  · intro w; kernel_rfl
  · intro w; kernel_rfl
  · intro w; kernel_rfl
  · intro w; kernel_rfl
  · intro w; kernel_rfl
  · intro w; kernel_rfl
  · intro w; kernel_rfl
  · intro w; kernel_rfl
  · intro w; kernel_rfl
  · intro w; kernel_rfl
  · intro w; kernel_rfl
  · intro w; kernel_rfl
  · intro w; kernel_rfl
  · intro w; kernel_rfl
  · intro w; kernel_rfl
  · intro w; kernel_rfl
  · intro w; kernel_rfl
  · intro w; kernel_rfl
  · intro w; kernel_rfl
  · intro w; kernel_rfl
  · intro w; kernel_rfl
  · intro w; kernel_rfl
  · intro w; kernel_rfl
  · intro w; kernel_rfl
  · intro w; kernel_rfl
  · intro w; kernel_rfl
  · intro w; kernel_rfl
  · intro w; kernel_rfl
  · intro w; kernel_rfl
  · intro w; kernel_rfl
  · intro w; kernel_rfl
  · intro w; kernel_rfl
  · intro w; kernel_rfl
  · intro w; kernel_rfl
  · intro w; kernel_rfl
  · intro w; kernel_rfl
  · intro w; kernel_rfl
  · intro w; kernel_rfl
  · intro w; kernel_rfl
  · intro w; kernel_rfl
  · intro w; kernel_rfl
  · intro w; kernel_rfl
  · intro w; kernel_rfl
  · intro w; kernel_rfl
  · intro w; kernel_rfl
  · intro w; kernel_rfl
  · intro w; kernel_rfl
  · intro w; kernel_rfl
  · intro w; kernel_rfl
  · intro w; kernel_rfl
  · intro w; kernel_rfl
  · intro w; kernel_rfl
  · intro w; kernel_rfl
  · intro w; kernel_rfl
  · intro w; kernel_rfl
  · intro w; kernel_rfl
  · intro w; kernel_rfl
  · intro w; kernel_rfl
  · intro w; kernel_rfl
  · intro w; kernel_rfl
  · intro w; kernel_rfl
  · intro w; kernel_rfl
  · intro w; kernel_rfl
def aTab : List (Nat × Nat × Nat × Nat × Value) := [(22, 128, 4, 48, .agg #[.string ⟨#[]⟩, .bool false, .int .i64 0, .string ⟨#[]⟩]), (23, 134, 10, 160, .agg #[.string ⟨#[]⟩, .bool false, .slice none 0 0, .int .i64 0, .string ⟨#[]⟩, .int .i64 0, .int .i64 0, .slice none 0 0, .slice none 0 0, .slice none 0 0]), (27, 69, 1, 24, .slice none 0 0), (28, 76, 1, 24, .slice none 0 0), (29, 22, 1, 24, .slice none 0 0), (30, 23, 1, 24, .slice none 0 0), (31, 131, 1, 24, .slice none 0 0), (32, 132, 1, 24, .slice none 0 0), (33, 47, 1, 24, .slice none 0 0), (34, 92, 1, 24, .slice none 0 0), (35, 53, 1, 24, .slice none 0 0), (36, 54, 1, 24, .slice none 0 0), (47, 136, 2, 32, .agg #[.string ⟨#[]⟩, .string ⟨#[]⟩]), (53, 89, 2, 32, .agg #[.string ⟨#[]⟩, .string ⟨#[]⟩]), (54, 3, 1, 8, .int .i64 0), (64, 5, 1, 1, .int .u8 0), (69, 71, 2, 24, .agg #[.int .i64 0, .string ⟨#[]⟩]), (76, 75, 7, 96, .agg #[.int .i64 0, .int .i64 0, .string ⟨#[]⟩, .string ⟨#[]⟩, .slice none 0 0, .int .i64 0, .string ⟨#[]⟩]), (92, 98, 3, 32, .agg #[.int .i64 0, .int .i64 0, .string ⟨#[]⟩]), (131, 169, 4, 40, .agg #[.int .i64 0, .int .i64 0, .int .i64 0, .string ⟨#[]⟩]), (132, 176, 3, 56, .agg #[.int .i64 0, .slice none 0 0, .slice none 0 0]), (198, 264, 4, 24, .agg #[.nilFunc, .nilFunc, .bool false, .bool false]), (310, 9, 1, 16, .string ⟨#[]⟩)]
theorem aTab_ok : ∀ e ∈ aTab, TA Tryz.prog e.1 e.2.1 e.2.2.1 e.2.2.2.1 e.2.2.2.2 := by
  simp only [aTab, List.forall_mem_cons]
  refine ⟨?_, ?_, ?_, ?_, ?_, ?_, ?_, ?_, ?_, ?_, ?_, ?_, ?_, ?_, ?_, ?_, ?_, ?_, ?_, ?_, ?_, ?_, ?_, List.forall_mem_nil _⟩
  · exact ⟨by kernel_rfl, by kernel_rfl, by kernel_rfl, by decide⟩
  · exact ⟨by kernel_rfl, by kernel_rfl, by kernel_rfl, by decide⟩
  · exact ⟨by kernel_rfl, by kernel_rfl, by kernel_rfl, by decide⟩
  · exact ⟨by kernel_rfl, by kernel_rfl, by kernel_rfl, by decide⟩
  · exact ⟨by kernel_rfl, by kernel_rfl, by kernel_rfl, by decide⟩
  · exact ⟨by kernel_rfl, by kernel_rfl, by kernel_rfl, by decide⟩
  · exact ⟨by kernel_rfl, by kernel_rfl, by kernel_rfl, by decide⟩
  · exact ⟨by kernel_rfl, by kernel_rfl, by kernel_rfl, by decide⟩
  · exact ⟨by kernel_rfl, by kernel_rfl, by kernel_rfl, by decide⟩
  · exact ⟨by kernel_rfl, by kernel_rfl, by kernel_rfl, by decide⟩
  · exact ⟨by kernel_rfl, by kernel_rfl, by kernel_rfl, by decide⟩
  · exact ⟨by kernel_rfl, by kernel_rfl, by kernel_rfl, by decide⟩
  · exact ⟨by kernel_rfl, by kernel_rfl, by kernel_rfl, by decide⟩
  · exact ⟨by kernel_rfl, by kernel_rfl, by kernel_rfl, by decide⟩
  · exact ⟨by kernel_rfl, by kernel_rfl, by kernel_rfl, by decide⟩
  · exact ⟨by kernel_rfl, by kernel_rfl, by kernel_rfl, by decide⟩
  · exact ⟨by kernel_rfl, by kernel_rfl, by kernel_rfl, by decide⟩
  · exact ⟨by kernel_rfl, by kernel_rfl, by kernel_rfl, by decide⟩
  · exact ⟨by kernel_rfl, by kernel_rfl, by kernel_rfl, by decide⟩
  · exact ⟨by kernel_rfl, by kernel_rfl, by kernel_rfl, by decide⟩
  · exact ⟨by kernel_rfl, by kernel_rfl, by kernel_rfl, by decide⟩
  · exact ⟨by kernel_rfl, by kernel_rfl, by kernel_rfl, by decide⟩
  · exact ⟨by kernel_rfl, by kernel_rfl, by kernel_rfl, by decide⟩
def bTab : List (Nat × List Value × List (Nat × Nat)) := [(24, [.string ⟨#[]⟩, .string ⟨#[]⟩, .slice none 0 0, .slice none 0 0], [(0, 1), (1, 1), (2, 1), (3, 1)]), (25, [.string ⟨#[]⟩, .string ⟨#[]⟩, .slice none 0 0, .slice none 0 0], [(0, 1), (1, 1), (2, 1), (3, 1)]), (37, [.slice none 0 0, .slice none 0 0, .slice none 0 0, .slice none 0 0, .slice none 0 0, .slice none 0 0, .slice none 0 0, .slice none 0 0, .slice none 0 0, .slice none 0 0], [(0, 1), (1, 1), (2, 1), (3, 1), (4, 1), (5, 1), (6, 1), (7, 1), (8, 1), (9, 1)]), (38, [.slice none 0 0, .slice none 0 0, .slice none 0 0, .slice none 0 0, .slice none 0 0, .slice none 0 0, .slice none 0 0, .slice none 0 0, .slice none 0 0, .slice none 0 0], [(0, 1), (1, 1), (2, 1), (3, 1), (4, 1), (5, 1), (6, 1), (7, 1), (8, 1), (9, 1)]), (39, [.slice none 0 0, .slice none 0 0, .slice none 0 0, .slice none 0 0, .slice none 0 0, .slice none 0 0, .slice none 0 0, .slice none 0 0, .slice none 0 0, .slice none 0 0], [(0, 10)]), (40, [.slice none 0 0, .slice none 0 0, .slice none 0 0, .slice none 0 0, .slice none 0 0, .slice none 0 0, .slice none 0 0, .slice none 0 0, .slice none 0 0, .slice none 0 0], [(0, 10)]), (70, [.int .i64 0, .string ⟨#[]⟩], [(0, 1), (1, 1)]), (71, [.int .i64 0, .string ⟨#[]⟩], [(0, 1), (1, 1)]), (72, [.string ⟨#[]⟩, .string ⟨#[]⟩, .slice none 0 0, .int .i64 0, .string ⟨#[]⟩], [(0, 1), (1, 1), (2, 1), (3, 2)]), (73, [.string ⟨#[]⟩, .string ⟨#[]⟩, .slice none 0 0, .int .i64 0, .string ⟨#[]⟩], [(0, 1), (1, 1), (2, 1), (3, 2)]), (74, [.int .i64 0, .int .i64 0, .string ⟨#[]⟩, .string ⟨#[]⟩, .slice none 0 0, .int .i64 0, .string ⟨#[]⟩], [(0, 1), (1, 1), (2, 5)]), (75, [.int .i64 0, .int .i64 0, .string ⟨#[]⟩, .string ⟨#[]⟩, .slice none 0 0, .int .i64 0, .string ⟨#[]⟩], [(0, 1), (1, 1), (2, 5)]), (88, [.string ⟨#[]⟩, .string ⟨#[]⟩], [(0, 1), (1, 1)]), (89, [.string ⟨#[]⟩, .string ⟨#[]⟩], [(0, 1), (1, 1)]), (97, [.int .i64 0, .int .i64 0, .string ⟨#[]⟩], [(0, 1), (1, 1), (2, 1)]), (98, [.int .i64 0, .int .i64 0, .string ⟨#[]⟩], [(0, 1), (1, 1), (2, 1)]), (127, [.string ⟨#[]⟩, .bool false, .int .i64 0, .string ⟨#[]⟩], [(0, 1), (1, 1), (2, 2)]), (128, [.string ⟨#[]⟩, .bool false, .int .i64 0, .string ⟨#[]⟩], [(0, 1), (1, 1), (2, 2)]), (133, [.string ⟨#[]⟩, .bool false, .slice none 0 0, .int .i64 0, .string ⟨#[]⟩, .int .i64 0, .int .i64 0, .slice none 0 0, .slice none 0 0, .slice none 0 0], [(0, 1), (1, 1), (2, 1), (3, 2), (5, 1), (6, 1), (7, 1), (8, 1), (9, 1)]), (134, [.string ⟨#[]⟩, .bool false, .slice none 0 0, .int .i64 0, .string ⟨#[]⟩, .int .i64 0, .int .i64 0, .slice none 0 0, .slice none 0 0, .slice none 0 0], [(0, 1), (1, 1), (2, 1), (3, 2), (5, 1), (6, 1), (7, 1), (8, 1), (9, 1)]), (135, [.string ⟨#[]⟩, .string ⟨#[]⟩], [(0, 1), (1, 1)]), (136, [.string ⟨#[]⟩, .string ⟨#[]⟩], [(0, 1), (1, 1)]), (142, [.int .i64 0, .int .i64 0], [(0, 1), (1, 1)]), (143, [.int .i64 0, .int .i64 0], [(0, 1), (1, 1)]), (168, [.int .i64 0, .int .i64 0, .int .i64 0, .string ⟨#[]⟩], [(0, 1), (1, 1), (2, 1), (3, 1)]), (169, [.int .i64 0, .int .i64 0, .int .i64 0, .string ⟨#[]⟩], [(0, 1), (1, 1), (2, 1), (3, 1)]), (175, [.int .i64 0, .slice none 0 0, .slice none 0 0], [(0, 1), (1, 1), (2, 1)]), (176, [.int .i64 0, .slice none 0 0, .slice none 0 0], [(0, 1), (1, 1), (2, 1)]), (184, [.string ⟨#[]⟩, .int .i64 0, .bool false], [(0, 1), (1, 1), (2, 1)]), (185, [.string ⟨#[]⟩, .int .i64 0, .bool false], [(0, 1), (1, 1), (2, 1)]), (200, [.slice none 0 0, .slice none 0 0], [(0, 1), (1, 1)]), (201, [.slice none 0 0, .slice none 0 0], [(0, 1), (1, 1)]), (202, [.string ⟨#[]⟩, .string ⟨#[]⟩, .slice none 0 0, .slice none 0 0, .map none, .int .i64 0, .string ⟨#[]⟩, .bool false, .slice none 0 0, .int .i64 0, .string ⟨#[]⟩, .int .i64 0, .int .i64 0, .slice none 0 0, .slice none 0 0, .slice none 0 0, .int .i64 0, .slice none 0 0, .slice none 0 0, .bool false], [(0, 4), (4, 1), (5, 1), (6, 10), (16, 1), (17, 2), (19, 1)]), (203, [.string ⟨#[]⟩, .string ⟨#[]⟩, .slice none 0 0, .slice none 0 0, .map none, .int .i64 0, .string ⟨#[]⟩, .bool false, .slice none 0 0, .int .i64 0, .string ⟨#[]⟩, .int .i64 0, .int .i64 0, .slice none 0 0, .slice none 0 0, .slice none 0 0, .int .i64 0, .slice none 0 0, .slice none 0 0, .bool false], [(0, 4), (4, 1), (5, 1), (6, 10), (16, 1), (17, 2), (19, 1)]), (207, [.string ⟨#[]⟩, .string ⟨#[]⟩, .slice none 0 0, .slice none 0 0, .string ⟨#[]⟩, .bool false, .slice none 0 0, .int .i64 0, .string ⟨#[]⟩, .int .i64 0, .int .i64 0, .slice none 0 0, .slice none 0 0, .slice none 0 0, .slice none 0 0, .slice none 0 0, .slice none 0 0, .bool false, .bool false], [(0, 4), (4, 10), (14, 1), (15, 1), (16, 1), (17, 1), (18, 1)]), (208, [.string ⟨#[]⟩, .string ⟨#[]⟩, .slice none 0 0, .slice none 0 0, .string ⟨#[]⟩, .bool false, .slice none 0 0, .int .i64 0, .string ⟨#[]⟩, .int .i64 0, .int .i64 0, .slice none 0 0, .slice none 0 0, .slice none 0 0, .slice none 0 0, .slice none 0 0, .slice none 0 0, .bool false, .bool false], [(0, 4), (4, 10), (14, 1), (15, 1), (16, 1), (17, 1), (18, 1)]), (225, [.string ⟨#[]⟩], [(0, 1)]), (226, [.string ⟨#[]⟩], [(0, 1)]), (232, [.slice none 0 0], [(0, 1)]), (233, [.slice none 0 0], [(0, 1)]), (263, [.nilFunc, .nilFunc, .bool false, .bool false], [(0, 1), (1, 1), (2, 1), (3, 1)]), (264, [.nilFunc, .nilFunc, .bool false, .bool false], [(0, 1), (1, 1), (2, 1), (3, 1)]), (273, [], [])]
theorem bTab_ok : ∀ e ∈ bTab, TB Tryz.prog e.1 e.2.1 e.2.2 := by
  simp only [bTab, List.forall_mem_cons]
  refine ⟨?_, ?_, ?_, ?_, ?_, ?_, ?_, ?_, ?_, ?_, ?_, ?_, ?_, ?_, ?_, ?_, ?_, ?_, ?_, ?_, ?_, ?_, ?_, ?_, ?_, ?_, ?_, ?_, ?_, ?_, ?_, ?_, ?_, ?_, ?_, ?_, ?_, ?_, ?_, ?_, ?_, ?_, ?_, List.forall_mem_nil _⟩
  · exact ⟨fun w => by kernel_rfl, _, Tryz.underlying24, fun w => by kernel_rfl⟩
  · exact ⟨fun w => by kernel_rfl, _, Tryz.underlying25, fun w => by kernel_rfl⟩
  · exact ⟨fun w => by kernel_rfl, _, Tryz.underlying37, fun w => by kernel_rfl⟩
  · exact ⟨fun w => by kernel_rfl, _, Tryz.underlying38, fun w => by kernel_rfl⟩
  · exact ⟨fun w => by kernel_rfl, _, Tryz.underlying39, fun w => by kernel_rfl⟩
  · exact ⟨fun w => by kernel_rfl, _, Tryz.underlying40, fun w => by kernel_rfl⟩
  · exact ⟨fun w => by kernel_rfl, _, Tryz.underlying70, fun w => by kernel_rfl⟩
  · exact ⟨fun w => by kernel_rfl, _, Tryz.underlying71, fun w => by kernel_rfl⟩
  · exact ⟨fun w => by kernel_rfl, _, Tryz.underlying72, fun w => by kernel_rfl⟩
  · exact ⟨fun w => by kernel_rfl, _, Tryz.underlying73, fun w => by kernel_rfl⟩
  · exact ⟨fun w => by kernel_rfl, _, Tryz.underlying74, fun w => by kernel_rfl⟩
  · exact ⟨fun w => by kernel_rfl, _, Tryz.underlying75, fun w => by kernel_rfl⟩
  · exact ⟨fun w => by kernel_rfl, _, Tryz.underlying88, fun w => by kernel_rfl⟩
  · exact ⟨fun w => by kernel_rfl, _, Tryz.underlying89, fun w => by kernel_rfl⟩
  · exact ⟨fun w => by kernel_rfl, _, Tryz.underlying97, fun w => by kernel_rfl⟩
  · exact ⟨fun w => by kernel_rfl, _, Tryz.underlying98, fun w => by kernel_rfl⟩
  · exact ⟨fun w => by kernel_rfl, _, Tryz.underlying127, fun w => by kernel_rfl⟩
  · exact ⟨fun w => by kernel_rfl, _, Tryz.underlying128, fun w => by kernel_rfl⟩
  · exact ⟨fun w => by kernel_rfl, _, Tryz.underlying133, fun w => by kernel_rfl⟩
  · exact ⟨fun w => by kernel_rfl, _, Tryz.underlying134, fun w => by kernel_rfl⟩
  · exact ⟨fun w => by kernel_rfl, _, Tryz.underlying135, fun w => by kernel_rfl⟩
  · exact ⟨fun w => by kernel_rfl, _, Tryz.underlying136, fun w => by kernel_rfl⟩
  · exact ⟨fun w => by kernel_rfl, _, Tryz.underlying142, fun w => by kernel_rfl⟩
  · exact ⟨fun w => by kernel_rfl, _, Tryz.underlying143, fun w => by kernel_rfl⟩
  · exact ⟨fun w => by kernel_rfl, _, Tryz.underlying168, fun w => by kernel_rfl⟩
  · exact ⟨fun w => by kernel_rfl, _, Tryz.underlying169, fun w => by kernel_rfl⟩
  · exact ⟨fun w => by kernel_rfl, _, Tryz.underlying175, fun w => by kernel_rfl⟩
  · exact ⟨fun w => by kernel_rfl, _, Tryz.underlying176, fun w => by kernel_rfl⟩
  · exact ⟨fun w => by kernel_rfl, _, Tryz.underlying184, fun w => by kernel_rfl⟩
  · exact ⟨fun w => by kernel_rfl, _, Tryz.underlying185, fun w => by kernel_rfl⟩
  · exact ⟨fun w => by kernel_rfl, _, Tryz.underlying200, fun w => by kernel_rfl⟩
  · exact ⟨fun w => by kernel_rfl, _, Tryz.underlying201, fun w => by kernel_rfl⟩
  · exact ⟨fun w => by kernel_rfl, _, Tryz.underlying202, fun w => by kernel_rfl⟩
  · exact ⟨fun w => by kernel_rfl, _, Tryz.underlying203, fun w => by kernel_rfl⟩
  · exact ⟨fun w => by kernel_rfl, _, Tryz.underlying207, fun w => by kernel_rfl⟩
  · exact ⟨fun w => by kernel_rfl, _, Tryz.underlying208, fun w => by kernel_rfl⟩
  · exact ⟨fun w => by kernel_rfl, _, Tryz.underlying225, fun w => by kernel_rfl⟩
  · exact ⟨fun w => by kernel_rfl, _, Tryz.underlying226, fun w => by kernel_rfl⟩
  · exact ⟨fun w => by kernel_rfl, _, Tryz.underlying232, fun w => by kernel_rfl⟩
  · exact ⟨fun w => by kernel_rfl, _, Tryz.underlying233, fun w => by kernel_rfl⟩
  · exact ⟨fun w => by kernel_rfl, _, Tryz.underlying263, fun w => by kernel_rfl⟩
  · exact ⟨fun w => by kernel_rfl, _, Tryz.underlying264, fun w => by kernel_rfl⟩
  · exact ⟨fun w => by kernel_rfl, _, Tryz.underlying273, fun w => by kernel_rfl⟩
def iTab : List (Nat × IntKind) := [(2, IntKind.i64), (3, IntKind.i64), (5, IntKind.u8), (48, IntKind.i64), (103, IntKind.u64), (252, IntKind.u64), (362, IntKind.i64), (441, IntKind.i64), (448, IntKind.u32), (464, IntKind.u64)]
theorem iTab_ok : ∀ e ∈ iTab, TI Tryz.prog e.1 e.2 := by
  simp only [iTab, List.forall_mem_cons]
  refine ⟨?_, ?_, ?_, ?_, ?_, ?_, ?_, ?_, ?_, ?_, List.forall_mem_nil _⟩
  · show _ = _; kernel_rfl
  · show _ = _; kernel_rfl
  · show _ = _; kernel_rfl
  · show _ = _; kernel_rfl
  · show _ = _; kernel_rfl
  · show _ = _; kernel_rfl
  · show _ = _; kernel_rfl
  · show _ = _; kernel_rfl
  · show _ = _; kernel_rfl
  · show _ = _; kernel_rfl

def get3 : List (Nat × Nat × Nat) → Nat → Nat → Option Nat
  | [], _, _ => none
  | (a, b, c) :: r, s, f => bif Nat.beq s a && Nat.beq f b then some c else get3 r s f
def get21 : List (Nat × Nat × Nat) → Nat → Option (Nat × Nat)
  | [], _ => none
  | (a, b, c) :: r, s => bif Nat.beq s a then some (b, c) else get21 r s
def get2 : List (Nat × Nat) → Nat → Option Nat
  | [], _ => none
  | (a, b) :: r, s => bif Nat.beq s a then some b else get2 r s
def getZ : List (Nat × List Value) → Nat → Option (List Value)
  | [], _ => none
  | (a, b) :: r, s => bif Nat.beq s a then some b else getZ r s
def getA : List (Nat × Nat × Nat × Nat × Value) → Nat → Option (Nat × Nat × Nat × Value)
  | [], _ => none
  | (a, b) :: r, s => bif Nat.beq s a then some b else getA r s
def getB : List (Nat × List Value × List (Nat × Nat)) → Nat → Option (List Value × List (Nat × Nat))
  | [], _ => none
  | (a, b) :: r, s => bif Nat.beq s a then some b else getB r s
def getK : List (Nat × IntKind) → Nat → Option IntKind
  | [], _ => none
  | (a, b) :: r, s => bif Nat.beq s a then some b else getK r s
def get1 : List Nat → Nat → Bool
  | [], _ => false
  | a :: r, s => bif Nat.beq s a then true else get1 r s
theorem get3_mem : ∀ (l : List (Nat × Nat × Nat)) (s f k : Nat), get3 l s f = some k → (s, f, k) ∈ l
  | [], _, _, _, h => by simp [get3] at h
  | (a, b, c) :: r, s, f, k, h => by
    simp only [get3] at h
    cases h1 : Nat.beq s a && Nat.beq f b with
    | true =>
      rw [h1] at h
      rw [Bool.and_eq_true] at h1
      have e1 := Nat.eq_of_beq_eq_true h1.1
      have e2 := Nat.eq_of_beq_eq_true h1.2
      have e3 : c = k := Option.some.inj h
      subst e1; subst e2; subst e3
      exact List.mem_cons_self
    | false => rw [h1] at h; exact List.mem_cons_of_mem _ (get3_mem r s f k h)
theorem get21_mem : ∀ (l : List (Nat × Nat × Nat)) (s b c : Nat), get21 l s = some (b, c) → (s, b, c) ∈ l
  | [], _, _, _, h => by simp [get21] at h
  | (a, b', c') :: r, s, b, c, h => by
    simp only [get21] at h
    cases h1 : Nat.beq s a with
    | true =>
      rw [h1] at h
      have e1 := Nat.eq_of_beq_eq_true h1
      have e2 : (b', c') = (b, c) := Option.some.inj h
      cases e2; subst e1
      exact List.mem_cons_self
    | false => rw [h1] at h; exact List.mem_cons_of_mem _ (get21_mem r s b c h)
theorem get2_mem : ∀ (l : List (Nat × Nat)) (s b : Nat), get2 l s = some b → (s, b) ∈ l
  | [], _, _, h => by simp [get2] at h
  | (a, b') :: r, s, b, h => by
    simp only [get2] at h
    cases h1 : Nat.beq s a with
    | true =>
      rw [h1] at h
      have e1 := Nat.eq_of_beq_eq_true h1
      have e2 : b' = b := Option.some.inj h
      subst e1; subst e2
      exact List.mem_cons_self
    | false => rw [h1] at h; exact List.mem_cons_of_mem _ (get2_mem r s b h)
theorem getK_mem : ∀ (l : List (Nat × IntKind)) (s : Nat) (b : IntKind), getK l s = some b → (s, b) ∈ l
  | [], _, _, h => by simp [getK] at h
  | (a, b') :: r, s, b, h => by
    simp only [getK] at h
    cases h1 : Nat.beq s a with
    | true =>
      rw [h1] at h
      have e1 := Nat.eq_of_beq_eq_true h1
      have e2 : b' = b := Option.some.inj h
      subst e1; subst e2
      exact List.mem_cons_self
    | false => rw [h1] at h; exact List.mem_cons_of_mem _ (getK_mem r s b h)
theorem getZ_mem : ∀ (l : List (Nat × List Value)) (s : Nat) (b : List Value), getZ l s = some b → (s, b) ∈ l
  | [], _, _, h => by simp [getZ] at h
  | (a, b') :: r, s, b, h => by
    simp only [getZ] at h
    cases h1 : Nat.beq s a with
    | true =>
      rw [h1] at h
      have e1 := Nat.eq_of_beq_eq_true h1
      have e2 : b' = b := Option.some.inj h
      subst e1; subst e2
      exact List.mem_cons_self
    | false => rw [h1] at h; exact List.mem_cons_of_mem _ (getZ_mem r s b h)
theorem getA_mem : ∀ (l : List (Nat × Nat × Nat × Nat × Value)) (s : Nat) (b : Nat × Nat × Nat × Value), getA l s = some b → (s, b) ∈ l
  | [], _, _, h => by simp [getA] at h
  | (a, b') :: r, s, b, h => by
    simp only [getA] at h
    cases h1 : Nat.beq s a with
    | true =>
      rw [h1] at h
      have e1 := Nat.eq_of_beq_eq_true h1
      have e2 : b' = b := Option.some.inj h
      subst e1; subst e2
      exact List.mem_cons_self
    | false => rw [h1] at h; exact List.mem_cons_of_mem _ (getA_mem r s b h)
theorem getB_mem : ∀ (l : List (Nat × List Value × List (Nat × Nat))) (s : Nat) (b : List Value × List (Nat × Nat)), getB l s = some b → (s, b) ∈ l
  | [], _, _, h => by simp [getB] at h
  | (a, b') :: r, s, b, h => by
    simp only [getB] at h
    cases h1 : Nat.beq s a with
    | true =>
      rw [h1] at h
      have e1 := Nat.eq_of_beq_eq_true h1
      have e2 : b' = b := Option.some.inj h
      subst e1; subst e2
      exact List.mem_cons_self
    | false => rw [h1] at h; exact List.mem_cons_of_mem _ (getB_mem r s b h)
theorem get1_mem : ∀ (l : List Nat) (s : Nat), get1 l s = true → s ∈ l
  | [], _, h => by simp [get1] at h
  | a :: r, s, h => by
    simp only [get1] at h
    cases h1 : Nat.beq s a with
    | true =>
      have e1 := Nat.eq_of_beq_eq_true h1
      subst e1
      exact List.mem_cons_self
    | false => rw [h1] at h; exact List.mem_cons_of_mem _ (get1_mem r s h)
theorem ff {s f k : Nat} (h : get3 fTab s f = some k) : FF Tryz.prog s f k := fTab_ok (s, f, k) (get3_mem _ _ _ _ h)
theorem t1 {t : Nat} (h : get1 oneTab t = true) : T1 Tryz.prog t := oneTab_ok t (get1_mem _ _ h)
theorem tz {t : Nat} {zs : List Value} (h : getZ zTab t = some zs) : TZ Tryz.prog t zs := zTab_ok (t, zs) (getZ_mem _ _ _ h)
theorem ta {t e size bytes : Nat} {z : Value} (h : getA aTab t = some (e, size, bytes, z)) : TA Tryz.prog t e size bytes z := aTab_ok (t, e, size, bytes, z) (getA_mem _ _ _ h)
theorem tb {t : Nat} {zs : List Value} {pl : List (Nat × Nat)} (h : getB bTab t = some (zs, pl)) : TB Tryz.prog t zs pl := bTab_ok (t, zs, pl) (getB_mem _ _ _ h)
theorem tn {t k : Nat} (h : get2 nTab t = some k) : TN Tryz.prog t k := nTab_ok (t, k) (get2_mem _ _ _ h)
theorem ts {t e k : Nat} (h : get21 sTab t = some (e, k)) : TS Tryz.prog t e k := sTab_ok (t, e, k) (get21_mem _ _ _ _ h)
theorem tstr {t : Nat} (h : get1 strTab t = true) : TStr Tryz.prog t := strTab_ok t (get1_mem _ _ h)
theorem tint {t : Nat} {k : IntKind} (h : getK iTab t = some k) : TI Tryz.prog t k := iTab_ok (t, k) (getK_mem _ _ _ h)
theorem fn25 : IsFn Tryz.prog 25 := ⟨Tryz.f25, Tryz.func25, by kernel_rfl, by kernel_rfl⟩
theorem fn26 : IsFn Tryz.prog 26 := ⟨Tryz.f26, Tryz.func26, by kernel_rfl, by kernel_rfl⟩
theorem fn59 : IsFn Tryz.prog 59 := ⟨Tryz.f59, Tryz.func59, by kernel_rfl, by kernel_rfl⟩
theorem fn66 : IsFn Tryz.prog 66 := ⟨Tryz.f66, Tryz.func66, by kernel_rfl, by kernel_rfl⟩
theorem fn67 : IsFn Tryz.prog 67 := ⟨Tryz.f67, Tryz.func67, by kernel_rfl, by kernel_rfl⟩
theorem fn68 : IsFn Tryz.prog 68 := ⟨Tryz.f68, Tryz.func68, by kernel_rfl, by kernel_rfl⟩
theorem fn69 : IsFn Tryz.prog 69 := ⟨Tryz.f69, Tryz.func69, by kernel_rfl, by kernel_rfl⟩
theorem fn70 : IsFn Tryz.prog 70 := ⟨Tryz.f70, Tryz.func70, by kernel_rfl, by kernel_rfl⟩
theorem fn71 : IsFn Tryz.prog 71 := ⟨Tryz.f71, Tryz.func71, by kernel_rfl, by kernel_rfl⟩
theorem fn103 : IsFn Tryz.prog 103 := ⟨Tryz.f103, Tryz.func103, by kernel_rfl, by kernel_rfl⟩
theorem fn111 : IsFn Tryz.prog 111 := ⟨Tryz.f111, Tryz.func111, by kernel_rfl, by kernel_rfl⟩
theorem fn112 : IsFn Tryz.prog 112 := ⟨Tryz.f112, Tryz.func112, by kernel_rfl, by kernel_rfl⟩
theorem fn113 : IsFn Tryz.prog 113 := ⟨Tryz.f113, Tryz.func113, by kernel_rfl, by kernel_rfl⟩
theorem fn114 : IsFn Tryz.prog 114 := ⟨Tryz.f114, Tryz.func114, by kernel_rfl, by kernel_rfl⟩
theorem fn115 : IsFn Tryz.prog 115 := ⟨Tryz.f115, Tryz.func115, by kernel_rfl, by kernel_rfl⟩
theorem fn116 : IsFn Tryz.prog 116 := ⟨Tryz.f116, Tryz.func116, by kernel_rfl, by kernel_rfl⟩
theorem fn117 : IsFn Tryz.prog 117 := ⟨Tryz.f117, Tryz.func117, by kernel_rfl, by kernel_rfl⟩
theorem fn118 : IsFn Tryz.prog 118 := ⟨Tryz.f118, Tryz.func118, by kernel_rfl, by kernel_rfl⟩
theorem fn120 : IsFn Tryz.prog 120 := ⟨Tryz.f120, Tryz.func120, by kernel_rfl, by kernel_rfl⟩
theorem fn121 : IsFn Tryz.prog 121 := ⟨Tryz.f121, Tryz.func121, by kernel_rfl, by kernel_rfl⟩
theorem fn122 : IsFn Tryz.prog 122 := ⟨Tryz.f122, Tryz.func122, by kernel_rfl, by kernel_rfl⟩
theorem fn123 : IsFn Tryz.prog 123 := ⟨Tryz.f123, Tryz.func123, by kernel_rfl, by kernel_rfl⟩
theorem fn124 : IsFn Tryz.prog 124 := ⟨Tryz.f124, Tryz.func124, by kernel_rfl, by kernel_rfl⟩
theorem fn125 : IsFn Tryz.prog 125 := ⟨Tryz.f125, Tryz.func125, by kernel_rfl, by kernel_rfl⟩
theorem fn131 : IsFn Tryz.prog 131 := ⟨Tryz.f131, Tryz.func131, by kernel_rfl, by kernel_rfl⟩
theorem fn139 : IsFn Tryz.prog 139 := ⟨Tryz.f139, Tryz.func139, by kernel_rfl, by kernel_rfl⟩
theorem fn140 : IsFn Tryz.prog 140 := ⟨Tryz.f140, Tryz.func140, by kernel_rfl, by kernel_rfl⟩
theorem fn141 : IsFn Tryz.prog 141 := ⟨Tryz.f141, Tryz.func141, by kernel_rfl, by kernel_rfl⟩
theorem fn180 : IsFn Tryz.prog 180 := ⟨Tryz.f180, Tryz.func180, by kernel_rfl, by kernel_rfl⟩
theorem fn181 : IsFn Tryz.prog 181 := ⟨Tryz.f181, Tryz.func181, by kernel_rfl, by kernel_rfl⟩
theorem fn182 : IsFn Tryz.prog 182 := ⟨Tryz.f182, Tryz.func182, by kernel_rfl, by kernel_rfl⟩
theorem fn183 : IsFn Tryz.prog 183 := ⟨Tryz.f183, Tryz.func183, by kernel_rfl, by kernel_rfl⟩
theorem fn184 : IsFn Tryz.prog 184 := ⟨Tryz.f184, Tryz.func184, by kernel_rfl, by kernel_rfl⟩
theorem fn185 : IsFn Tryz.prog 185 := ⟨Tryz.f185, Tryz.func185, by kernel_rfl, by kernel_rfl⟩
theorem fn186 : IsFn Tryz.prog 186 := ⟨Tryz.f186, Tryz.func186, by kernel_rfl, by kernel_rfl⟩
theorem fn187 : IsFn Tryz.prog 187 := ⟨Tryz.f187, Tryz.func187, by kernel_rfl, by kernel_rfl⟩
theorem fn188 : IsFn Tryz.prog 188 := ⟨Tryz.f188, Tryz.func188, by kernel_rfl, by kernel_rfl⟩
theorem fn189 : IsFn Tryz.prog 189 := ⟨Tryz.f189, Tryz.func189, by kernel_rfl, by kernel_rfl⟩
theorem fn190 : IsFn Tryz.prog 190 := ⟨Tryz.f190, Tryz.func190, by kernel_rfl, by kernel_rfl⟩
theorem fn191 : IsFn Tryz.prog 191 := ⟨Tryz.f191, Tryz.func191, by kernel_rfl, by kernel_rfl⟩
theorem fn192 : IsFn Tryz.prog 192 := ⟨Tryz.f192, Tryz.func192, by kernel_rfl, by kernel_rfl⟩
theorem fn193 : IsFn Tryz.prog 193 := ⟨Tryz.f193, Tryz.func193, by kernel_rfl, by kernel_rfl⟩
theorem fn194 : IsFn Tryz.prog 194 := ⟨Tryz.f194, Tryz.func194, by kernel_rfl, by kernel_rfl⟩
theorem fn195 : IsFn Tryz.prog 195 := ⟨Tryz.f195, Tryz.func195, by kernel_rfl, by kernel_rfl⟩
theorem fn196 : IsFn Tryz.prog 196 := ⟨Tryz.f196, Tryz.func196, by kernel_rfl, by kernel_rfl⟩
theorem fn242 : IsFn Tryz.prog 242 := ⟨Tryz.f242, Tryz.func242, by kernel_rfl, by kernel_rfl⟩
theorem fn243 : IsFn Tryz.prog 243 := ⟨Tryz.f243, Tryz.func243, by kernel_rfl, by kernel_rfl⟩
theorem fn244 : IsFn Tryz.prog 244 := ⟨Tryz.f244, Tryz.func244, by kernel_rfl, by kernel_rfl⟩
theorem fn245 : IsFn Tryz.prog 245 := ⟨Tryz.f245, Tryz.func245, by kernel_rfl, by kernel_rfl⟩
theorem fn246 : IsFn Tryz.prog 246 := ⟨Tryz.f246, Tryz.func246, by kernel_rfl, by kernel_rfl⟩
theorem fn247 : IsFn Tryz.prog 247 := ⟨Tryz.f247, Tryz.func247, by kernel_rfl, by kernel_rfl⟩
theorem fn248 : IsFn Tryz.prog 248 := ⟨Tryz.f248, Tryz.func248, by kernel_rfl, by kernel_rfl⟩
theorem fn283 : IsFn Tryz.prog 283 := ⟨Tryz.f283, Tryz.func283, by kernel_rfl, by kernel_rfl⟩
theorem fn284 : IsFn Tryz.prog 284 := ⟨Tryz.f284, Tryz.func284, by kernel_rfl, by kernel_rfl⟩
theorem fn285 : IsFn Tryz.prog 285 := ⟨Tryz.f285, Tryz.func285, by kernel_rfl, by kernel_rfl⟩
theorem fn286 : IsFn Tryz.prog 286 := ⟨Tryz.f286, Tryz.func286, by kernel_rfl, by kernel_rfl⟩
theorem fn318 : IsFn Tryz.prog 318 := ⟨Tryz.f318, Tryz.func318, by kernel_rfl, by kernel_rfl⟩
theorem fn319 : IsFn Tryz.prog 319 := ⟨Tryz.f319, Tryz.func319, by kernel_rfl, by kernel_rfl⟩
theorem fn320 : IsFn Tryz.prog 320 := ⟨Tryz.f320, Tryz.func320, by kernel_rfl, by kernel_rfl⟩
theorem fn321 : IsFn Tryz.prog 321 := ⟨Tryz.f321, Tryz.func321, by kernel_rfl, by kernel_rfl⟩
theorem fn322 : IsFn Tryz.prog 322 := ⟨Tryz.f322, Tryz.func322, by kernel_rfl, by kernel_rfl⟩
theorem fn323 : IsFn Tryz.prog 323 := ⟨Tryz.f323, Tryz.func323, by kernel_rfl, by kernel_rfl⟩
theorem fn324 : IsFn Tryz.prog 324 := ⟨Tryz.f324, Tryz.func324, by kernel_rfl, by kernel_rfl⟩
theorem fn354 : IsFn Tryz.prog 354 := ⟨Tryz.f354, Tryz.func354, by kernel_rfl, by kernel_rfl⟩
theorem fn355 : IsFn Tryz.prog 355 := ⟨Tryz.f355, Tryz.func355, by kernel_rfl, by kernel_rfl⟩
theorem fn356 : IsFn Tryz.prog 356 := ⟨Tryz.f356, Tryz.func356, by kernel_rfl, by kernel_rfl⟩
theorem fn357 : IsFn Tryz.prog 357 := ⟨Tryz.f357, Tryz.func357, by kernel_rfl, by kernel_rfl⟩
theorem fn358 : IsFn Tryz.prog 358 := ⟨Tryz.f358, Tryz.func358, by kernel_rfl, by kernel_rfl⟩
theorem mixed : (Tryz.prog).follows .mixedOrders = true := by kernel_rfl
end Go.Proofs.YtpofmnfkdkmieaaGreat.E
