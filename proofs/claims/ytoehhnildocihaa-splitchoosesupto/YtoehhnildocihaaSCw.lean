import Derived.Test.YtoehhnildocihaaSCb4
import Ieee.Arith
import Derived.Test.YtoehhnildocihaaChecked
import Derived.WalkKit
import Derived.WalkSmall
import Derived.WalkLawsBesides
import Derived.Lib.EndianBits
import Derived.Laws.Bits128
import Derived.Laws.BitsAll
import Derived.BigQuiet
import Derived.Deep.WholeRow
import Derived.Deep.MidRow
import Derived.Laws.CopyOwn
import Derived.Deep.RegionHeld3
import Derived.Deep.QuietTactic
import Derived.Deep.RegionWith
import Derived.Deep.DeepCutAuto
import Derived.Laws.OwnMore
import Derived.ArgAppend
import Derived.OwnWalk
import Derived.Orders
import Derived.RegionTactic
import Derived.Below
import Derived.Deep.CutRange
import Derived.Laws.AppendOwnNone
namespace Go.Proofs.Ytoehhnildocihaa
set_option linter.unusedVariables false
end Go.Proofs.Ytoehhnildocihaa
namespace Go.Proofs.Ytoehhnildocihaa
set_option linter.unusedVariables false
end Go.Proofs.Ytoehhnildocihaa
namespace Go.Proofs.Ytoehhnildocihaa
set_option linter.unusedVariables false
end Go.Proofs.Ytoehhnildocihaa
namespace Go.Proofs.Ytoehhnildocihaa
end Go.Proofs.Ytoehhnildocihaa
namespace Go.Proofs.Ytoehhnildocihaa
open Ieee
set_option linter.unusedVariables false
end Go.Proofs.Ytoehhnildocihaa
namespace Go.Proofs.Ytoehhnildocihaa
open Ieee
set_option linter.unusedVariables false
end Go.Proofs.Ytoehhnildocihaa
namespace Go.Proofs.Ytoehhnildocihaa
open Ieee
set_option linter.unusedVariables false
end Go.Proofs.Ytoehhnildocihaa
namespace Go.Proofs.Ytoehhnildocihaa
open Ieee
set_option linter.unusedVariables false
end Go.Proofs.Ytoehhnildocihaa
namespace Go.Proofs.Ytoehhnildocihaa
open Ieee
set_option linter.unusedVariables false
end Go.Proofs.Ytoehhnildocihaa
namespace Go.Proofs.Ytoehhnildocihaa
open Ieee
set_option linter.unusedVariables false
end Go.Proofs.Ytoehhnildocihaa
namespace Go.Proofs.Ytoehhnildocihaa
set_option linter.unusedVariables false
end Go.Proofs.Ytoehhnildocihaa
namespace Go.Proofs.Ytoehhnildocihaa
set_option linter.unusedVariables false
end Go.Proofs.Ytoehhnildocihaa
namespace Go.Proofs.Ytoehhnildocihaa
set_option linter.unusedVariables false
end Go.Proofs.Ytoehhnildocihaa
namespace Go.Proofs.Ytoehhnildocihaa
set_option linter.unusedVariables false
end Go.Proofs.Ytoehhnildocihaa
namespace Go.Proofs.Ytoehhnildocihaa
open Ieee
set_option linter.unusedVariables false
end Go.Proofs.Ytoehhnildocihaa
namespace Go.Proofs.Ytoehhnildocihaa
open Ieee
set_option linter.unusedVariables false
end Go.Proofs.Ytoehhnildocihaa
namespace Go.Proofs.Ytoehhnildocihaa
open Ieee
set_option linter.unusedVariables false
end Go.Proofs.Ytoehhnildocihaa
namespace Go.Proofs.Ytoehhnildocihaa
open Ieee
set_option linter.unusedVariables false
end Go.Proofs.Ytoehhnildocihaa
namespace Go.Proofs.Ytoehhnildocihaa
open Ieee
set_option linter.unusedVariables false
end Go.Proofs.Ytoehhnildocihaa
namespace Go.Proofs.Ytoehhnildocihaa
open Ieee
set_option linter.unusedVariables false
end Go.Proofs.Ytoehhnildocihaa
namespace Go.Proofs.Ytoehhnildocihaa
open Ieee
set_option linter.unusedVariables false
end Go.Proofs.Ytoehhnildocihaa
namespace Go.Proofs.Ytoehhnildocihaa
open Ieee
set_option linter.unusedVariables false
end Go.Proofs.Ytoehhnildocihaa
namespace Go.Proofs.Ytoehhnildocihaa
set_option linter.unusedVariables false
end Go.Proofs.Ytoehhnildocihaa
namespace Go.Proofs.Ytoehhnildocihaa
set_option linter.unusedVariables false
end Go.Proofs.Ytoehhnildocihaa
namespace Go.Proofs.Ytoehhnildocihaa
set_option linter.unusedVariables false
end Go.Proofs.Ytoehhnildocihaa
namespace Go.Proofs.Ytoehhnildocihaa
set_option linter.unusedVariables false
end Go.Proofs.Ytoehhnildocihaa
namespace Go.Proofs.Ytoehhnildocihaa
set_option linter.unusedVariables false
open Ieee
end Go.Proofs.Ytoehhnildocihaa
namespace Go.Proofs.Ytoehhnildocihaa
set_option linter.unusedVariables false
end Go.Proofs.Ytoehhnildocihaa
namespace Go.Proofs.Ytoehhnildocihaa
set_option linter.unusedVariables false
end Go.Proofs.Ytoehhnildocihaa

namespace Go.Proofs.Ytoehhnildocihaa
open Go.RowKit
set_option linter.unusedVariables false
end Go.Proofs.Ytoehhnildocihaa

namespace Go.Proofs.Ytoehhnildocihaa
open Go.RowKit
set_option linter.unusedVariables false
end Go.Proofs.Ytoehhnildocihaa

namespace Go.Proofs.Ytoehhnildocihaa
open Go.RowKit
set_option linter.unusedVariables false
end Go.Proofs.Ytoehhnildocihaa

namespace Go.Proofs.Ytoehhnildocihaa
open Go.RowKit Go.Shelf
set_option linter.unusedVariables false
end Go.Proofs.Ytoehhnildocihaa

namespace Go.Proofs.Ytoehhnildocihaa
open Go.RowKit Go.Shelf
set_option linter.unusedVariables false
attribute [local go_sem] Oper.semAt_some
end Go.Proofs.Ytoehhnildocihaa

namespace Go.Proofs.Ytoehhnildocihaa
open Go.RowKit
set_option linter.unusedVariables false
end Go.Proofs.Ytoehhnildocihaa

namespace Go.Proofs.Ytoehhnildocihaa
open Go.RowKit
set_option linter.unusedVariables false
end Go.Proofs.Ytoehhnildocihaa

namespace Go.Proofs.Ytoehhnildocihaa
open Go.RowKit
set_option linter.unusedVariables false
end Go.Proofs.Ytoehhnildocihaa

namespace Go.Proofs.Ytoehhnildocihaa
open Go.RowKit
set_option linter.unusedVariables false
end Go.Proofs.Ytoehhnildocihaa

namespace Go.Proofs.Ytoehhnildocihaa
open Go.RowKit
set_option linter.unusedVariables false
set_option linter.unusedSimpArgs false
end Go.Proofs.Ytoehhnildocihaa

namespace Go.Proofs.Ytoehhnildocihaa
open Go.RowKit
set_option linter.unusedVariables false
end Go.Proofs.Ytoehhnildocihaa

namespace Go.Proofs.Ytoehhnildocihaa
open Go.RowKit
set_option linter.unusedVariables false
end Go.Proofs.Ytoehhnildocihaa

namespace Go.Proofs.Ytoehhnildocihaa
open Go.RowKit Go.Shelf
set_option linter.unusedVariables false
open Ieee
end Go.Proofs.Ytoehhnildocihaa

namespace Go.Proofs.Ytoehhnildocihaa
open Go.RowKit Go.Shelf
set_option linter.unusedVariables false
set_option linter.unusedSimpArgs false
end Go.Proofs.Ytoehhnildocihaa

namespace Go.Proofs.Ytoehhnildocihaa
open Go.RowKit Go.Shelf
set_option linter.unusedVariables false
open Ieee
end Go.Proofs.Ytoehhnildocihaa

namespace Go.Proofs.Ytoehhnildocihaa
open Go.RowKit Go.Shelf
set_option linter.unusedVariables false
set_option linter.unusedSimpArgs false
end Go.Proofs.Ytoehhnildocihaa

namespace Go.Proofs.Ytoehhnildocihaa
open Go.RowKit Go.Shelf
set_option linter.unusedVariables false
set_option linter.unusedSimpArgs false
end Go.Proofs.Ytoehhnildocihaa

namespace Go.Proofs.Ytoehhnildocihaa
open Go.RowKit
set_option linter.unusedVariables false
end Go.Proofs.Ytoehhnildocihaa

namespace Go.Proofs.Ytoehhnildocihaa
open Go.RowKit Go.Shelf
set_option linter.unusedVariables false
set_option linter.unusedSimpArgs false
end Go.Proofs.Ytoehhnildocihaa

namespace Go.Proofs.Ytoehhnildocihaa
open Go.RowKit
set_option linter.unusedVariables false
set_option linter.unusedSimpArgs false
end Go.Proofs.Ytoehhnildocihaa

namespace Go.Proofs.Ytoehhnildocihaa
open Go.RowKit Go.Shelf
set_option linter.unusedVariables false
set_option linter.unusedSimpArgs false
attribute [local go_sem] Oper.semAt_some
end Go.Proofs.Ytoehhnildocihaa

namespace Go.Proofs.Ytoehhnildocihaa
open Go.RowKit Go.Shelf
set_option linter.unusedVariables false
set_option linter.unusedSimpArgs false
end Go.Proofs.Ytoehhnildocihaa

namespace Go.Proofs.Ytoehhnildocihaa
open Go.RowKit Go.Shelf
set_option linter.unusedVariables false
set_option linter.unusedSimpArgs false
end Go.Proofs.Ytoehhnildocihaa

namespace Go.Proofs.Ytoehhnildocihaa
open Go.RowKit Go.Shelf
set_option linter.unusedVariables false
set_option linter.unusedSimpArgs false
end Go.Proofs.Ytoehhnildocihaa

namespace Go.Proofs.Ytoehhnildocihaa
open Go.RowKit Go.Shelf
set_option linter.unusedVariables false
set_option linter.unusedSimpArgs false
end Go.Proofs.Ytoehhnildocihaa

namespace Go.Proofs.Ytoehhnildocihaa
open Go.RowKit Go.Shelf
set_option linter.unusedVariables false
set_option linter.unusedSimpArgs false
end Go.Proofs.Ytoehhnildocihaa

namespace Go.Proofs.Ytoehhnildocihaa
open Go.RowKit Go.Shelf
set_option linter.unusedVariables false
set_option linter.unusedSimpArgs false
theorem colsB_drop (z : ZD) : ∀ (m k : Nat) (last : Int), k + m = z.dn → (colsB z last ((List.finRange z.dn).drop k) = true ↔ ∀ j : Nat, k ≤ j → j < z.dn → (if j = k then last else z.ids[j - 1]?.getD 0) < z.ids[j]?.getD 0 ∧ z.ids[j]?.getD 0 ≤ 1073741824 ∧ numN (z.gs[j]?.getD []) z.N = true)
  | 0, k, last, h => by
    rw [List.drop_of_length_le (by rw [List.length_finRange]; omega)]
    exact ⟨fun _ j h1 h2 => by omega, fun _ => rfl⟩
  | m + 1, k, last, h => by
    have hk : k < (List.finRange z.dn).length := by rw [List.length_finRange]; omega
    rw [List.drop_eq_getElem_cons hk]
    have ih := colsB_drop z m (k + 1) (z.ids[k]?.getD 0) (by omega)
    have hst : colsB z last ((List.finRange z.dn)[k] :: (List.finRange z.dn).drop (k + 1)) = (colOk z last (List.finRange z.dn)[k] && colsB z (idZ z (List.finRange z.dn)[k]) ((List.finRange z.dn).drop (k + 1))) := rfl
    have he : ((List.finRange z.dn)[k]).val = k := by simp
    have hid : idZ z (List.finRange z.dn)[k] = z.ids[k]?.getD 0 := by unfold idZ; rw [he]
    rw [hst, Bool.and_eq_true, hid, ih]
    unfold colOk
    rw [hid, he]
    simp only [Bool.and_eq_true, decide_eq_true_eq]
    constructor
    · rintro ⟨⟨⟨a1, a2⟩, a3⟩, a4⟩ j h1 h2
      by_cases e : j = k
      · subst e; rw [if_pos rfl]; exact ⟨a1, a2, a3⟩
      · have := a4 j (by omega) h2
        rw [if_neg e]
        by_cases e' : j = k + 1
        · subst e'; rw [if_pos rfl] at this; rw [Nat.add_sub_cancel]; exact this
        · rw [if_neg e'] at this; exact this
    · intro H
      have h0 := H k (Nat.le_refl _) (by omega)
      rw [if_pos rfl] at h0
      refine ⟨⟨⟨h0.1, h0.2.1⟩, h0.2.2⟩, fun j h1 h2 => ?_⟩
      have := H j (by omega) h2
      rw [if_neg (by omega)] at this
      by_cases e' : j = k + 1
      · subst e'; rw [if_pos rfl]; rw [Nat.add_sub_cancel] at this; exact this
      · rw [if_neg e']; exact this
theorem wholeB_iff (z : ZD) : wholeB z = true ↔ (1 ≤ z.N ∧ z.N ≤ 256 ∧ numN z.cs z.N = true ∧ numN z.rs z.N = true ∧ z.dn = z.gn ∧ posB z.rs = true ∧ ∀ j : Nat, j < z.dn → (if j = 0 then -1 else z.ids[j - 1]?.getD 0) < z.ids[j]?.getD 0 ∧ z.ids[j]?.getD 0 ≤ 1073741824 ∧ numN (z.gs[j]?.getD []) z.N = true) := by
  have h := colsB_drop z z.dn 0 (-1) (by omega)
  rw [List.drop_zero] at h
  unfold wholeB
  simp only [Bool.and_eq_true, decide_eq_true_eq, h]
  constructor
  · rintro ⟨⟨⟨⟨⟨⟨a1, a2⟩, a3⟩, a4⟩, a5⟩, a6⟩, a7⟩
    exact ⟨a1, a2, a3, a4, a5, a6, fun j hj => a7 j (Nat.zero_le _) hj⟩
  · rintro ⟨a1, a2, a3, a4, a5, a6, a7⟩
    exact ⟨⟨⟨⟨⟨⟨a1, a2⟩, a3⟩, a4⟩, a5⟩, a6⟩, fun j _ hj => a7 j hj⟩
end Go.Proofs.Ytoehhnildocihaa

namespace Go.Proofs.Ytoehhnildocihaa
open Go.RowKit Go.Shelf
set_option linter.unusedVariables false
set_option linter.unusedSimpArgs false
end Go.Proofs.Ytoehhnildocihaa

namespace Go.Proofs.Ytoehhnildocihaa
open Go.RowKit Go.Shelf
set_option linter.unusedVariables false
open Ieee
end Go.Proofs.Ytoehhnildocihaa

namespace Go.Proofs.Ytoehhnildocihaa
open Go.RowKit Go.Shelf
set_option linter.unusedVariables false
set_option linter.unusedSimpArgs false
end Go.Proofs.Ytoehhnildocihaa

namespace Go.Proofs.Ytoehhnildocihaa
open Go.RowKit Go.Shelf
set_option linter.unusedVariables false
set_option linter.unusedSimpArgs false
end Go.Proofs.Ytoehhnildocihaa
