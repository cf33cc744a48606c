import Derived.Test.YtpinpcefgbhdmaaDoorMem
import Derived.Laws.BytesString
namespace Go.Proofs.YtpinpcefgbhdmaaDoor
open Go.RowKit
set_option linter.unusedVariables false

/-- Bytes as a string. -/
def strB (xs : List Int) : ByteArray := ⟨(xs.map fun n => UInt8.ofNat n.toNat).toArray⟩

theorem foldl_push (xs : List Int) : ∀ s : ByteArray, xs.foldl (fun r n => r.push (UInt8.ofNat n.toNat)) s = ⟨s.data ++ (xs.map fun n => UInt8.ofNat n.toNat).toArray⟩ := by
  induction xs with
  | nil => intro s; simp
  | cons x xs ih =>
    intro s
    rw [List.foldl_cons, ih]
    simp [ByteArray.push]

theorem str_of {W : World} {ao : Option Addr} {len cap : Nat} {xs : List Int} (hr : Rd W ao len cap xs) :
    (convert 23 9 (.slice ao len cap)).run Tryd.prog W = .ok (.string (strB xs)) W := by
  rw [run_convert_bytes_string W 23 9 5 ao len cap Tryd.underlying23 Tryd.underlying5 Tryd.underlying9]
  have hl := hr.length
  cases ao with
  | none =>
    have hc := hr.nil rfl
    have h0 : len = 0 := by have := hr.le; omega
    subst h0
    have : xs = [] := List.eq_nil_of_length_eq_zero hl
    subst this
    rfl
  | some a =>
    rw [run_bytesToString W a len cap xs ?_, foldl_push]
    · have e : (ByteArray.empty).data = #[] := rfl
      rw [e, Array.empty_append]
      rfl
    · have := run_loadCells_list (P := Tryd.prog) W a (xs.map (Value.int .u8)) (fun j v hv => by
        rw [List.getElem?_map] at hv
        have hj : j < xs.length := by
          by_cases hj : j < xs.length
          · exact hj
          · rw [List.getElem?_eq_none (by omega)] at hv; simp at hv
        rw [List.getElem?_eq_getElem hj] at hv
        rcases hr.cells with h0 | ⟨b, off, he, hc⟩
        · omega
        · cases he
          rw [Addr.add_lit, hc j (by omega), List.getElem?_eq_getElem hj]
          simpa using hv)
      rw [List.length_map, hl] at this
      exact this
end Go.Proofs.YtpinpcefgbhdmaaDoor
