import Derived.Test.YtogdfdhdmfkmaaaGreatJYc
import Derived.Laws.BytesString
namespace Go.Proofs.YtogdfdhdmfkmaaaGreat
open Go.RowKit Go.Shelf
set_option linter.unusedVariables false
set_option linter.unusedSimpArgs false

/-- What is held in a drawn region may grow on the way. -/
theorem wpAnyH_to {P : Program} {md : Region.Mode} {ops : Array Oper} {Q : Exit → Act → World → Prop} {S : World → Prop} (S' : World → Prop) (hs : ∀ w, S' w → S w) : ∀ {fuel : Nat} {listed : Array Bool} {a : Act} {w : World}, wpAnyH P md ops Q S' fuel listed a w → wpAnyH P md ops Q S fuel listed a w
  | 0, _, _, _, h => h
  | fuel + 1, _, _, _, h => ⟨h.1, fun i hi => wpOp_mono (fun a' w' h' => ⟨hs _ h'.1, wpAnyH_to S' hs h'.2⟩) (h.2 i hi)⟩
/-- Bytes as a string. -/
def strJ (xs : List Int) : ByteArray := ⟨(xs.map fun n => UInt8.ofNat n.toNat).toArray⟩
theorem foldl_pushJ (xs : List Int) : ∀ s : ByteArray, xs.foldl (fun r n => r.push (UInt8.ofNat n.toNat)) s = ⟨s.data ++ (xs.map fun n => UInt8.ofNat n.toNat).toArray⟩ := by
  induction xs with
  | nil => intro s; simp
  | cons x xs ih =>
    intro s
    rw [List.foldl_cons, ih]
    simp [ByteArray.push]
def inJ (xs : List Nat) : List Int := xs.map fun (x : Nat) => (x : Int)
theorem bJ_in (xs : List Nat) : (inJ xs).map (Value.int .u8) = bJ xs := by unfold inJ bJ; rw [List.map_map]; rfl
end Go.Proofs.YtogdfdhdmfkmaaaGreat

