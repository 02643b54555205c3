/- A row of numbers as an argument. -/
import Derived.Test.YtdkaoopkbhaheaaQR5
import Derived.Test.YtdkaoopkbhaheaaQN39
namespace Go.Proofs.Ytdkaoopkbhaheaa.ringsArg
open Go.ChangeShapes Go.WideShapes Go.ChangeAt Go.RowKit Go.Deep
open Jor

theorem wf_i64 {x : Int} (h : (Lit.int .i64 x).wf = true) : -9223372036854775808 ≤ x ∧ x ≤ 9223372036854775807 := bounds_i64 h
theorem ints_open {H : Type} {enc : TypeId × Value → H} {W : World} {sp : Nat → Bool} {a : Option Addr} {len cap : Nat} {d : DataW H} {p : List MemPlace}
    (h : DataW.Trod enc Try.prog W 0 sp true 59 (.slice a len cap) d p) : ∃ Z, Ints W a len Z ∧ len ≤ cap ∧ cap ≤ 9223372036854775807 := by
  obtain ⟨fuel, hf⟩ := h
  rcases open_ints Try.underlying59 Try.underlying3 (by kernel_rfl) hf with ⟨hcs, _⟩ | ⟨x, l, c, zs, hcs, _, hl, hm, hz, _, hcell, hwz⟩
  · simp [Value.cells] at hcs
    obtain ⟨rfl, rfl, rfl⟩ := hcs
    exact ⟨fun _ => 0, .inl rfl, by omega, by omega⟩
  · simp [Value.cells] at hcs
    obtain ⟨rfl, rfl, rfl⟩ := hcs
    have hz' : len ≤ zs.length := by rw [hz]; split <;> omega
    refine ⟨fun i => zs.getD i 0, ?_, hl, by unfold maxLen at hm; omega⟩
    rcases Nat.eq_zero_or_pos len with q | q
    · exact .inl q
    · have h0 := hcell 0 (by omega)
      have sp0 := spotless h0
      obtain ⟨b, o, s⟩ := x
      have es : s = none := by
        cases s with
        | none => rfl
        | some s =>
          unfold World.cell? Addr.add at h0
          split at h0 <;> simp at h0
      subst es
      refine .inr ⟨b, o, rfl, fun i hi => ⟨?_, ?_⟩⟩
      · have := hcell i (by omega)
        have e : (⟨b, o, none⟩ : Addr).add i = ⟨b, o + i, none⟩ := by
          unfold Addr.add
          split
          · next h => rw [h]; rfl
          · rfl
        rw [e] at this
        exact this
      have hi' : i < zs.length := by omega
      have := wf_i64 (hwz _ (List.getElem_mem hi'))
      show _ ≤ zs.getD i 0 ∧ zs.getD i 0 ≤ _
      rw [getD_elem _ _ _ hi']
      exact this
end Go.Proofs.Ytdkaoopkbhaheaa.ringsArg
