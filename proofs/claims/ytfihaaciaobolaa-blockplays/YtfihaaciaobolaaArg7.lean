/-
  Arguments that came in: arrays of four numbers, rows of numbers: what a walk is told of them. No conditions.
-/
import Derived.Test.YtfihaaciaobolaaCarg
import Derived.Test.YtfihaaciaobolaaMap6
namespace Go.Proofs.Ytfihaaciaobolaa
open Go.RowKit Go.Flo Go.ChangeShapes Go.WideShapes Go.Deep
set_option maxRecDepth 100000

section
variable {H : Type} {enc : TypeId × Value → H} {w : World} {base : Nat} {held : Bool}

theorem open_four {v : Value} {d : DataW H} {p : List MemPlace} {rr : Reach} {bb : Nat} (hv : Value.okWide Try.prog w rr bb 22 v) (h : DataW.Trod enc Try.prog w base (fun _ => true) held 22 v d p) :
    ∃ a0 a1 a2 a3 : Int, v = .agg #[.int .i64 a0, .int .i64 a1, .int .i64 a2, .int .i64 a3] := by
  obtain ⟨fuel, hf⟩ := h
  have hv' := hv
  simp only [Value.okWide, Try.underlying22] at hv'
  obtain ⟨cs, rfl, hsz, _⟩ := hv'
  rw [cellsArr] at hsz
  obtain ⟨l, rfl⟩ : ∃ l : List Value, cs = l.toArray := ⟨cs.toList, by simp⟩
  simp only [Value.cells] at hf
  match l, hsz with
  | [v1, v2, v3, v4], _ =>
    obtain ⟨zs, k, _, _, _, hz, ha⟩ := DataW.trod_array Try.underlying22 hf
    have geta : ∀ i, i < 4 → ∃ y, DataW.trod enc Try.prog w base (fun _ => true) held k 3 (([v1, v2, v3, v4].drop i).take 1) = some y := by
      intro i hi
      have h1 := ha i hi
      rw [cellsInt] at h1
      cases hx : zs[i]? with
      | none =>
        rw [List.getElem?_eq_none_iff] at hx
        omega
      | some y => exact ⟨y, by simpa using h1.trans hx⟩
    obtain ⟨z1, a1⟩ := geta 0 (by omega)
    obtain ⟨z2, a2⟩ := geta 1 (by omega)
    obtain ⟨z3, a3⟩ := geta 2 (by omega)
    obtain ⟨z4, a4⟩ := geta 3 (by omega)
    obtain ⟨b0, rfl, _⟩ := open_num (v := v1) (by simpa using a1)
    obtain ⟨b1, rfl, _⟩ := open_num (v := v2) (by simpa using a2)
    obtain ⟨b2, rfl, _⟩ := open_num (v := v3) (by simpa using a3)
    obtain ⟨b3, rfl, _⟩ := open_num (v := v4) (by simpa using a4)
    exact ⟨b0, b1, b2, b3, rfl⟩

theorem open_list {v : Value} {d : DataW H} {p : List MemPlace} (h : DataW.Trod enc Try.prog w base (fun _ => true) held 43 v d p) (hv : v.cells = #[v]) : ∃ (a : Option Addr) (len cap : Nat) (f : Nat → Int), v = .slice a len cap ∧ Ints w a len cap f := by
  obtain ⟨fuel, hf⟩ := h
  rw [hv] at hf
  exact open_nums hf
end
end Go.Proofs.Ytfihaaciaobolaa
