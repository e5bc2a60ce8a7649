/-
  Values and their words as plain facts. No conditions but each theorem's own.
-/
import Derived.Test.YtigclopkoolocaaDoorOv3
namespace Go.Proofs.YtigclopkoolocaaDoor
open Go.RowKit Go.Flo
set_option maxRecDepth 100000

def Kind4 (K : Int) : Prop := K = 0 ∨ K = 1 ∨ K = 2 ∨ K = 3

theorem sameV_self {v : Val} (h : Kind4 v.K) : sameV v v = true := by
  obtain ⟨K, n, p, q, r⟩ := v
  rcases h with h | h | h | h <;> (dsimp only at h; subst h; simp [sameV])

theorem sameV_none {v : Val} (h : ¬ Kind4 v.K) : sameV v v = false := by
  obtain ⟨K, n, p, q, r⟩ := v
  unfold Kind4 at h
  dsimp only at h
  unfold sameV
  dsimp only
  rw [if_neg (by simp), if_neg (by omega), if_neg (by omega), if_neg (by omega), if_neg (by omega)]

theorem sameV_iff {a b : Val} (ha : Kind4 a.K) : sameV a b = true ↔ plainV a = plainV b := by
  obtain ⟨K, n, p, q, r⟩ := a
  obtain ⟨K', n', p', q', r'⟩ := b
  by_cases hK : K = K'
  · subst hK
    rcases ha with h | h | h | h <;> (dsimp only at h; subst h; simp [sameV, plainV])
  · have h1 : sameV ⟨K, n, p, q, r⟩ ⟨K', n', p', q', r'⟩ = false := by simp [sameV, hK]
    rw [h1]
    refine ⟨fun h => (by cases h), fun h => absurd ?_ hK⟩
    have hk : ∀ v : Val, (plainV v).K = v.K := fun v => by
      unfold plainV
      split
      · rename_i e; exact e.symm
      split
      · rename_i e; exact e.symm
      split
      · rename_i e; exact e.symm
      rfl
    have := congrArg Val.K h
    rw [hk, hk] at this
    exact this

theorem sameV_symm (a b : Val) : sameV a b = sameV b a := by
  obtain ⟨K, n, p, q, r⟩ := a
  obtain ⟨K', n', p', q', r'⟩ := b
  by_cases hK : K = K'
  · subst hK
    unfold sameV
    dsimp only
    rw [Bool.beq_comm (a := n), Bool.beq_comm (a := p), Bool.beq_comm (a := q), Bool.beq_comm (a := r)]
  · have hK' : ¬ K' = K := fun e => hK e.symm
    simp [sameV, hK, hK']

theorem plainV_plain (v : Val) : plainV (plainV v) = plainV v := by
  obtain ⟨K, n, p, q, r⟩ := v
  unfold plainV
  dsimp only
  split
  · rfl
  split
  · rfl
  split
  · rfl
  rename_i h1 h2 h3
  simp [h1, h2, h3]

theorem sameV_plain {v : Val} (h : Kind4 v.K) : sameV v (plainV v) = true := (sameV_iff h).2 (plainV_plain v).symm

theorem ofV_kind (kind : Int) (l : List Int) : Kind4 ((ofV kind l).getD z0).K := by
  unfold ofV
  split
  · split
    · exact Or.inr (Or.inl rfl)
    split
    · split
      · exact Or.inl rfl
      split
      · exact Or.inr (Or.inr (Or.inr rfl))
      · exact Or.inl rfl
    · exact Or.inl rfl
  · split
    · exact Or.inr (Or.inr (Or.inl rfl))
    · exact Or.inl rfl
  · exact Or.inl rfl

/-- One word, told. -/
def OneP (x : Int) (w : World) (e : Ending) (w' : World) : Prop := ∃ b o, e = .returned (.tuple #[.slice (some ⟨b, o, none⟩) 1 1, .bool true]) ∧ b < w'.heap.size ∧ w'.cell? ⟨b, o, none⟩ = some (.int .u64 x) ∧ Keep [] w w'
def TwoP (x y : Int) (w : World) (e : Ending) (w' : World) : Prop := ∃ b o, e = .returned (.tuple #[.slice (some ⟨b, o, none⟩) 2 2, .bool true]) ∧ b < w'.heap.size ∧ w'.cell? ⟨b, o, none⟩ = some (.int .u64 x) ∧ w'.cell? ⟨b, o + 1, none⟩ = some (.int .u64 y) ∧ Keep [] w w'

theorem WPost.one {x : Int} {w : World} {e : Ending} {w' : World} (h : WPost (some [x]) w e w') : OneP x w e w' := by
  obtain ⟨A, he, hA, hk⟩ := h
  obtain ⟨b, o, rfl, hb, hc⟩ := hA.cells (by simp)
  exact ⟨b, o, he, hb, hc 0 (by simp), hk⟩
theorem WPost.two {x y : Int} {w : World} {e : Ending} {w' : World} (h : WPost (some [x, y]) w e w') : TwoP x y w e w' := by
  obtain ⟨A, he, hA, hk⟩ := h
  obtain ⟨b, o, rfl, hb, hc⟩ := hA.cells (by simp)
  exact ⟨b, o, he, hb, hc 0 (by simp), hc 1 (by simp), hk⟩

theorem wrap_range (x : Int) : 0 ≤ IntKind.u64.wrap x ∧ IntKind.u64.wrap x < 18446744073709551616 := by
  simp [IntKind.wrap, IntKind.bits, IntKind.signed]
  omega

theorem back64 {x : Int} (h0 : -9223372036854775808 ≤ x) (h1 : x ≤ 9223372036854775807) : wrap64 (IntKind.u64.wrap x) = x := by
  simp [IntKind.wrap, IntKind.bits, IntKind.signed]
  unfold wrap64
  omega

/-- The one kind of field that a value may fit. -/
def kindN (K : Int) : Int := if K = 1 then 1 else if K = 2 then 2 else 3

theorem words_kind {k : Int} {v : Val} (h : (wordsV k v).isSome = true) : k = kindN v.K := by
  unfold wordsV at h
  unfold kindN
  split at h
  · rename_i e; rw [if_pos e.2]; exact e.1
  split at h
  · rename_i e; rw [if_neg (by omega), if_pos e.2]; exact e.1
  split at h
  · rename_i e; rw [if_neg (by omega), if_neg (by omega)]; exact e.1
  split at h
  · rename_i e; rw [if_neg (by omega), if_neg (by omega)]; exact e.1
  · cases h

theorem fwd64 {x : Int} (h0 : 0 ≤ x) (h1 : x < 18446744073709551616) : IntKind.u64.wrap (wrap64 x) = x := by
  simp [IntKind.wrap, IntKind.bits, IntKind.signed]
  unfold wrap64
  omega

/-- What is told of words is told back. -/
theorem words_back {kind : Int} {l : List Int} {V : Val} (hl : ∀ x ∈ l, 0 ≤ x ∧ x < 18446744073709551616) (h : ofV kind l = some V) : wordsV kind V = some l := by
  revert hl h
  match l with
  | [] => intro hl h; cases h
  | [x] =>
    intro hl h
    have hx := hl x (by simp)
    rw [ofV_one] at h
    by_cases e1 : kind = 1
    · rw [if_pos e1] at h
      injection h with h
      subst h e1
      unfold wordsV
      rw [if_pos ⟨rfl, rfl⟩, fwd64 hx.1 hx.2]
    rw [if_neg e1] at h
    by_cases e3 : kind = 3
    case neg => rw [if_neg e3] at h; cases h
    rw [if_pos e3] at h
    subst e3
    by_cases e0 : x = 0
    · rw [if_pos e0] at h
      injection h with h
      subst h e0
      rfl
    rw [if_neg e0] at h
    by_cases e4 : x ≤ 1099511627777
    case neg => rw [if_neg e4] at h; cases h
    rw [if_pos e4] at h
    injection h with h
    subst h
    unfold wordsV
    dsimp only
    rw [if_neg (by omega), if_neg (by omega), if_neg (by omega), if_pos ⟨rfl, rfl, by omega, by omega⟩, show x - 1 + 1 = x by omega]
  | [x, y] =>
    intro hl h
    rw [ofV_two] at h
    by_cases e2 : kind = 2
    case neg => rw [if_neg e2] at h; cases h
    rw [if_pos e2] at h
    injection h with h
    subst h e2
    rfl
  | x :: y :: z :: r => intro hl h; cases h
end Go.Proofs.YtigclopkoolocaaDoor
