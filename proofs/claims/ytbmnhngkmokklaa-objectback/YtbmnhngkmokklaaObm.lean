/-
  Objects as words in plain lists: the fields' words one behind another, and back. No program is named here. Each theorem bears its own conditions.
-/
import Derived.Test.YtbmnhngkmokklaaOv4
import Derived.Test.YtbmnhngkmokklaaLcf
namespace Go.Proofs.Ytbmnhngkmokklaa
open Go.RowKit Go.Flo

/-- The words of the first k fields. -/
def encA (f : Nat → Int) (F : Nat → Val) : Nat → Option (List Int)
  | 0 => some []
  | k + 1 => (encA f F k).bind fun l => (wordsV (f k) (F k)).map fun x => l ++ x

/-- The words of the field k, where an object's words are W (its header is the first). -/
def seg (f : Nat → Int) (W : List Int) (k : Nat) : List Int := (W.drop (sumF f k)).take (fw (f k))

/-- The first k fields of words. -/
def decA (f : Nat → Int) (W : List Int) : Nat → Option (List Val)
  | 0 => some []
  | k + 1 => (decA f W k).bind fun l => (ofV (f k) (seg f W k)).map fun v => l ++ [v]

theorem words_len {k : Int} {v : Val} {x : List Int} (h : wordsV k v = some x) : x.length = fw k ∧ OkF k := by
  unfold wordsV at h
  unfold fw OkF
  split at h
  · rename_i e; injection h with h; subst h; rw [if_neg (by omega)]; exact ⟨rfl, by omega⟩
  split at h
  · rename_i e; injection h with h; subst h; rw [if_pos e.1]; exact ⟨rfl, by omega⟩
  split at h
  · rename_i e; injection h with h; subst h; rw [if_neg (by omega)]; exact ⟨rfl, by omega⟩
  split at h
  · rename_i e; injection h with h; subst h; rw [if_neg (by omega)]; exact ⟨rfl, by omega⟩
  · cases h

theorem words_rng {k : Int} {v : Val} {x : List Int} (hp : (0 ≤ v.p ∧ v.p < 18446744073709551616) ∧ 0 ≤ v.q ∧ v.q < 18446744073709551616) (h : wordsV k v = some x) : ∀ y ∈ x, 0 ≤ y ∧ y < 18446744073709551616 := by
  unfold wordsV at h
  split at h
  · injection h with h; subst h; intro y hy; simp at hy; subst hy; exact wrap_range _
  split at h
  · injection h with h; subst h; intro y hy; simp at hy; rcases hy with rfl | rfl
    · exact hp.1
    · exact hp.2
  split at h
  · injection h with h; subst h; intro y hy; simp at hy; subst hy; omega
  split at h
  · rename_i e; injection h with h; subst h; intro y hy; simp at hy; subst hy; omega
  · cases h

/-- A field's words are read as the value that they were. -/
theorem of_words {k : Int} {v : Val} {x : List Int} (hn : -9223372036854775808 ≤ v.n ∧ v.n ≤ 9223372036854775807) (h : wordsV k v = some x) : ofV k x = some (plainV v) := by
  obtain ⟨K, n, p, q, r⟩ := v
  dsimp only at hn
  unfold wordsV at h
  dsimp only at h
  split at h
  · rename_i e; obtain ⟨rfl, rfl⟩ := e; injection h with h; subst h
    rw [ofV_one, if_pos rfl, back64 hn.1 hn.2]; rfl
  split at h
  · rename_i e; obtain ⟨rfl, rfl⟩ := e; injection h with h; subst h; rfl
  split at h
  · rename_i e; obtain ⟨rfl, rfl⟩ := e; injection h with h; subst h; rfl
  split at h
  · rename_i e; obtain ⟨rfl, rfl, h0, h1⟩ := e; injection h with h; subst h
    rw [ofV_one, if_neg (by decide), if_pos rfl, if_neg (by omega), if_pos (by omega), show r + 1 - 1 = r by omega]; rfl
  · cases h

theorem encA_some {f : Nat → Int} {F : Nat → Val} {k : Nat} {l : List Int} (h : encA f F (k + 1) = some l) : ∃ l0 x, encA f F k = some l0 ∧ wordsV (f k) (F k) = some x ∧ l = l0 ++ x := by
  simp only [encA] at h
  cases h0 : encA f F k with
  | none => rw [h0] at h; cases h
  | some l0 =>
    rw [h0] at h
    cases h1 : wordsV (f k) (F k) with
    | none => rw [h1] at h; cases h
    | some x => rw [h1] at h; injection h with h; exact ⟨l0, x, rfl, rfl, h.symm⟩

theorem encA_len {f : Nat → Int} {F : Nat → Val} : ∀ {k : Nat} {l : List Int}, encA f F k = some l → l.length + 1 = sumF f k
  | 0, l, h => by injection h with h; subst h; rfl
  | k + 1, l, h => by
    obtain ⟨l0, x, h0, h1, rfl⟩ := encA_some h
    have := encA_len h0
    have := (words_len h1).1
    rw [List.length_append]
    show l0.length + x.length + 1 = sumF f k + fw (f k)
    omega

theorem encA_congr {f : Nat → Int} {F F' : Nat → Val} : ∀ {k : Nat}, (∀ j, j < k → wordsV (f j) (F j) = wordsV (f j) (F' j)) → encA f F k = encA f F' k
  | 0, _ => rfl
  | k + 1, h => by
    simp only [encA]
    rw [encA_congr (fun j hj => h j (by omega)), h k (by omega)]

theorem encA_okF {f : Nat → Int} {F : Nat → Val} : ∀ {k : Nat} {l : List Int}, encA f F k = some l → ∀ j, j < k → OkF (f j)
  | 0, _, _ => fun j hj => by omega
  | k + 1, l, h => fun j hj => by
    obtain ⟨l0, x, h0, h1, rfl⟩ := encA_some h
    rcases Nat.lt_succ_iff_lt_or_eq.1 hj with hj | rfl
    · exact encA_okF h0 j hj
    · exact (words_len h1).2

theorem encA_rng {f : Nat → Int} {F : Nat → Val} : ∀ {k : Nat} {l : List Int}, (∀ j, j < k → (0 ≤ (F j).p ∧ (F j).p < 18446744073709551616) ∧ 0 ≤ (F j).q ∧ (F j).q < 18446744073709551616) → encA f F k = some l → ∀ y ∈ l, 0 ≤ y ∧ y < 18446744073709551616
  | 0, l, _, h => by injection h with h; subst h; simp
  | k + 1, l, hF, h => by
    obtain ⟨l0, x, h0, h1, rfl⟩ := encA_some h
    intro y hy
    rcases List.mem_append.1 hy with hy | hy
    · exact encA_rng (fun j hj => hF j (by omega)) h0 y hy
    · exact words_rng (hF k (by omega)) h1 y hy

/-- Each field's words stand where they stand. -/
theorem enc_seg {f : Nat → Int} {F : Nat → Val} (h : Int) : ∀ {m : Nat} {l : List Int} (more : List Int), encA f F m = some l → ∀ k, k < m → wordsV (f k) (F k) = some (seg f (h :: l ++ more) k)
  | 0, _, _, _ => fun k hk => by omega
  | m + 1, l, more, he => fun k hk => by
    obtain ⟨l0, x, h0, h1, rfl⟩ := encA_some he
    have e : h :: (l0 ++ x) ++ more = h :: l0 ++ (x ++ more) := by simp
    rw [e]
    rcases Nat.lt_succ_iff_lt_or_eq.1 hk with hk | rfl
    · exact enc_seg h (x ++ more) h0 k hk
    · have hl := encA_len h0
      have hx := (words_len h1).1
      rw [h1]
      unfold seg
      rw [List.drop_append_of_le_length (by simp; omega), List.drop_eq_nil_of_le (by simp; omega), List.nil_append, ← hx, List.take_left']
      rfl

/-- What is encoded is decoded as it was, whatever stands behind. -/
theorem dec_enc {f : Nat → Int} {F : Nat → Val} {m : Nat} {l : List Int} (h : Int) (more : List Int) (hF : ∀ j, j < m → -9223372036854775808 ≤ (F j).n ∧ (F j).n ≤ 9223372036854775807) (he : encA f F m = some l) :
    ∀ k, k ≤ m → decA f (h :: l ++ more) k = some ((List.range k).map fun j => plainV (F j))
  | 0, _ => rfl
  | k + 1, hk => by
    simp only [decA]
    rw [dec_enc h more hF he k (by omega), of_words (hF k (by omega)) (enc_seg h more he k (by omega)), List.range_succ, List.map_append]
    rfl

theorem decA_some {f : Nat → Int} {W : List Int} {k : Nat} {L : List Val} (h : decA f W (k + 1) = some L) : ∃ L0 v, decA f W k = some L0 ∧ ofV (f k) (seg f W k) = some v ∧ L = L0 ++ [v] := by
  simp only [decA] at h
  cases h0 : decA f W k with
  | none => rw [h0] at h; cases h
  | some L0 =>
    rw [h0] at h
    cases h1 : ofV (f k) (seg f W k) with
    | none => rw [h1] at h; cases h
    | some v => rw [h1] at h; injection h with h; exact ⟨L0, v, rfl, rfl, h.symm⟩

theorem decA_len {f : Nat → Int} {W : List Int} : ∀ {k : Nat} {L : List Val}, decA f W k = some L → L.length = k
  | 0, L, h => by injection h with h; subst h; rfl
  | k + 1, L, h => by
    obtain ⟨L0, v, h0, _, rfl⟩ := decA_some h
    rw [List.length_append, decA_len h0]
    rfl

/-- Words that are an object's are the words of what is read of them. -/
theorem enc_dec {f : Nat → Int} {W : List Int} (hW : ∀ y ∈ W, 0 ≤ y ∧ y < 18446744073709551616) : ∀ {k : Nat} {L : List Val}, decA f W k = some L → sumF f k ≤ W.length →
    encA f (fun j => L.getD j z0) k = some ((W.drop 1).take (sumF f k - 1))
  | 0, L, h, _ => by simp [encA, sumF]
  | k + 1, L, h, hl => by
    obtain ⟨L0, v, h0, h1, rfl⟩ := decA_some h
    have hlen := decA_len h0
    have hs : sumF f (k + 1) = sumF f k + fw (f k) := rfl
    have h1p : 1 ≤ sumF f k := by have := sumF_ge f k; omega
    simp only [encA]
    rw [encA_congr (F' := fun j => L0.getD j z0) (fun j hj => by rw [show (L0 ++ [v]).getD j z0 = L0.getD j z0 by simp [List.getD_eq_getElem?_getD, List.getElem?_append_left (show j < L0.length by omega)]]), enc_dec hW h0 (by omega)]
    have e : (L0 ++ [v]).getD k z0 = v := by subst hlen; simp [List.getD_eq_getElem?_getD]
    rw [e, words_back (fun y hy => hW y (List.mem_of_mem_drop (List.mem_of_mem_take hy))) h1]
    simp only [Option.bind_some, Option.map_some]
    congr 1
    rw [show sumF f (k + 1) - 1 = (sumF f k - 1) + fw (f k) by omega, List.take_add, List.drop_drop, show 1 + (sumF f k - 1) = sumF f k by omega]

/-- A field that is written into its words. -/
def updF (F : Nat → Val) (i : Nat) (v : Val) : Nat → Val := fun j => if j = i then v else F j
theorem enc_set {f : Nat → Int} {F : Nat → Val} {i : Nat} {v : Val} {x : List Int} (hx : wordsV (f i) v = some x) : ∀ {m : Nat} {l : List Int}, encA f F m = some l → i < m →
    encA f (updF F i v) m = some (l.take (sumF f i - 1) ++ x ++ l.drop (sumF f (i + 1) - 1))
  | 0, _, _, hi => by omega
  | m + 1, l, h, hi => by
    obtain ⟨l0, y, h0, h1, rfl⟩ := encA_some h
    have hl := encA_len h0
    have hs : sumF f (i + 1) = sumF f i + fw (f i) := rfl
    simp only [encA]
    rcases Nat.lt_succ_iff_lt_or_eq.1 hi with hi | rfl
    · rw [enc_set hx h0 hi, show updF F i v m = F m from if_neg (by omega), h1]
      have hle : ∀ a b, a ≤ b → sumF f a ≤ sumF f b := fun a b hab => by
        induction b with
        | zero => rw [show a = 0 by omega]; exact Nat.le_refl _
        | succ b ih =>
          rcases Nat.lt_or_ge a (b + 1) with h | h
          · exact Nat.le_trans (ih (by omega)) (Nat.le_add_right _ _)
          · rw [show a = b + 1 by omega]; exact Nat.le_refl _
      have h2 := hle (i + 1) m (by omega)
      have h3 := hle i m (by omega)
      simp only [Option.bind_some, Option.map_some]
      rw [List.take_append_of_le_length (by omega), List.drop_append_of_le_length (by omega)]
      simp
    · rw [encA_congr (F' := F) (fun j hj => by rw [show updF F i v j = F j from if_neg (by omega)]), h0, show updF F i v i = v from if_pos rfl, hx]
      have hy := (words_len h1).1
      simp only [Option.bind_some, Option.map_some]
      rw [List.take_append_of_le_length (by omega), List.take_of_length_le (by omega), List.drop_eq_nil_of_le (by rw [List.length_append]; omega), List.append_nil]
end Go.Proofs.Ytbmnhngkmokklaa
