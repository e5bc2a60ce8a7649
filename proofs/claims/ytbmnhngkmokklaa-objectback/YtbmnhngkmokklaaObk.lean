/-
  What ObjectBack leans on: what is encoded is decoded as it was, too few words are no object; copy of words into a row. Each theorem bears its own conditions.
-/
import Derived.Test.YtbmnhngkmokklaaWOParts
import Derived.Test.YtbmnhngkmokklaaArg11
namespace Go.Flo
open Go.RowKit Go.Bit

theorem owns_rowU {w : World} {B : Nat} {ty : TypeId} {v : Value} {l : List Int} (h : w.ownsRow B ty 1 v l.length (l.map u64v)) (h0 : 0 < l.length) : ∃ g c, v = .slice (some ⟨g, 0, none⟩) l.length c ∧ Row w ty g l.length c (fun i => u64v (l.getD i 0)) ∧ B ≤ g := by
  have e : l.map u64v = (List.range l.length).map fun i => u64v (l.getD i 0) := by
    apply List.ext_getElem
    · simp
    · intro i h1 h2
      simp at h1
      simp [List.getD_eq_getElem?_getD, h1]
  rw [e] at h
  rcases h.2 with ⟨rfl, h1⟩ | ⟨g, cap, cur, rfl, hg, _⟩
  · have hn : l.length = 0 := by first | exact h1 | exact h1.1 | exact h1.2
    omega
  · exact ⟨g, cap, rfl, Row.of_owns h, hg⟩

theorem Row.wd {w : World} {ty : TypeId} {g n c : Nat} {f : Nat → Value} {l : List Int} (h : Row w ty g n c f) (hl : l.length = n) (he : ∀ i, i < n → f i = u64v (l.getD i 0)) : Wd w (some ⟨g, 0, none⟩) l :=
  ⟨by have := h.cap_max; have := h.cap_le; unfold maxLen at *; omega, fun _ => ⟨g, 0, rfl, h.lt, fun j hj => by rw [Nat.zero_add, h.cell (by omega), he j (by omega)]; rfl⟩⟩

/-- copy of words into a row, from a place on. -/
theorem wpList_copy_wd {P : Program} {w : World} {ops : Array Oper} {rest : List Oper} {o : Oper} {a : Act} {Q : Exit → Act → World → Prop} (hgd : o.guard = none) (d s : Operand) (dT sT : TypeId)
    (ho : o.op = .call { callee := .builtin .copy, args := #[d, s], argTypes := #[dT, sT] }) (elem : TypeId) (hu : P.underlying dT = some (.slice elem)) (hsz : (P.info? elem).map (·.size) = some 1)
    (g off k dCap : Nat) (hd : a.eval d = .slice (some ⟨g, off, none⟩) k dCap) (A : Option Addr) (q sCap : Nat) (hs : a.eval s = .slice A q sCap) (hq0 : 0 < q) (hqk : q ≤ k)
    (t : TypeId) (n cap : Nat) (f : Nat → Value) (hg : Row w t g n cap f) (hfit : off + k ≤ n) (l : List Int) (hl : l.length = q) (hW : Wd w A l)
    (h : ∀ w', Row w' t g n cap (fun i => if off ≤ i ∧ i < off + q then u64v (l.getD (i - off) 0) else f i) → Keep [g] w w' → wpList P ops Q rest (a.put o.dst (goInt q)) w') :
    wpList P ops Q (o :: rest) a w := by
  obtain ⟨c, hc, e1, e2, e3, hf⟩ := hg
  obtain ⟨b, of, rfl, _, _⟩ := hW.cells (by omega)
  have hlen : (l.map u64v).length = q := by simp [hl]
  have hmin : Nat.min q k = q := Nat.min_eq_left hqk
  refine wpList_copy_own hgd d s dT sT ho elem hu hsz g off k dCap ⟨b, of, none⟩ q sCap hd hs c t hc (l.map u64v) (by rw [hlen, hmin]) (hW.news _ rfl) (by rw [hlen]; omega) ?_ ?_
  · intro v hv
    simp only [List.mem_map] at hv
    obtain ⟨z, _, rfl⟩ := hv
    rfl
  · rw [hlen]
    refine h _ ⟨_, setRow_heap w g _ _ t _ hc, ?_, e2, e3, fun i hi => ?_⟩ (Keep.setRow w g (by simp) _)
    · simp; omega
    · have hsp := get_splice c.toList off (l.map u64v) (by simp; omega) i
      unfold splice at hsp
      rw [hlen] at hsp
      rw [List.getElem?_toArray, hsp]
      by_cases hin : off ≤ i ∧ i < off + q
      · rw [if_pos hin]
        have : i - off < l.length := by omega
        simp only [hin, if_true, and_self]
        simp [List.getElem?_map, List.getD_eq_getElem?_getD, this]
      · rw [if_neg hin]
        simp only [hin, if_false]
        have := hf i hi
        simpa using this
end Go.Flo
namespace Go.Proofs.Ytbmnhngkmokklaa
open Go.RowKit Go.Flo Go.Bit
set_option maxRecDepth 100000

theorem splice_getD (H : Int) (l x : List Int) (s q : Nat) (h1 : 1 ≤ s) (hx : x.length = q) (hle : s + q ≤ l.length + 1) (i : Nat) (hi : i < l.length + 1) :
    (H :: (l.take (s - 1) ++ x ++ l.drop (s + q - 1))).getD i 0 = if s ≤ i ∧ i < s + q then x.getD (i - s) 0 else (H :: l).getD i 0 := by
  cases i with
  | zero => rw [if_neg (by omega)]; rfl
  | succ i =>
    simp only [List.getD_eq_getElem?_getD, List.getElem?_cons_succ, List.append_assoc]
    have ht : (l.take (s - 1)).length = s - 1 := by rw [List.length_take]; omega
    by_cases ha : i < s - 1
    · rw [if_neg (by omega), List.getElem?_append_left (by omega), List.getElem?_take, if_pos ha]
    · rw [List.getElem?_append_right (by omega), ht]
      by_cases hb : i - (s - 1) < q
      · rw [if_pos (by omega), List.getElem?_append_left (by omega), show i - (s - 1) = i + 1 - s by omega]
      · rw [if_neg (by omega), List.getElem?_append_right (by omega), List.getElem?_drop, hx, show s + q - 1 + (i - (s - 1) - q) = i by omega]

theorem enc_kind4 {f : Nat → Int} {F : Nat → Val} {m : Nat} {l : List Int} (h : encA f F m = some l) {j : Nat} (hj : j < m) : Kind4 (F j).K := by
  have hs := enc_seg 0 [] h j hj
  unfold wordsV at hs
  unfold Kind4
  split at hs
  · rename_i e; exact Or.inr (Or.inl e.2)
  split at hs
  · rename_i e; exact Or.inr (Or.inr (Or.inl e.2))
  split at hs
  · rename_i e; exact Or.inl e.2
  split at hs
  · rename_i e; exact Or.inr (Or.inr (Or.inr e.2.1))
  · cases hs

/-- What is encoded is decoded as it was, whatever stands behind. -/
theorem dec_back {n : Nat} {m : Nat → Nat} {f : Nat → Nat → Int} {K t : Nat} {F : Nat → Val} {l : List Int} (more : List Int) (hP : FindP n m f (K : Int)) (hA : encA (f K) F (m K) = some l) (hv : ∀ j, j < m K → VOk (F j)) :
    decE n m f ((((hd K (sumF (f K) (m K)) t : Nat) : Int) :: l) ++ more) = ⟨K, (List.range (m K)).map fun j => plainV (F j), (t % 4294967296 : Nat), 0⟩ := by
  have hM := hP.2.2.2
  rw [Int.toNat_natCast] at hM
  have hk : K < 16 := by have := hP.2.2.1; omega
  have hg := sumF_ge (f K) (m K)
  have hlen := encA_len hA
  have hd2 := dec_enc ((hd K (sumF (f K) (m K)) t : Nat) : Int) more (fun j hj => (hv j hj).1) hA (m K) (Nat.le_refl _)
  show decH n m f ((((hd K (sumF (f K) (m K)) t : Nat) : Int) :: l) ++ more) (((hd K (sumF (f K) (m K)) t : Nat) : Int)).toNat = _
  rw [Int.toNat_natCast]
  unfold decH
  rw [hd_k _ _ _ hk hM.2.2.2, hd_m _ _ _ hk hM.2.2.2, hd_e _ _ _ hk hM.2.2.2, if_pos ⟨hd_is _ _ _ hk (by omega) hM.2.2.2, hP, rfl, by rw [List.length_append, List.length_cons]; omega⟩]
  unfold decK
  rw [hd2]

/-- Fewer words than it has are no object. -/
theorem dec_short {n : Nat} {m : Nat → Nat} {f : Nat → Nat → Int} {K t : Nat} {F : Nat → Val} {l : List Int} (hP : FindP n m f (K : Int)) (hA : encA (f K) F (m K) = some l) :
    decE n m f ((((hd K (sumF (f K) (m K)) t : Nat) : Int) :: l).take l.length) = decNo := by
  have hM := hP.2.2.2
  rw [Int.toNat_natCast] at hM
  have hk : K < 16 := by have := hP.2.2.1; omega
  have hg := sumF_ge (f K) (m K)
  have hm1 := hM.1
  have hlen := encA_len hA
  obtain ⟨p, hp⟩ : ∃ p, l.length = p + 1 := ⟨l.length - 1, by omega⟩
  rw [hp, List.take_succ_cons]
  show decH n m f (((hd K (sumF (f K) (m K)) t : Nat) : Int) :: l.take p) (((hd K (sumF (f K) (m K)) t : Nat) : Int)).toNat = _
  rw [Int.toNat_natCast]
  unfold decH
  rw [hd_k _ _ _ hk hM.2.2.2, hd_m _ _ _ hk hM.2.2.2, if_neg]
  rintro ⟨_, _, _, h⟩
  rw [List.length_cons, List.length_take] at h
  omega

theorem fld_cases (n : Nat) (m : Nat → Nat) (f : Nat → Nat → Int) (K : Nat) (i : Int) (v : Val) (hP : FindP n m f (K : Int)) :
    (∃ er, fldE n m f K i v = (0, none, er) ∧ er ≠ 0) ∨ ∃ (j : Nat) (x : List Int), i = j ∧ j < m K ∧ wordsV (f K j) v = some x ∧ fldE n m f K i v = (((sumF (f K) j : Nat) : Int), some x, 0) := by
  unfold fldE
  rw [if_pos hP, Int.toNat_natCast]
  unfold fldO
  by_cases h : 0 ≤ i ∧ i < (m K : Nat)
  case neg => rw [if_neg h]; exact Or.inl ⟨4, rfl, by decide⟩
  rw [if_pos h]
  obtain ⟨j, rfl⟩ : ∃ j : Nat, i = j := ⟨i.toNat, by omega⟩
  rw [Int.toNat_natCast]
  cases hw : wordsV (f K j) v with
  | none => exact Or.inl ⟨3, rfl, by decide⟩
  | some x => exact Or.inr ⟨j, x, rfl, by omega, hw, rfl⟩
end Go.Proofs.Ytbmnhngkmokklaa
