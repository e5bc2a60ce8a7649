/-
  Values, texts and words as plain facts: what is written is read as it was; the statements' own awake. Conditions: what the library's tables hold; a value's parts are numbers of 64 bits.
-/
import Derived.Test.YtjnaglellobmmaaDoorVal4
namespace Go.Proofs.YtjnaglellobmmaaDoor
open Go.RowKit Go.Flo
set_option maxRecDepth 100000

def Kind4 (K : Int) : Prop := K = 0 ∨ K = 1 ∨ K = 2 ∨ K = 3

theorem sameV_self {v : Val} (h : Kind4 v.K) : sameV v v = true := by
  obtain ⟨K, n, p, q, r⟩ := v
  rcases h with h | h | h | h <;> (dsimp only at h; subst h; simp [sameV])

theorem sameV_none {v : Val} (h : ¬ Kind4 v.K) : sameV v v = false := by
  obtain ⟨K, n, p, q, r⟩ := v
  unfold Kind4 at h
  dsimp only at h
  unfold sameV
  dsimp only
  rw [if_neg (by simp), if_neg (by omega), if_neg (by omega), if_neg (by omega), if_neg (by omega)]

theorem sameV_iff {a b : Val} (ha : Kind4 a.K) : sameV a b = true ↔ plainV a = plainV b := by
  obtain ⟨K, n, p, q, r⟩ := a
  obtain ⟨K', n', p', q', r'⟩ := b
  by_cases hK : K = K'
  · subst hK
    rcases ha with h | h | h | h <;> (dsimp only at h; subst h; simp [sameV, plainV])
  · have h1 : sameV ⟨K, n, p, q, r⟩ ⟨K', n', p', q', r'⟩ = false := by simp [sameV, hK]
    rw [h1]
    refine ⟨fun h => (by cases h), fun h => absurd ?_ hK⟩
    have hk : ∀ v : Val, (plainV v).K = v.K := fun v => by
      unfold plainV
      split
      · rename_i e; exact e.symm
      split
      · rename_i e; exact e.symm
      split
      · rename_i e; exact e.symm
      rfl
    have := congrArg Val.K h
    rw [hk, hk] at this
    exact this

theorem sameV_symm (a b : Val) : sameV a b = sameV b a := by
  obtain ⟨K, n, p, q, r⟩ := a
  obtain ⟨K', n', p', q', r'⟩ := b
  by_cases hK : K = K'
  · subst hK
    unfold sameV
    dsimp only
    rw [Bool.beq_comm (a := n), Bool.beq_comm (a := p), Bool.beq_comm (a := q), Bool.beq_comm (a := r)]
  · have hK' : ¬ K' = K := fun e => hK e.symm
    simp [sameV, hK, hK']

theorem plainV_plain (v : Val) : plainV (plainV v) = plainV v := by
  obtain ⟨K, n, p, q, r⟩ := v
  unfold plainV
  dsimp only
  split
  · rfl
  split
  · rfl
  split
  · rfl
  rename_i h1 h2 h3
  simp [h1, h2, h3]

theorem sameV_plain {v : Val} (h : Kind4 v.K) : sameV v (plainV v) = true := (sameV_iff h).2 (plainV_plain v).symm

theorem numT_not {c : UInt8} {r : List UInt8} (h45 : c ≠ 45) (hd : Lib.digitVal c = none) : numT (c :: r) = none := by
  unfold numT
  split
  · rename_i t e
    injection e with e1 e2
    exact absurd e1 h45
  · simp [Lib.decFrom, hd]

theorem numB_head {s : ByteArray} {c : UInt8} (h : s.data.toList.head? = some c) (h45 : c ≠ 45) (hd : Lib.digitVal c = none) : numB s = none := by
  unfold numB
  cases e : s.data.toList with
  | nil => rw [e] at h; cases h
  | cons x r => rw [e] at h; simp at h; subst h; exact numT_not h45 hd

theorem cons_list (c : UInt8) (t : ByteArray) : (({ data := #[c] } : ByteArray) ++ t).data.toList = c :: t.data.toList := by
  simp

theorem cons_drop (c : UInt8) (t : ByteArray) : (({ data := #[c] } : ByteArray) ++ t).extract 1 (({ data := #[c] } : ByteArray) ++ t).size = t := by
  apply ByteArray.ext
  apply Array.toList_inj.1
  rw [Lib.extract_to_end, cons_list]
  rfl

theorem cons_nil {c : UInt8} {t : ByteArray} (hc : c ≠ 110) : ¬ (({ data := #[c] } : ByteArray) ++ t) = nilB := by
  intro e
  have := congrArg (fun x : ByteArray => x.data.toList.head?) e
  simp only [cons_list] at this
  exact hc (by injection this)

/-- What is written is read as it was. -/
theorem parse_textV {v : Val} (hk : Kind4 v.K) (hv : VOk v) : parseV (textV v) = some (plainV v) := by
  obtain ⟨K, n, p, q, r⟩ := v
  rcases hk with h | h | h | h <;> (dsimp only at h; subst h)
  · rfl
  · have hn : numB (itoaB n) = some n := numB_itoa hv.n0 hv.n1
    have h1 : ¬ itoaB n = nilB := by intro e; rw [e, show numB nilB = none by kernel_rfl] at hn; cases hn
    have h2 : ¬ (itoaB n).data.toList.head? = some 99 := by intro e; rw [numB_head e (by decide) (by decide)] at hn; cases hn
    have h3 : ¬ (itoaB n).data.toList.head? = some 35 := by intro e; rw [numB_head e (by decide) (by decide)] at hn; cases hn
    show parseV (itoaB n) = some ⟨1, n, 0, 0, 0⟩
    unfold parseV
    rw [if_neg h1, if_neg h2, if_neg h3, hn]
    rfl
  · have hp0 := hv.p0
    have hp1 := hv.p1
    have hq0 := hv.q0
    have hq1 := hv.q1
    dsimp only at hp0 hp1 hq0 hq1
    show parseV ({ data := #[99] } ++ textB p.toNat q.toNat) = some ⟨2, 0, p, q, 0⟩
    unfold parseV
    rw [if_neg (cons_nil (by decide)), if_pos (by rw [cons_list]; rfl), cons_drop, nums_text, pC_text _ _ (by omega) (by omega)]
    simp only [Option.map_some]
    rw [Int.toNat_of_nonneg hp0, Int.toNat_of_nonneg hq0]
  · have hn : numB (itoaB r) = some r := numB_itoa hv.r0 hv.r1
    show parseV ({ data := #[35] } ++ itoaB r) = some ⟨3, 0, 0, 0, r⟩
    unfold parseV
    rw [if_neg (cons_nil (by decide)), if_neg (by rw [cons_list]; intro e; cases e), if_pos (by rw [cons_list]; rfl), cons_drop, hn]
    rfl

theorem textV_plain (v : Val) : textV (plainV v) = textV v := by
  obtain ⟨K, n, p, q, r⟩ := v
  unfold plainV
  dsimp only
  split
  · rename_i h; subst h; rfl
  split
  · rename_i h; subst h; rfl
  split
  · rename_i h; subst h; rfl
  rename_i h1 h2 h3
  unfold textV
  dsimp only
  rw [if_neg h1, if_neg h2, if_neg h3, if_neg h1, if_neg h2, if_neg h3]

/-- Two values have one text just if they are the same. -/
theorem textV_iff {a b : Val} (ha : Kind4 a.K) (hb : Kind4 b.K) (va : VOk a) (vb : VOk b) : textV a = textV b ↔ sameV a b = true := by
  rw [sameV_iff ha]
  constructor
  · intro h
    have e := parse_textV ha va
    rw [h, parse_textV hb vb] at e
    injection e with e
    exact e.symm
  · intro h
    rw [← textV_plain a, h, textV_plain]

theorem parseV_kind (s : ByteArray) : Kind4 ((parseV s).getD z0).K := by
  unfold parseV
  split
  · exact Or.inl rfl
  split
  · cases pC (nums (s.extract 1 s.size)) with
    | none => exact Or.inl rfl
    | some ab => exact Or.inr (Or.inr (Or.inl rfl))
  split
  · cases numB (s.extract 1 s.size) with
    | none => exact Or.inl rfl
    | some n => exact Or.inr (Or.inr (Or.inr rfl))
  · cases numB s with
    | none => exact Or.inl rfl
    | some n => exact Or.inr (Or.inl rfl)

theorem ofV_kind (kind : Int) (l : List Int) : Kind4 ((ofV kind l).getD z0).K := by
  unfold ofV
  split
  · split
    · exact Or.inr (Or.inl rfl)
    split
    · split
      · exact Or.inl rfl
      split
      · exact Or.inr (Or.inr (Or.inr rfl))
      · exact Or.inl rfl
    · exact Or.inl rfl
  · split
    · exact Or.inr (Or.inr (Or.inl rfl))
    · exact Or.inl rfl
  · exact Or.inl rfl

/-- One word, told. -/
def OneP (x : Int) (w : World) (e : Ending) (w' : World) : Prop := ∃ b o, e = .returned (.tuple #[.slice (some ⟨b, o, none⟩) 1 1, .bool true]) ∧ b < w'.heap.size ∧ w'.cell? ⟨b, o, none⟩ = some (.int .u64 x) ∧ Keep [] w w'
def TwoP (x y : Int) (w : World) (e : Ending) (w' : World) : Prop := ∃ b o, e = .returned (.tuple #[.slice (some ⟨b, o, none⟩) 2 2, .bool true]) ∧ b < w'.heap.size ∧ w'.cell? ⟨b, o, none⟩ = some (.int .u64 x) ∧ w'.cell? ⟨b, o + 1, none⟩ = some (.int .u64 y) ∧ Keep [] w w'

theorem WPost.one {x : Int} {w : World} {e : Ending} {w' : World} (h : WPost (some [x]) w e w') : OneP x w e w' := by
  obtain ⟨A, he, hA, hk⟩ := h
  obtain ⟨b, o, rfl, hb, hc⟩ := hA.cells (by simp)
  exact ⟨b, o, he, hb, hc 0 (by simp), hk⟩
theorem WPost.two {x y : Int} {w : World} {e : Ending} {w' : World} (h : WPost (some [x, y]) w e w') : TwoP x y w e w' := by
  obtain ⟨A, he, hA, hk⟩ := h
  obtain ⟨b, o, rfl, hb, hc⟩ := hA.cells (by simp)
  exact ⟨b, o, he, hb, hc 0 (by simp), hc 1 (by simp), hk⟩

theorem awake10_any (w : World) (hT : Tabs w) : Calls Tryd.prog 19 #[] w fun e w' => e = .returned (.bool true) ∧ Keep [] w w' := by
  have hR := fun W => vref_any 4 W
  have hW : ∀ W, Calls Tryd.prog 20 _ W (OneP 5 W) := fun W => (vwords_any 3 3 0 0 0 4 W).mono fun _ _ h => WPost.one h
  have hP := fun W (hk : Keep [] w W) => vparse_any { data := #[35, 45, 49] } (by decide) W (hT.keep hk)
  have e1 : parseV { data := #[35, 45, 49] } = some ⟨3, 0, 0, 0, -1⟩ := by kernel_rfl
  unfold OPost at hP
  rw [e1] at hP
  simp only [Option.getD_some, Option.isSome_some] at hP
  have HP := Lib.hid hP
  clear hP e1 hT
  go_enter Tryd.func19, Tryd.ntmps19
  go_wp2_with fail
  (with_reducible refine (hR _).mono ?_)
  rintro e w1 ⟨rfl, k1⟩
  go_wp2_with fail
  (with_reducible refine (hW _).mono ?_)
  rintro e w2 ⟨b, o, rfl, hb, hc, k2⟩
  clear hR hW
  go_wp2_with fail
  (with_reducible refine (HP.out _ (k1.trans k2)).mono ?_)
  rintro e w3 ⟨rfl, k3⟩
  have hc3 := (k3.cell (p := ⟨b, o, none⟩) hb (by simp)).trans hc
  have hb3 := Nat.lt_of_lt_of_le hb k3.size
  clear hc hb
  go_wp2
  go_ret
  exact ⟨rfl, ((k1.trans k2).trans k3).trans (Keep.alloc _ _)⟩
end Go.Proofs.YtjnaglellobmmaaDoor
