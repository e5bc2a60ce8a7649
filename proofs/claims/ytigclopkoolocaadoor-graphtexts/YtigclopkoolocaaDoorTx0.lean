/-
  A graph's text as plain bytes; two plain graphs that may be have one text just if they are the same. No program is named here. Each theorem bears its own conditions.
-/
import Derived.Test.YtigclopkoolocaaDoorNum10
import Derived.Test.YtigclopkoolocaaDoorParse
import Derived.Test.YtigclopkoolocaaDoorGrm3
namespace Go.Proofs.YtigclopkoolocaaDoor
open Go.RowKit Go.Flo Go.Lib Go.Bit

/-- Bytes as a text. -/
def bs (l : List UInt8) : ByteArray := ⟨l.toArray⟩

theorem bs_append (a b : List UInt8) : bs a ++ bs b = bs (a ++ b) := by
  apply ByteArray.ext
  show _ = (a ++ b).toArray
  rw [ByteArray.data_append]
  simp [bs]

theorem bs_inj {a b : List UInt8} : bs a = bs b ↔ a = b := by
  constructor
  · intro h
    have := congrArg (fun s : ByteArray => s.data.toList) h
    simpa [bs] using this
  · intro h; rw [h]

theorem bs_data (s : ByteArray) : bs s.data.toList = s := by
  apply ByteArray.ext
  simp [bs]

/-- A value's bytes. -/
def valT (v : Val) : List UInt8 := if v.K = 0 then [110, 105, 108] else if v.K = 1 then itoa v.n else if v.K = 2 then 99 :: (textB v.p.toNat v.q.toNat).data.toList else if v.K = 3 then 35 :: itoa v.r else []

/-- Tokens, each behind a blank. -/
def toksT (l : List (List UInt8)) : List UInt8 := l.flatMap fun t => 32 :: t
def nodeT (x : Nod) : List UInt8 := itoa x.K ++ (toksT (x.fs.map valT) ++ [10])
def nodesT (l : List Nod) : List UInt8 := l.flatMap nodeT
def grT (g : Gr) : List UInt8 := nodesT g.nodes ++ ([114, 111, 111, 116, 115] ++ (toksT (g.roots.map itoa) ++ [10]) ++ ([119, 101, 97, 107, 115] ++ (toksT (g.weaks.map itoa) ++ [10])))
def grTE (g : Gr) : List UInt8 := if MayG g then grT g else []

theorem toksT_snoc (l : List (List UInt8)) (t : List UInt8) : toksT (l ++ [t]) = toksT l ++ 32 :: t := by simp [toksT]
theorem toksT_cons (t : List UInt8) (l : List (List UInt8)) : toksT (t :: l) = 32 :: (t ++ toksT l) := by simp [toksT]
theorem nodesT_snoc (l : List Nod) (x : Nod) : nodesT (l ++ [x]) = nodesT l ++ nodeT x := by simp [nodesT]
theorem nodesT_cons (x : Nod) (l : List Nod) : nodesT (x :: l) = nodeT x ++ nodesT l := by simp [nodesT]

/-- A byte of a token. -/
def TokB (c : UInt8) : Prop := c ≠ 10 ∧ c ≠ 32

theorem digit_toNat {d : Nat} (h : d < 10) : (UInt8.ofNat (48 + d)).toNat = 48 + d := by
  rw [UInt8.toNat_ofNat']
  omega

theorem dec_bytes (n : Nat) : ∀ c ∈ decDigits n, 48 ≤ c.toNat ∧ c.toNat ≤ 57 := by
  induction n using Nat.strongRecOn with
  | _ n ih =>
    intro c hc
    by_cases h : n < 10
    · rw [dec_small h] at hc
      simp only [List.mem_singleton] at hc
      subst hc
      rw [digit_toNat h]
      omega
    · rw [dec_big h] at hc
      rcases List.mem_append.1 hc with e | e
      · exact ih (n / 10) (by omega) c e
      · simp only [List.mem_singleton] at e
        subst e
        rw [digit_toNat (Nat.mod_lt n (by omega))]
        omega

theorem itoa_bytes (n : Int) : ∀ c ∈ itoa n, c.toNat = 45 ∨ (48 ≤ c.toNat ∧ c.toNat ≤ 57) := by
  intro c hc
  unfold itoa at hc
  split at hc
  · rcases List.mem_cons.1 hc with rfl | e
    · left; rfl
    · exact Or.inr (dec_bytes _ c e)
  · exact Or.inr (dec_bytes _ c hc)

theorem itoa_ne (n : Int) : ∃ c r, itoa n = c :: r ∧ (c.toNat = 45 ∨ (48 ≤ c.toNat ∧ c.toNat ≤ 57)) := by
  cases h : itoa n with
  | nil =>
    unfold itoa at h
    split at h
    · cases h
    · exact absurd h (dec_ne _)
  | cons c r => exact ⟨c, r, rfl, itoa_bytes n c (by rw [h]; simp)⟩

theorem tokB_of {c : UInt8} (h : c.toNat ≠ 10) (k : c.toNat ≠ 32) : TokB c := ⟨fun e => h (by rw [e]; rfl), fun e => k (by rw [e]; rfl)⟩

theorem itoa_tok (n : Int) : ∀ c ∈ itoa n, TokB c := fun c hc => by
  rcases itoa_bytes n c hc with h | h
  · exact tokB_of (by omega) (by omega)
  · exact tokB_of (by omega) (by omega)

theorem hex_tok (x j : Nat) : ∀ c ∈ hexN x j, c ≠ 10 ∧ c ≠ 32 := by
  intro c hc
  unfold hexN at hc
  obtain ⟨i, _, rfl⟩ := List.mem_map.1 hc
  unfold hexDigit
  have := dig_lt x (60 - 4 * i)
  split <;> omega

theorem textB_tok (a b : Nat) : ∀ c ∈ (textB a b).data.toList, TokB c := by
  intro c hc
  have h : c.toNat ∈ textL a b := by
    rw [← nums_text]
    exact List.mem_map.2 ⟨c, hc, rfl⟩
  simp only [textL, List.mem_append, List.mem_singleton] at h
  rcases h with (h | h) | h
  · exact tokB_of (hex_tok _ _ _ h).1 (hex_tok _ _ _ h).2
  · exact tokB_of (by omega) (by omega)
  · exact tokB_of (hex_tok _ _ _ h).1 (hex_tok _ _ _ h).2

theorem valT_tok (v : Val) : ∀ c ∈ valT v, TokB c := by
  intro c hc
  unfold valT at hc
  split at hc
  · simp at hc
    rcases hc with rfl | rfl | rfl <;> exact ⟨by decide, by decide⟩
  split at hc
  · exact itoa_tok _ c hc
  split at hc
  · rcases List.mem_cons.1 hc with rfl | e
    · exact ⟨by decide, by decide⟩
    · exact textB_tok _ _ c e
  split at hc
  · rcases List.mem_cons.1 hc with rfl | e
    · exact ⟨by decide, by decide⟩
    · exact itoa_tok _ c e
  · cases hc

/-- A value's parts are numbers of 64 bits. -/
def VBd (v : Val) : Prop := (-9223372036854775808 ≤ v.n ∧ v.n ≤ 9223372036854775807) ∧ (0 ≤ v.p ∧ v.p < 18446744073709551616) ∧ (0 ≤ v.q ∧ v.q < 18446744073709551616) ∧ -9223372036854775808 ≤ v.r ∧ v.r ≤ 9223372036854775807

/-- Which kind a value's bytes tell. -/
theorem valT_head {v : Val} (h0 : 0 ≤ v.K) (h3 : v.K ≤ 3) : ∃ c r, valT v = c :: r ∧ ((v.K = 0 ∧ c.toNat = 110) ∨ (v.K = 1 ∧ (c.toNat = 45 ∨ (48 ≤ c.toNat ∧ c.toNat ≤ 57))) ∨ (v.K = 2 ∧ c.toNat = 99) ∨ (v.K = 3 ∧ c.toNat = 35)) := by
  unfold valT
  split
  · rename_i e
    exact ⟨110, [105, 108], rfl, Or.inl ⟨e, rfl⟩⟩
  split
  · rename_i e
    obtain ⟨c, r, h, k⟩ := itoa_ne v.n
    exact ⟨c, r, h, Or.inr (Or.inl ⟨e, k⟩)⟩
  split
  · rename_i e
    exact ⟨99, _, rfl, Or.inr (Or.inr (Or.inl ⟨e, rfl⟩))⟩
  split
  · rename_i e
    exact ⟨35, _, rfl, Or.inr (Or.inr (Or.inr ⟨e, rfl⟩))⟩
  · omega

theorem valT_inj {u v : Val} (hu : plainV u = u) (hv : plainV v = v) (bu : VBd u) (bv : VBd v) (u0 : 0 ≤ u.K) (u3 : u.K ≤ 3) (v0 : 0 ≤ v.K) (v3 : v.K ≤ 3) (h : valT u = valT v) : u = v := by
  obtain ⟨c, r, e1, k1⟩ := valT_head u0 u3
  obtain ⟨c', r', e2, k2⟩ := valT_head v0 v3
  have hc : c = c' := by
    rw [e1, e2] at h
    exact (List.cons.inj h).1
  subst hc
  have hK : u.K = v.K := by
    rcases k1 with ⟨a, b⟩ | ⟨a, b⟩ | ⟨a, b⟩ | ⟨a, b⟩ <;> rcases k2 with ⟨a', b'⟩ | ⟨a', b'⟩ | ⟨a', b'⟩ | ⟨a', b'⟩ <;> omega
  obtain ⟨K, n, p, q, r⟩ := u
  obtain ⟨K', n', p', q', r'⟩ := v
  dsimp only at hK u0 u3
  subst hK
  clear e1 e2 k1 k2 v0 v3
  unfold VBd at bu bv
  obtain ⟨⟨bn0, bn1⟩, ⟨bp0, bp1⟩, ⟨bq0, bq1⟩, br0, br1⟩ := bu
  obtain ⟨⟨cn0, cn1⟩, ⟨cp0, cp1⟩, ⟨cq0, cq1⟩, cr0, cr1⟩ := bv
  dsimp only at *
  rcases (show K = 0 ∨ K = 1 ∨ K = 2 ∨ K = 3 by omega) with rfl | rfl | rfl | rfl
  · rw [← hu, ← hv]; rfl
  · have h1 : itoa n = itoa n' := h
    have := itoa_inj bn0 bn1 cn0 cn1 h1
    subst this
    rw [← hu, ← hv]; rfl
  · have h1 : (textB p.toNat q.toNat).data.toList = (textB p'.toNat q'.toNat).data.toList := (List.cons.inj (show (99 : UInt8) :: _ = 99 :: _ from h)).2
    have h2 : textB p.toNat q.toNat = textB p'.toNat q'.toNat := by rw [← bs_data (textB p.toNat q.toNat), h1, bs_data]
    obtain ⟨h3, h4⟩ := textB_inj (by omega) (by omega) (by omega) (by omega) h2
    obtain rfl : p = p' := by omega
    obtain rfl : q = q' := by omega
    rw [← hu, ← hv]; rfl
  · have h1 : itoa r = itoa r' := (List.cons.inj (show (35 : UInt8) :: _ = 35 :: _ from h)).2
    have := itoa_inj br0 br1 cr0 cr1 h1
    subst this
    rw [← hu, ← hv]; rfl

theorem tok_cut {a b x y : List UInt8} {s t : UInt8} (ha : ∀ d ∈ a, TokB d) (hb : ∀ d ∈ b, TokB d) (hs : ¬ TokB s) (ht : ¬ TokB t) (h : a ++ s :: x = b ++ t :: y) : a = b ∧ s :: x = t :: y := by
  induction a generalizing b with
  | nil =>
    cases b with
    | nil => exact ⟨rfl, h⟩
    | cons d b =>
      have := (List.cons.inj h).1
      exact absurd (this ▸ hb d (by simp)) hs
  | cons c a ih =>
    cases b with
    | nil =>
      have := (List.cons.inj h).1
      exact absurd (this ▸ ha c (by simp)) ht
    | cons d b =>
      obtain ⟨e1, e2⟩ := List.cons.inj h
      obtain ⟨h1, h2⟩ := ih (fun d hd => ha d (by simp [hd])) (fun d hd => hb d (by simp [hd])) e2
      exact ⟨by rw [e1, h1], h2⟩

theorem no32 : ¬ TokB 32 := fun h => h.2 rfl
theorem no10 : ¬ TokB 10 := fun h => h.1 rfl

theorem toks_form (l : List (List UInt8)) (x : List UInt8) : ∃ s r, toksT l ++ 10 :: x = s :: r ∧ ¬ TokB s := by
  cases l with
  | nil => exact ⟨10, x, rfl, no10⟩
  | cons t l => exact ⟨32, _, by rw [toksT_cons]; rfl, no32⟩

theorem toks_inj : ∀ {a b : List (List UInt8)} {x y : List UInt8}, (∀ t ∈ a, ∀ c ∈ t, TokB c) → (∀ t ∈ b, ∀ c ∈ t, TokB c) → toksT a ++ 10 :: x = toksT b ++ 10 :: y → a = b ∧ x = y
  | [], [], x, y, _, _, h => ⟨rfl, (List.cons.inj h).2⟩
  | [], t :: b, x, y, _, _, h => by
    rw [toksT_cons] at h
    exact absurd (List.cons.inj h).1 (by decide)
  | t :: a, [], x, y, _, _, h => by
    rw [toksT_cons] at h
    exact absurd (List.cons.inj h).1 (by decide)
  | t :: a, u :: b, x, y, ha, hb, h => by
    rw [toksT_cons, toksT_cons] at h
    have h : (t ++ toksT a) ++ 10 :: x = (u ++ toksT b) ++ 10 :: y := (List.cons.inj h).2
    rw [List.append_assoc, List.append_assoc] at h
    obtain ⟨s, r, e1, n1⟩ := toks_form a x
    obtain ⟨s', r', e2, n2⟩ := toks_form b y
    rw [e1, e2] at h
    obtain ⟨h1, h2⟩ := tok_cut (ha t (by simp)) (hb u (by simp)) n1 n2 h
    rw [← e1, ← e2] at h2
    obtain ⟨h3, h4⟩ := toks_inj (fun t ht => ha t (by simp [ht])) (fun t ht => hb t (by simp [ht])) h2
    exact ⟨by rw [h1, h3], h4⟩

theorem map_inj_on {α β : Type} {f : α → β} : ∀ {a b : List α}, (∀ x ∈ a, ∀ y ∈ b, f x = f y → x = y) → a.map f = b.map f → a = b
  | [], [], _, _ => rfl
  | [], y :: b, _, h => by simp at h
  | x :: a, [], _, h => by simp at h
  | x :: a, y :: b, hf, h => by
    obtain ⟨h1, h2⟩ := List.cons.inj h
    rw [hf x (by simp) y (by simp) h1, map_inj_on (fun x hx y hy => hf x (by simp [hx]) y (by simp [hy])) h2]

/-- A node whose text tells it. -/
def NodB (x : Nod) : Prop := (-9223372036854775808 ≤ x.K ∧ x.K ≤ 9223372036854775807) ∧ ∀ v ∈ x.fs, plainV v = v ∧ VBd v ∧ 0 ≤ v.K ∧ v.K ≤ 3

theorem node_inj {a b : Nod} (ha : NodB a) (hb : NodB b) {x y : List UInt8} (h : nodeT a ++ x = nodeT b ++ y) : a = b ∧ x = y := by
  unfold nodeT at h
  rw [List.append_assoc, List.append_assoc, List.append_assoc, List.append_assoc] at h
  obtain ⟨s, r, e1, n1⟩ := toks_form (a.fs.map valT) x
  obtain ⟨s', r', e2, n2⟩ := toks_form (b.fs.map valT) y
  have h' : itoa a.K ++ (toksT (a.fs.map valT) ++ 10 :: x) = itoa b.K ++ (toksT (b.fs.map valT) ++ 10 :: y) := h
  rw [e1, e2] at h'
  obtain ⟨h1, h2⟩ := tok_cut (itoa_tok _) (itoa_tok _) n1 n2 h'
  rw [← e1, ← e2] at h2
  have ht : ∀ l : List Val, ∀ t ∈ l.map valT, ∀ c ∈ t, TokB c := fun l t ht c hc => by
    obtain ⟨v, _, rfl⟩ := List.mem_map.1 ht
    exact valT_tok v c hc
  obtain ⟨h3, h4⟩ := toks_inj (ht _) (ht _) h2
  have h5 := itoa_inj ha.1.1 ha.1.2 hb.1.1 hb.1.2 h1
  have h6 := map_inj_on (fun u hu v hv e => by
    obtain ⟨p1, p2, p3, p4⟩ := ha.2 u hu
    obtain ⟨q1, q2, q3, q4⟩ := hb.2 v hv
    exact valT_inj p1 q1 p2 q2 p3 p4 q3 q4 e) h3
  obtain ⟨K, fs⟩ := a
  obtain ⟨K', fs'⟩ := b
  dsimp only at h5 h6
  rw [h5, h6]
  exact ⟨rfl, h4⟩

theorem nodeT_head (x : Nod) : ∃ c r, nodeT x = c :: r ∧ c ≠ 114 := by
  obtain ⟨c, r, h, k⟩ := itoa_ne x.K
  refine ⟨c, r ++ (toksT (x.fs.map valT) ++ [10]), ?_, ?_⟩
  · unfold nodeT; rw [h]; rfl
  · intro e
    subst e
    have : (114 : UInt8).toNat = 114 := rfl
    omega

theorem nodes_inj : ∀ {a b : List Nod} {x y : List UInt8}, (∀ n ∈ a, NodB n) → (∀ n ∈ b, NodB n) → nodesT a ++ 114 :: x = nodesT b ++ 114 :: y → a = b ∧ x = y
  | [], [], x, y, _, _, h => ⟨rfl, (List.cons.inj h).2⟩
  | [], n :: b, x, y, _, _, h => by
    obtain ⟨c, r, e, k⟩ := nodeT_head n
    rw [nodesT_cons, e] at h
    exact absurd (List.cons.inj h).1.symm k
  | n :: a, [], x, y, _, _, h => by
    obtain ⟨c, r, e, k⟩ := nodeT_head n
    rw [nodesT_cons, e] at h
    exact absurd (List.cons.inj h).1 k
  | n :: a, m :: b, x, y, ha, hb, h => by
    rw [nodesT_cons, nodesT_cons, List.append_assoc, List.append_assoc] at h
    obtain ⟨h1, h2⟩ := node_inj (ha n (by simp)) (hb m (by simp)) h
    obtain ⟨h3, h4⟩ := nodes_inj (fun t ht => ha t (by simp [ht])) (fun t ht => hb t (by simp [ht])) h2
    exact ⟨by rw [h1, h3], h4⟩

/-- A graph whose text tells it. -/
structure GrB (g : Gr) : Prop where
  nodes : ∀ x ∈ g.nodes, NodB x
  roots : ∀ r ∈ g.roots, -9223372036854775808 ≤ r ∧ r ≤ 9223372036854775807
  weaks : ∀ r ∈ g.weaks, -9223372036854775808 ≤ r ∧ r ≤ 9223372036854775807

theorem ints_tok (l : List Int) : ∀ t ∈ l.map itoa, ∀ c ∈ t, TokB c := fun t ht c hc => by
  obtain ⟨v, _, rfl⟩ := List.mem_map.1 ht
  exact itoa_tok v c hc

theorem grT_inj {g h : Gr} (hg : GrB g) (hh : GrB h) (e : grT g = grT h) : g = h := by
  unfold grT at e
  obtain ⟨e1, e2⟩ := nodes_inj (x := [111, 111, 116, 115] ++ (toksT (g.roots.map itoa) ++ [10]) ++ ([119, 101, 97, 107, 115] ++ (toksT (g.weaks.map itoa) ++ [10]))) (y := [111, 111, 116, 115] ++ (toksT (h.roots.map itoa) ++ [10]) ++ ([119, 101, 97, 107, 115] ++ (toksT (h.weaks.map itoa) ++ [10]))) hg.nodes hh.nodes (by simpa using e)
  have e3 : toksT (g.roots.map itoa) ++ 10 :: ([119, 101, 97, 107, 115] ++ (toksT (g.weaks.map itoa) ++ [10])) = toksT (h.roots.map itoa) ++ 10 :: ([119, 101, 97, 107, 115] ++ (toksT (h.weaks.map itoa) ++ [10])) := by simpa using e2
  obtain ⟨e4, e5⟩ := toks_inj (ints_tok _) (ints_tok _) e3
  have e6 : toksT (g.weaks.map itoa) ++ 10 :: [] = toksT (h.weaks.map itoa) ++ 10 :: [] := by simpa using e5
  obtain ⟨e7, _⟩ := toks_inj (ints_tok _) (ints_tok _) e6
  have e8 := map_inj_on (fun u hu v hv e => itoa_inj (hg.roots u hu).1 (hg.roots u hu).2 (hh.roots v hv).1 (hh.roots v hv).2 e) e4
  have e9 := map_inj_on (fun u hu v hv e => itoa_inj (hg.weaks u hu).1 (hg.weaks u hu).2 (hh.weaks v hv).1 (hh.weaks v hv).2 e) e7
  obtain ⟨n, r, k⟩ := g
  obtain ⟨n', r', k'⟩ := h
  dsimp only at e1 e8 e9
  rw [e1, e8, e9]

/-- A graph that came in: its numbers are those of 64 bits. -/
def GrN (g : Gr) : Prop := ∀ x ∈ g.nodes, (-9223372036854775808 ≤ x.K ∧ x.K ≤ 9223372036854775807) ∧ ∀ v ∈ x.fs, VBd v

theorem mayI_bd {n : Nat} (hn : n ≤ 4096) {r : Int} (h : MayI n r) : -9223372036854775808 ≤ r ∧ r ≤ 9223372036854775807 := by
  obtain ⟨a, b⟩ := h
  omega

theorem trimN {g : Gr} (hm : MayG g) (h : GrN g) : GrN (trimG g) := by
  intro x hx
  unfold trimG trimR at hx
  obtain ⟨i, hi, rfl⟩ := List.mem_map.1 hx
  have hg := h (g.at i) (at_mem ((orderG_fine g g.roots).2 i hi))
  refine ⟨hg.1, fun v hv => ?_⟩
  obtain ⟨u, hu, rfl⟩ := List.mem_map.1 hv
  have hb := hg.2 u hu
  have hl : (orderG g g.roots).length ≤ 4096 := Nat.le_trans (orderG_fine g g.roots).len hm.1
  have hp := place_rng (orderG g g.roots) u.r
  unfold VBd at hb ⊢
  unfold plainR plainV
  obtain ⟨a, b⟩ := hp
  split
  · exact ⟨⟨by dsimp only; omega, by dsimp only; omega⟩, ⟨by dsimp only; omega, by dsimp only; omega⟩, ⟨by dsimp only; omega, by dsimp only; omega⟩, by dsimp only; omega, by dsimp only; omega⟩
  · split
    · exact ⟨hb.1, ⟨by dsimp only; omega, by dsimp only; omega⟩, ⟨by dsimp only; omega, by dsimp only; omega⟩, by dsimp only; omega, by dsimp only; omega⟩
    split
    · exact ⟨⟨by dsimp only; omega, by dsimp only; omega⟩, hb.2.1, hb.2.2.1, by dsimp only; omega, by dsimp only; omega⟩
    · exact ⟨⟨by dsimp only; omega, by dsimp only; omega⟩, ⟨by dsimp only; omega, by dsimp only; omega⟩, ⟨by dsimp only; omega, by dsimp only; omega⟩, by dsimp only; omega, by dsimp only; omega⟩

theorem trimB {g : Gr} (hm : MayG g) (h : GrN g) : GrB (trimG g) := by
  have hN := trimN hm h
  have hT := trim_may hm
  exact ⟨fun x hx => ⟨(hN x hx).1, fun v hv => ⟨trimG_plain g x hx v hv, (hN x hx).2 v hv, (hT.2.2.2 x hx v hv).1, (hT.2.2.2 x hx v hv).2.1⟩⟩, fun r hr => mayI_bd hT.1 (hT.2.1 r hr), fun r hr => mayI_bd hT.1 (hT.2.2.1 r hr)⟩

theorem text_trim {g h : Gr} (hg : MayG g) (hh : MayG h) (ng : GrN g) (nh : GrN h) : grT (trimG g) = grT (trimG h) ↔ AlikeG g h :=
  ⟨fun e => ⟨hg, hh, grT_inj (trimB hg ng) (trimB hh nh) e⟩, fun e => by rw [e.2.2]⟩
end Go.Proofs.YtigclopkoolocaaDoor
