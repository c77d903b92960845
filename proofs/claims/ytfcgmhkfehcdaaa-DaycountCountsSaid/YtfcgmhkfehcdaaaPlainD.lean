/-
  Plain: how long a stretch is. Nothing of the program.
-/
import Derived.Test.YtfcgmhkfehcdaaaWkD
namespace Go.Proofs.Ytfcgmhkfehcdaaa

def Stretch (a b : Int) : Prop := -719162 ≤ a ∧ a ≤ b ∧ b ≤ 2932896
instance (a b : Int) : Decidable (Stretch a b) := by unfold Stretch; infer_instance

def d31 (d : Int) : Int := if d = 31 then 30 else d
def e31 (d e : Int) : Int := if e = 31 ∧ d31 d = 30 then 30 else e
def thirtyP (y m d z n e : Int) : Int := 360 * (z - y) + 30 * (n - m) + e31 d e - d31 d

theorem thirty_pos (y m d z n e : Int) (v : Valid y m d) (u : Valid z n e) (h : num y m d ≤ num z n e) : 0 ≤ thirtyP y m d z n e := by
  have k : ¬ Lex z n e y m d := fun l => by
    have := num_lt z n e y m d u v l
    omega
  obtain ⟨v1, v2, v3, v4, v5, v6⟩ := v
  obtain ⟨u1, u2, u3, u4, u5, u6⟩ := u
  have b1 := mlen_bd y m
  have b2 := mlen_bd z n
  unfold Lex at k
  unfold thirtyP e31 d31
  split <;> split <;> omega

/-- What a stretch is by a convention, and the error. -/
def Counts (c a b x y er : Int) : Prop :=
  (¬ (1 ≤ c ∧ c ≤ 3) ∧ x = 0 ∧ y = 0 ∧ er = 2) ∨
  ((1 ≤ c ∧ c ≤ 3) ∧ ¬ Stretch a b ∧ x = 0 ∧ y = 0 ∧ er = 6) ∨
  (c = 1 ∧ Stretch a b ∧ (∃ u m d z n e, Valid u m d ∧ Valid z n e ∧ num u m d = a ∧ num z n e = b ∧ x = thirtyP u m d z n e) ∧ y = 360 ∧ er = 0) ∨
  (c = 2 ∧ Stretch a b ∧ x = b - a ∧ y = 360 ∧ er = 0) ∨
  (c = 3 ∧ Stretch a b ∧ x = b - a ∧ y = 365 ∧ er = 0)

/-- What the law of joined stretches asks of the three. -/
theorem counts_join (c p q r x1 y1 e1 x2 y2 e2 x3 y3 e3 : Int) (h1 : Counts c p q x1 y1 e1) (h2 : Counts c q r x2 y2 e2) (h3 : Counts c p r x3 y3 e3) :
    (e1 ≠ 0 ∧ x1 = 0) ∨ (e1 = 0 ∧ e2 ≠ 0 ∧ x2 = 0) ∨ (e1 = 0 ∧ e2 = 0 ∧ e3 = 0 ∧ y1 = y2 ∧ y2 = y3 ∧ 0 ≤ x1 ∧ (c = 1 ∨ c ≠ 1 ∧ x1 + x2 = x3 ∧ x1 ≤ 4000000 ∧ 0 ≤ x2 ∧ x2 ≤ 4000000)) := by
  have key : ∀ a b x y er, Counts c a b x y er → (er ≠ 0 ∧ x = 0) ∨ (er = 0 ∧ Stretch a b ∧ (1 ≤ c ∧ c ≤ 3) ∧ 0 ≤ x ∧ (c = 1 ∧ y = 360 ∨ c = 2 ∧ y = 360 ∧ x = b - a ∨ c = 3 ∧ y = 365 ∧ x = b - a)) := by
    intro a b x y er h
    rcases h with ⟨h, rfl, rfl, rfl⟩ | ⟨h, g, rfl, rfl, rfl⟩ | ⟨rfl, h, ⟨u, m, d, z, n, e, v1, v2, n1, n2, rfl⟩, rfl, rfl⟩ | ⟨rfl, h, rfl, rfl, rfl⟩ | ⟨rfl, h, rfl, rfl, rfl⟩
    · exact .inl ⟨by omega, rfl⟩
    · exact .inl ⟨by omega, rfl⟩
    · refine .inr ⟨rfl, h, by omega, thirty_pos _ _ _ _ _ _ v1 v2 (by rw [n1, n2]; exact h.2.1), .inl ⟨rfl, rfl⟩⟩
    · exact .inr ⟨rfl, h, by omega, by unfold Stretch at h; omega, by omega⟩
    · exact .inr ⟨rfl, h, by omega, by unfold Stretch at h; omega, by omega⟩
  have ok : ∀ a b x y er, Counts c a b x y er → Stretch a b → (1 ≤ c ∧ c ≤ 3) → er = 0 := by
    intro a b x y er h s g
    rcases h with ⟨h, rfl, rfl, rfl⟩ | ⟨_, h, rfl, rfl, rfl⟩ | ⟨rfl, h, _, rfl, rfl⟩ | ⟨rfl, h, rfl, rfl, rfl⟩ | ⟨rfl, h, rfl, rfl, rfl⟩
    · exact absurd g h
    · exact absurd s h
    · rfl
    · rfl
    · rfl
  have k3 := ok _ _ _ _ _ h3
  rcases key _ _ _ _ _ h1 with ⟨a1, a2⟩ | ⟨a1, s1, c1, a2, a3⟩
  · exact .inl ⟨a1, a2⟩
  · rcases key _ _ _ _ _ h2 with ⟨b1, b2⟩ | ⟨b1, s2, c2, b2, b3⟩
    · exact .inr (.inl ⟨a1, b1, b2⟩)
    · have s3 : Stretch p r := by unfold Stretch at *; omega
      have z := k3 s3 c1
      rcases key _ _ _ _ _ h3 with ⟨d1, d2⟩ | ⟨d1, _, _, d2, d3⟩
      · exact absurd z d1
      · unfold Stretch at *
        exact .inr (.inr ⟨a1, b1, d1, by omega, by omega, a2, by omega⟩)

theorem counts_some (c a b : Int) : ∃ x y er, Counts c a b x y er := by
  by_cases h : 1 ≤ c ∧ c ≤ 3
  · by_cases s : Stretch a b
    · by_cases c1 : c = 1
      · obtain ⟨u, m, d, v1, n1⟩ : ∃ u m d, Valid u m d ∧ num u m d = a := date_of a s.1 (by unfold Stretch at s; omega)
        obtain ⟨z, n, e, v2, n2⟩ : ∃ u m d, Valid u m d ∧ num u m d = b := date_of b (by unfold Stretch at s; omega) s.2.2
        exact ⟨_, _, _, .inr (.inr (.inl ⟨c1, s, ⟨u, m, d, z, n, e, v1, v2, n1, n2, rfl⟩, rfl, rfl⟩))⟩
      · by_cases c2 : c = 2
        · exact ⟨_, _, _, .inr (.inr (.inr (.inl ⟨c2, s, rfl, rfl, rfl⟩)))⟩
        · exact ⟨_, _, _, .inr (.inr (.inr (.inr ⟨by omega, s, rfl, rfl, rfl⟩)))⟩
    · exact ⟨_, _, _, .inr (.inl ⟨h, s, rfl, rfl, rfl⟩)⟩
  · exact ⟨_, _, _, .inl ⟨h, rfl, rfl, rfl⟩⟩

end Go.Proofs.Ytfcgmhkfehcdaaa
