/-
  Walks: the document's own reading of a day.
-/
import Derived.Test.YtokjolbjllfaaaaWkH
namespace Go.Proofs.Ytokjolbjllfaaaa
open Go.RowKit

theorem read_no (s : ByteArray) (w : World) (hs : s.size ≤ 9223372036854775807) (h : ¬ Form s) :
    Calls Try.prog 20 #[.string s] w fun e w' => e = .returned (.tuple #[.int .i64 0, .int .i64 7]) ∧ w = w' := by
  have F := Lib.hid (fun w => isForm_no s w hs h)
  clear h hs
  go_enter Try.func20, Try.ntmps20
  go_wp2_with (go_at_call 31; refine (F.out _).mono ?_; rintro e w' ⟨rfl, rfl⟩)
  go_ret2
  exact ⟨rfl, rfl⟩

/-- Which number a place belongs to, and what it is so far. -/
def kap (k : Nat) : Nat := if k ≤ 4 then 0 else if k ≤ 7 then 1 else 2
def cur (s : ByteArray) (k : Nat) : Int := if k ≤ 4 then nt (dg s) k else if k ≤ 7 then nt (fun i => dg s (5 + i)) (k - 5) else nt (fun i => dg s (8 + i)) (k - 8)
def row3 (s : ByteArray) (k : Nat) (j : Nat) : Value := .int .i64 (if j = 0 then nt (dg s) (min k 4) else if j = 1 then nt (fun i => dg s (5 + i)) (min k 7 - 5) else nt (fun i => dg s (8 + i)) (k - 8))
theorem kap_lt (k : Nat) : kap k < 3 := by
  unfold kap
  split
  · omega
  · split <;> omega
theorem row3_at (s : ByteArray) (k : Nat) (h : k < 10) (h4 : k ≠ 4) (h7 : k ≠ 7) : row3 s k (kap k) = .int .i64 (cur s k) := by
  have : k = 0 ∨ k = 1 ∨ k = 2 ∨ k = 3 ∨ k = 5 ∨ k = 6 ∨ k = 8 ∨ k = 9 := by omega
  rcases this with rfl | rfl | rfl | rfl | rfl | rfl | rfl | rfl <;> rfl
theorem row3_next (s : ByteArray) (k : Nat) (h : k < 10) (h4 : k ≠ 4) (h7 : k ≠ 7) (j : Nat) (hj : j < 3) : (if j = kap k then .int .i64 (10 * cur s k + dg s k) else row3 s k j) = row3 s (k + 1) j := by
  have : k = 0 ∨ k = 1 ∨ k = 2 ∨ k = 3 ∨ k = 5 ∨ k = 6 ∨ k = 8 ∨ k = 9 := by omega
  have hj3 : j = 0 ∨ j = 1 ∨ j = 2 := by omega
  rcases this with rfl | rfl | rfl | rfl | rfl | rfl | rfl | rfl <;> rcases hj3 with rfl | rfl | rfl <;> rfl
theorem kap_next (k : Nat) (h : k < 10) (h4 : k ≠ 4) (h7 : k ≠ 7) : kap (k + 1) = kap k := by
  have : k = 0 ∨ k = 1 ∨ k = 2 ∨ k = 3 ∨ k = 5 ∨ k = 6 ∨ k = 8 ∨ k = 9 := by omega
  rcases this with rfl | rfl | rfl | rfl | rfl | rfl | rfl | rfl <;> rfl
theorem fits_dg {s : ByteArray} {k : Nat} (hs : s.size = 10) (h : ∀ j (h : j < s.size), j < k → Fits j (s[j].toNat : Int)) (i : Nat) (hi : i < 10) (hk : i < k) (h4 : i ≠ 4) (h7 : i ≠ 7) : 0 ≤ dg s i ∧ dg s i ≤ 9 := by
  have := h i (by omega) hk
  unfold Fits at this
  rw [if_neg (by omega)] at this
  rw [dg_at s i (by omega)]
  omega
theorem cur_bd {s : ByteArray} {k : Nat} (hs : s.size = 10) (h : ∀ j (h : j < s.size), j < k → Fits j (s[j].toNat : Int)) (hk : k < 10) (_h4 : k ≠ 4) (_h7 : k ≠ 7) : 0 ≤ cur s k ∧ cur s k ≤ 9999 := by
  unfold cur
  by_cases a : k ≤ 4
  · rw [if_pos a]
    exact nt_bd (dg s) k (fun i hi => fits_dg hs h i (by omega) (by omega) (by omega) (by omega)) k (Nat.le_refl _) (by omega)
  · rw [if_neg a]
    by_cases b : k ≤ 7
    · rw [if_pos b]
      exact nt_bd (fun i => dg s (5 + i)) (k - 5) (fun i hi => fits_dg hs h (5 + i) (by omega) (by omega) (by omega) (by omega)) (k - 5) (Nat.le_refl _) (by omega)
    · rw [if_neg b]
      exact nt_bd (fun i => dg s (8 + i)) (k - 8) (fun i hi => fits_dg hs h (8 + i) (by omega) (by omega) (by omega) (by omega)) (k - 8) (Nat.le_refl _) (by omega)

/-- What is read of a text. -/
def ReadsTo (s : ByteArray) (v er : Int) : Prop := (Form s ∧ v = (ofP (rdY s) (rdM s) (rdD s)).1 ∧ er = (ofP (rdY s) (rdM s) (rdD s)).2) ∨ (¬ Form s ∧ v = 0 ∧ er = 7)

set_option maxRecDepth 100000 in
set_option maxHeartbeats 2000000 in
theorem readR_ten (s : ByteArray) (w : World) (hs : s.size = 10) :
    Calls Try.prog 21 #[.string s] w fun e w' => ∃ v er, e = .returned (.tuple #[.int .i64 v, .int .i64 er]) ∧ ReadsTo s v er ∧ Below w.heap.size w w' := by
  have hsi : (s.size : Int) = 10 := by omega
  have HS := Lib.hid hs
  clear hs
  go_enter Try.func21, Try.ntmps21
  go_wp2
  go_loopw [5, 6] (fun t5 t6 wr => ∃ k : Nat, k ≤ 10 ∧ t5 = .int .i64 (kap k) ∧ t6 = .int .i64 k ∧ wr.rowIs w.heap.size 55 3 (row3 s k) ∧ Hid (∀ j (h : j < s.size), j < k → Fits j (s[j].toNat : Int)) ∧ Below w.heap.size w wr) (fun _ t6 _ => 10 - (intOf t6).toNat)
  case atStart =>
    refine ⟨0, by omega, rfl, rfl, ?_, Lib.hid (fun _ _ h => absurd h (by omega)), (Below.refl _ _).alloc (Nat.le_refl _) _⟩
    exact World.rowIs_alloc w #[.int .i64 0, .int .i64 0, .int .i64 0] 55 (row3 s 0) (fun i hi => by
      have : i = 0 ∨ i = 1 ∨ i = 2 := by simp at hi; omega
      rcases this with rfl | rfl | rfl <;> rfl)
  case round =>
    obtain ⟨k, hk, rfl, rfl, r1, hp, hbl⟩ := hrel
    by_cases hlt : k < 10
    · have hks : k < s.size := by rw [HS.out]; exact hlt
      have hki : (k : Int) < 10 := by omega
      by_cases F : Fits k (s[k].toNat : Int)
      · have N : Hid (∀ j (h : j < s.size), j < k + 1 → Fits j (s[j].toNat : Int)) := Lib.hid (fun j h g => by
          by_cases e : j = k
          · subst e; exact F
          · exact hp.out j h (by omega))
        by_cases k4 : k = 4
        · subst k4
          have F' : (s[4].toNat : Int) = 45 := F
          have F2 : ((s[4].toNat : Int) != 45) = false := by simpa using F'
          have R1 := Lib.hid (show wr.rowIs w.heap.size 55 3 (row3 s 5) from r1.congr fun j hj => by
            have hj3 : j = 0 ∨ j = 1 ∨ j = 2 := by omega
            rcases hj3 with rfl | rfl | rfl <;> rfl)
          clear F F' hp r1
          rw [show ((kap 4 : Nat) : Int) = 0 from rfl]
          go_wp2
          go_roundw
          case rel => exact ⟨5, by omega, rfl, rfl, R1.out, N, hbl⟩
          case measure => simp [intOf]
        · by_cases k7 : k = 7
          · subst k7
            have F' : (s[7].toNat : Int) = 45 := F
            have F2 : ((s[7].toNat : Int) != 45) = false := by simpa using F'
            have R1 := Lib.hid (show wr.rowIs w.heap.size 55 3 (row3 s 8) from r1.congr fun j hj => by
              have hj3 : j = 0 ∨ j = 1 ∨ j = 2 := by omega
              rcases hj3 with rfl | rfl | rfl <;> rfl)
            clear F F' hp r1
            rw [show ((kap 7 : Nat) : Int) = 1 from rfl]
            go_wp2
            go_roundw
            case rel => exact ⟨8, by omega, rfl, rfl, R1.out, N, hbl⟩
            case measure => simp [intOf]
          · unfold Fits at F
            rw [if_neg (by omega)] at F
            obtain ⟨f1, f2⟩ := F
            obtain ⟨b0, b1⟩ := cur_bd HS.out hp.out hlt k4 k7
            have c1 := r1.cell (kap_lt k)
            rw [row3_at s k hlt k4 k7] at c1
            have fz := r1.frozen (kap k)
            have NX := Lib.hid (fun j hj => row3_next s k hlt k4 k7 j hj)
            rw [dg_at s k hks] at NX
            have KX := Lib.hid (kap_next k hlt k4 k7)
            have q3 := kap_lt k
            have R1 := Lib.hid r1
            clear r1 hp
            generalize cur s k = x at *
            generalize kap k = q at *
            have q4 : (q : Int) < 3 := by omega
            have cc4 : ((k : Int) == 4) = false := by simp; omega
            have cc7 : ((k : Int) == 7) = false := by simp; omega
            obtain ⟨c, hcc⟩ : ∃ c : Int, (s[k].toNat : Int) = c := ⟨_, rfl⟩
            rw [hcc] at f1 f2 NX
            have g1 : decide (c < 48) = false := by simpa using f1
            have g2 : decide (57 < c) = false := by simpa using f2
            have e0 : IntKind.u8.wrap (c - 48) = c - 48 := by rw [IntKind.wrap_u8]; omega
            have e1 : IntKind.i64.wrap (10 * x) = 10 * x := IntWalk.i64_in _ (by omega)
            have e2 : IntKind.i64.wrap (10 * x + (c - 48)) = 10 * x + (c - 48) := IntWalk.i64_in _ (by omega)
            have e3 : IntKind.i64.wrap (c - 48) = c - 48 := IntWalk.i64_in _ (by omega)
            clear k4 k7
            go_wp2
            refine wp_region_any (by kernel_rfl) ?_
            change wpAny _ _ _ _ _ _ _ (World.drew _)
            refine wpAny_take (i := 0) (v := .int .i64 q) rfl (by kernel_rfl) (by kernel_rfl) (by kernel_rfl) (fun _ _ _ h => h) (Or.inl ⟨by rfl, fun _ => by go_simp⟩) ?_
            refine wpAny_take (i := 1) (v := .int .i64 q) rfl (by kernel_rfl) (by kernel_rfl) (by kernel_rfl) (fun _ _ _ h => h) (Or.inl ⟨by rfl, fun _ => by go_simp⟩) ?_
            refine wpAny_take (i := 2) (v := .pointer (some ⟨w.heap.size, q, none⟩)) rfl (by kernel_rfl) (by kernel_rfl) (by kernel_rfl) (fun _ _ _ h => h) (Or.inl ⟨by rfl, fun _ => by go_simp⟩) ?_
            refine wpAny_take (i := 5) (v := .string s) rfl (by kernel_rfl) (by kernel_rfl) (by kernel_rfl) (fun _ _ _ h => h) (Or.inl ⟨by rfl, fun _ => by go_simp⟩) ?_
            refine wpAny_take (i := 6) (v := .int .i64 k) rfl (by kernel_rfl) (by kernel_rfl) (by kernel_rfl) (fun _ _ _ h => h) (Or.inl ⟨by rfl, fun _ => by go_simp⟩) ?_
            refine wpAny_take (i := 7) (v := .int .u8 c) rfl (by kernel_rfl) (by kernel_rfl) (by kernel_rfl) (fun _ _ _ h => h) (Or.inl ⟨by rfl, fun _ => by go_simp⟩) ?_
            refine wpAny_take (i := 8) (v := .int .u8 (c - 48)) rfl (by kernel_rfl) (by kernel_rfl) (by kernel_rfl) (fun _ _ _ h => h) (Or.inl ⟨by rfl, fun _ => by go_simp⟩) ?_
            refine wpAny_take (i := 9) (v := .int .i64 (c - 48)) rfl (by kernel_rfl) (by kernel_rfl) (by kernel_rfl) (fun _ _ _ h => h) (Or.inl ⟨by rfl, fun _ => by go_simp⟩) ?_
            refine wpAny_ready (rs := [3]) (by kernel_rfl) (by simp) ?_
            refine AllReady.cons rfl (fun K hK => ?_) AllReady.nil
            go_simp
            refine hK _ _ ?_
            clear hK K
            refine wpAny_take (i := 4) (v := .int .i64 (10 * x)) rfl (by kernel_rfl) (by kernel_rfl) (by kernel_rfl) (fun _ _ _ h => h) (Or.inl ⟨by rfl, fun _ => by go_simp⟩) ?_
            refine wpAny_take (i := 10) (v := .int .i64 (10 * x + (c - 48))) rfl (by kernel_rfl) (by kernel_rfl) (by kernel_rfl) (fun _ _ _ h => h) (Or.inl ⟨by rfl, fun _ => by go_simp⟩) ?_
            refine wpAny_take (i := 11) (v := .pointer (some ⟨w.heap.size, q, none⟩)) rfl (by kernel_rfl) (by kernel_rfl) (by kernel_rfl) (fun _ _ _ h => h) (Or.inl ⟨by rfl, fun _ => by go_simp⟩) ?_
            refine wpAny_ready (rs := [12]) (by kernel_rfl) (by simp) ?_
            refine AllReady.cons rfl (fun K hK => ?_) AllReady.nil
            go_simp
            refine hK _ _ ?_
            clear hK K
            refine wpAny_done (by kernel_rfl) ?_ _
            go_wp2_with fail
            go_roundw
            case rel =>
              refine ⟨k + 1, by omega, by rw [KX.out], by go_num, ?_, N, ?_⟩
              · exact (R1.out.drew.set q _).congr NX.out
              · exact hbl.drew.setCell (Nat.le_refl _) _
            case measure => simp [intOf]; omega
      · have RT : Hid (ReadsTo s 0 7) := Lib.hid (Or.inr ⟨fun h => F (h.2 k hks), rfl, rfl⟩)
        clear hp r1
        by_cases k4 : k = 4
        · subst k4
          have F' : ¬ (s[4].toNat : Int) = 45 := F
          have F2 : ((s[4].toNat : Int) != 45) = true := by simpa using F'
          clear F F'
          go_wp2
          go_ret2
          exact ⟨0, 7, rfl, RT.out, hbl⟩
        · by_cases k7 : k = 7
          · subst k7
            have F' : ¬ (s[7].toNat : Int) = 45 := F
            have F2 : ((s[7].toNat : Int) != 45) = true := by simpa using F'
            clear F F'
            go_wp2
            go_ret2
            exact ⟨0, 7, rfl, RT.out, hbl⟩
          · unfold Fits at F
            rw [if_neg (by omega)] at F
            have c4 : ((k : Int) == 4) = false := by simp; omega
            have c7 : ((k : Int) == 7) = false := by simp; omega
            by_cases f1 : (s[k].toNat : Int) < 48
            · clear F k4 k7
              go_wp2
              go_ret2
              exact ⟨0, 7, rfl, RT.out, hbl⟩
            · have g1 : decide ((s[k].toNat : Int) < 48) = false := by simpa using f1
              have g2 : 57 < (s[k].toNat : Int) := by omega
              clear F f1 k4 k7
              go_wp2
              go_ret2
              exact ⟨0, 7, rfl, RT.out, hbl⟩
    · obtain rfl : k = 10 := by omega
      have FM : Form s := ⟨HS.out, fun j h => hp.out j h (by have := HS.out; omega)⟩
      have RT : Hid (ReadsTo s (ofP (rdY s) (rdM s) (rdD s)).1 (ofP (rdY s) (rdM s) (rdD s)).2) := Lib.hid (Or.inl ⟨FM, rfl, rfl⟩)
      have c0 : wr.cell? ⟨w.heap.size, 0, none⟩ = some (.int .i64 (rdY s)) := r1.cell (i := 0) (by omega)
      have c1 : wr.cell? ⟨w.heap.size, 1, none⟩ = some (.int .i64 (rdM s)) := r1.cell (i := 1) (by omega)
      have c2 : wr.cell? ⟨w.heap.size, 2, none⟩ = some (.int .i64 (rdD s)) := r1.cell (i := 2) (by omega)
      have OF := Lib.hid (fun w => ofR_any (rdY s) (rdM s) (rdD s) w)
      generalize (ofP (rdY s) (rdM s) (rdD s)).1 = p at OF RT ⊢
      generalize (ofP (rdY s) (rdM s) (rdD s)).2 = q at OF RT ⊢
      clear r1 hp FM
      go_wp2_with (go_at_call 11; refine (OF.out _).mono ?_; rintro e w1 ⟨rfl, rfl⟩)
      go_ret2
      exact ⟨p, q, rfl, RT.out, hbl⟩

set_option maxHeartbeats 400000 in
theorem readR_any (s : ByteArray) (w : World) (_hs : s.size ≤ 9223372036854775807) :
    Calls Try.prog 21 #[.string s] w fun e w' => ∃ v er, e = .returned (.tuple #[.int .i64 v, .int .i64 er]) ∧ ReadsTo s v er ∧ Below w.heap.size w w' := by
  by_cases h : s.size = 10
  · exact readR_ten s w h
  · have RT : Hid (ReadsTo s 0 7) := Lib.hid (Or.inr ⟨fun g => h g.1, rfl, rfl⟩)
    have h2 : ((s.size : Int) != 10) = true := by simp; omega
    clear h
    go_enter Try.func21, Try.ntmps21
    go_wp2
    go_ret2
    exact ⟨0, 7, rfl, RT.out, Below.refl _ _⟩

theorem read_any (s : ByteArray) (w : World) (hs : s.size ≤ 9223372036854775807) :
    Calls Try.prog 20 #[.string s] w fun e w' => ∃ v er, e = .returned (.tuple #[.int .i64 v, .int .i64 er]) ∧ ReadsTo s v er ∧ Below w.heap.size w w' := by
  by_cases h : Form s
  · exact (read_yes s w h).mono fun _ _ k => ⟨_, _, k.1, Or.inl ⟨h, rfl, rfl⟩, k.2⟩
  · refine (read_no s w hs h).mono ?_
    rintro e w' ⟨rfl, rfl⟩
    exact ⟨0, 7, rfl, Or.inr ⟨h, rfl, rfl⟩, Below.refl _ _⟩

/-- A text is read in one way. -/
theorem ReadsTo.one {s : ByteArray} {v er v' er' : Int} (h : ReadsTo s v er) (k : ReadsTo s v' er') : v = v' ∧ er = er' := by
  rcases h with ⟨a, rfl, rfl⟩ | ⟨a, rfl, rfl⟩ <;> rcases k with ⟨b, rfl, rfl⟩ | ⟨b, rfl, rfl⟩
  · exact ⟨rfl, rfl⟩
  · exact absurd a b
  · exact absurd b a
  · exact ⟨rfl, rfl⟩

end Go.Proofs.Ytokjolbjllfaaaa
