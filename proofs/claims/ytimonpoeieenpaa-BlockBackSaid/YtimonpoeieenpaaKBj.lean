/-
  Walks: the numbers of a pair, by the program.
-/
import Derived.Test.YtimonpoeieenpaaKBi
namespace Go.Proofs.Ytimonpoeieenpaa
open Go.RowKit

def CntE (p : (Int × Int × Int) × Int × Int) : Ending := .returned (.tuple #[.agg #[.int .u64 p.1.1, .int .u64 p.1.2.1, .int .u64 p.1.2.2], .int .i64 p.2.1, .int .i64 p.2.2])

set_option maxRecDepth 100000 in
set_option maxHeartbeats 8000000 in
theorem countsAt_any (A : Option Addr) (L : List Int) (n c a : Nat) (w : World) (h : In w A L n c) :
    Calls Try.prog 38 #[.slice A n c, .int .i64 (a : Int)] w fun e w' => e = CntE (numsP L a) ∧ Below w.heap.size w w' := by
  have HI := Lib.hid h
  clear h
  obtain ⟨H, hH⟩ : ∃ H, w.heap.size = H := ⟨_, rfl⟩
  have HH := Lib.hid hH
  obtain ⟨W, hW⟩ : ∃ W, (w.alloc (.cells #[.int .u64 0, .int .u64 0, .int .u64 0] 56)).alloc (.cells #[.int .u64 0, .int .u64 0, .int .u64 0] 56) = W := ⟨_, rfl⟩
  have HB : Hid (Below w.heap.size w W) := Lib.hid (hW ▸ below_al (below_al (Below.refl _ _) _) _)
  have HC : Hid (W.heap[H]? = some (.cells #[.int .u64 0, .int .u64 0, .int .u64 0] 56 (0, 0))) := Lib.hid (by
    rw [← hW, ← hH]
    exact ((below_new _ _).block _ (by simp)).trans (heap_alloc_new w _))
  have R0 : Hid (W.rowIs (H + 1) 56 3 (fun j => .int .u64 (if j < 0 then valN L a j else 0))) := Lib.hid (by
    rw [← hW, ← hH]
    have := World.rowIs_alloc (w.alloc (.cells #[.int .u64 0, .int .u64 0, .int .u64 0] 56)) #[.int .u64 0, .int .u64 0, .int .u64 0] 56 (fun j => .int .u64 (if j < 0 then valN L a j else 0)) (fun i hi => by
      have hi : i < 3 := hi
      have : i = 0 ∨ i = 1 ∨ i = 2 := by omega
      rcases this with rfl | rfl | rfl <;> rfl)
    rwa [World.size_alloc] at this)
  have HS : Hid (W.heap.size = H + 2) := Lib.hid (by rw [← hW, ← hH]; simp)
  go_enter Try.func38, Try.ntmps38
  go_wp2_with fail
  try rw [hW]
  clear hW
  try rw [hH]
  clear hH
  go_loopw [1, 12] (fun t1 t12 wr => ∃ i : Nat, i ≤ 3 ∧ t12 = .int .i64 i ∧ t1 = .int .i64 (posN L a i) ∧ Hid (∀ j, j < i → errN L a j = 0) ∧ Hid (wr.rowIs (H + 1) 56 3 (fun j => .int .u64 (if j < i then valN L a j else 0))) ∧ Hid (wr.heap[H]? = some (.cells #[.int .u64 0, .int .u64 0, .int .u64 0] 56 (0, 0))) ∧ Hid (Below w.heap.size w wr)) (fun _ t12 _ => 3 - (intOf t12).toNat)
  case atStart => exact ⟨0, by omega, rfl, rfl, Lib.hid (fun j hj => by omega), R0, HC, HB⟩
  case round =>
    obtain ⟨i, hi3, rfl, rfl, herr, hrw, hres, hbs⟩ := hrel
    have z0 : wr.cell? ⟨H, 0, none⟩ = some (.int .u64 0) := by simp [World.cell?, hres.out]
    have z1 : wr.cell? ⟨H, 1, none⟩ = some (.int .u64 0) := by simp [World.cell?, hres.out]
    have z2 : wr.cell? ⟨H, 2, none⟩ = some (.int .u64 0) := by simp [World.cell?, hres.out]
    have f0 : wr.frozen? ⟨H, 0, none⟩ = false := by simp [World.frozen?, hres.out]
    have f1 : wr.frozen? ⟨H, 1, none⟩ = false := by simp [World.frozen?, hres.out]
    have f2 : wr.frozen? ⟨H, 2, none⟩ = false := by simp [World.frozen?, hres.out]
    by_cases hil : i < 3
    · have HU := Lib.hid (uint_any A L n c (posN L a i) wr (HI.out.kept hbs.out))
      have HPN : Hid (posN L a (i + 1) = (uintP L (posN L a i)).2.1) := Lib.hid rfl
      have HVN : Hid (valN L a i = (uintP L (posN L a i)).1) := Lib.hid rfl
      have HEN : Hid (errN L a i = (uintP L (posN L a i)).2.2) := Lib.hid rfl
      have i3 : (i : Int) < 3 := by omega
      obtain ⟨p, hp⟩ : ∃ p, posN L a i = p := ⟨_, rfl⟩
      unfold Ans at HU
      rw [hp] at HU HPN HVN HEN ⊢
      generalize uintP L p = R at HU HPN HVN HEN
      obtain ⟨v, nx, er⟩ := R
      simp only at HU HPN HVN HEN
      have r1 := hrw.out
      have c1 := r1.cell (i := i) (by omega)
      have g1 := r1.frozen i
      clear hp r1
      by_cases he : er = 0
      · subst he
        have HE2 := Lib.hid (errN_next herr.out HEN.out)
        go_wp2_with (go_at_call 40; refine HU.out.mono ?_; rintro e w1 ⟨rfl, hw⟩; subst hw)
        go_roundw
        case rel => exact ⟨i + 1, by omega, by go_num, by rw [HPN.out], HE2, Lib.hid ((hrw.out.set i _).congr fun j hj => by
          by_cases e : j = i
          · subst e
            rw [if_pos rfl, if_pos (by omega), HVN.out]
          · rw [if_neg e]
            by_cases e2 : j < i
            · rw [if_pos e2, if_pos (by omega)]
            · rw [if_neg e2, if_neg (by omega)]), Lib.hid ((Below.heap_setCell wr ⟨H + 1, i, none⟩ _ H (by simp)).trans hres.out), Lib.hid (hbs.out.setCell (by have := HH.out; simp only; omega) _)⟩
        case measure => simp [intOf]; omega
      · have he' : (er != 0) = true := by simpa using he
        have HV := Lib.hid (numsP_bad hil herr.out (by rw [HEN.out]; exact he))
        rw [HEN.out] at HV
        clear he
        go_wp2_with (go_at_call 40; refine HU.out.mono ?_; rintro e w1 ⟨rfl, hw⟩; subst hw)
        try simp only [Exit.inBlock, Exit.then]
        refine bodyPost_ret (v := .tuple #[.agg #[.int .u64 0, .int .u64 0, .int .u64 0], .int .i64 0, .int .i64 er]) ?_ rfl ?_
        · unfold results
          go_simp
        · rw [HV.out]
          exact ⟨rfl, ((hbs.out.setCell (by rw [HH.out]; exact Nat.le_refl _) _).setCell (by rw [HH.out]; exact Nat.le_refl _) _).setCell (by rw [HH.out]; exact Nat.le_refl _) _⟩
    · obtain rfl : i = 3 := by omega
      have HV := Lib.hid (numsP_fine herr.out)
      have r1 := hrw.out
      have c0 := r1.cell (i := 0) (by omega)
      have c1 := r1.cell (i := 1) (by omega)
      have c2 := r1.cell (i := 2) (by omega)
      rw [if_pos (by omega)] at c0 c1 c2
      clear r1 hrw
      generalize valN L a 0 = x at c0 HV
      generalize valN L a 1 = y at c1 HV
      generalize valN L a 2 = z at c2 HV
      generalize posN L a 3 = s at HV ⊢
      go_wp2_with fail
      try simp only [Exit.inBlock, Exit.then]
      refine bodyPost_ret (v := .tuple #[.agg #[.int .u64 x, .int .u64 y, .int .u64 z], .int .i64 s, .int .i64 0]) ?_ rfl ?_
      · unfold results
        go_simp
      · rw [HV.out]
        exact ⟨rfl, ((hbs.out.setCell (by rw [HH.out]; exact Nat.le_refl _) _).setCell (by rw [HH.out]; exact Nat.le_refl _) _).setCell (by rw [HH.out]; exact Nat.le_refl _) _⟩

end Go.Proofs.Ytimonpoeieenpaa
