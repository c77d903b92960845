/-
  Walks: the pair that stands at a place, by the program.
-/
import Derived.Test.YtimonpoeieenpaaKBj
namespace Go.Proofs.Ytimonpoeieenpaa
open Go.RowKit

/-- What reading a pair answers. -/
def PkBad (w : World) (er : Int) (e : Ending) (w' : World) : Prop := e = .returned (.tuple #[.agg #[.int .i64 0, .slice none 0 0, .slice none 0 0], .int .i64 0, .int .i64 er]) ∧ Below w.heap.size w w'
def PkGood (w : World) (X Y Z E : Nat) (A1 A2 : Option Addr) (c1 c2 : Nat) (e : Ending) (w' : World) : Prop := e = .returned (.tuple #[.agg #[.int .i64 X, .slice A1 Y c1, .slice A2 Z c2], .int .i64 E, .int .i64 0]) ∧ Below w.heap.size w w'
def midA (A : Option Addr) (a c : Nat) : Option Addr := if c = a then A else A.map (·.add a)
theorem In.mid_at {w : World} {A : Option Addr} {L : List Int} {n c : Nat} (h : In w A L n c) (a k : Nat) (hk : a + k ≤ n) :
    (∀ W, (Instr.slice 24 (.slice A n c) (some (.int .i64 (a : Int))) (some (.int .i64 ((a : Int) + k))) none).run Try.prog W = .ok (.slice (midA A a c) k (c - a)) W) ∧ In w (midA A a c) ((L.drop a).take k) k (c - a) := by
  have h1 := h.len
  have h2 := h.cap
  have h3 := h.top
  have e : ((a : Int) + k).toNat = a + k := by omega
  refine ⟨fun W => ?_, by rw [List.length_take, List.length_drop, h1]; omega, by omega, by omega, h.bys.part a k c (by omega), (h.byt.drop a).take k⟩
  rw [run_slice_lh (P := Try.prog) W _ A n c under8 .i64 .i64 (a : Int) ((a : Int) + k) (by omega) (by omega) (by omega), size8, e]
  simp [Result.andThen, sliced, midA]

set_option maxRecDepth 100000 in
set_option maxHeartbeats 16000000 in
theorem packedAt_any (A E : Option Addr) (L G : List Int) (n c a g gc : Nat) (w : World) (h : In w A L n c) (hG : In w E G g gc) (hg200 : g ≤ 200) (hn : n ≤ 140737488355328) :
    Calls Try.prog 34 #[.slice A n c, .int .i64 (a : Int), .slice E g gc] w fun e w' =>
      ((oneP L a G).2.2 ≠ 0 ∧ PkBad w (oneP L a G).2.2 e w') ∨ ∃ X Y Z S : Nat, (oneP L a G) = ((G.take X ++ (L.drop S).take Y, (L.drop (S + Y)).take Z), (S : Int) + Y + Z, 0) ∧ X ≤ g ∧ S + Y + Z ≤ n ∧ PkGood w X Y Z (S + Y + Z) (midA A S c) (midA A (S + Y) c) (c - S) (c - (S + Y)) e w' := by
  have HI := Lib.hid h
  have HG := Lib.hid hG
  have htop : (n : Int) ≤ 9223372036854775807 := by omega
  obtain ⟨H, hH⟩ : ∃ H, w.heap.size = H := ⟨_, rfl⟩
  have HH := Lib.hid hH
  obtain ⟨W, hW⟩ : ∃ W, w.alloc (.cells #[.int .i64 0, .slice none 0 0, .slice none 0 0] 47) = W := ⟨_, rfl⟩
  have HB : Hid (Below w.heap.size w W) := Lib.hid (hW ▸ below_new _ _)
  have HR : Hid (W.heap[H]? = some (.cells #[.int .i64 0, .slice none 0 0, .slice none 0 0] 47 (0, 0))) := Lib.hid (by rw [← hW, ← hH]; exact heap_alloc_new w _)
  have HC := Lib.hid (countsAt_any A L n c a W (HI.out.kept HB.out))
  have hbd := numsP_bd L a h.byt
  have HON : Hid ((numsP L a).2.2 ≠ 0 → (oneP L a G).2.2 = (numsP L a).2.2) := Lib.hid oneP_nums
  have HOB : Hid ((numsP L a).2.2 = 0 → oneP L a G = bodyP L G (numsP L a).1.1 (numsP L a).1.2.1 (numsP L a).1.2.2 (numsP L a).2.1) := Lib.hid (fun e => by unfold oneP; rw [if_neg (fun e' => e' e)])
  generalize numsP L a = P at HC hbd HON HOB
  obtain ⟨⟨x, y, z⟩, s, er⟩ := P
  unfold CntE at HC
  simp only at HC hbd HON HOB
  obtain ⟨-, -, b1, b2, b3, b4⟩ := hbd
  rw [h.len] at b1
  clear h hG
  by_cases he : er = 0
  case neg =>
    have he' : (er != 0) = true := by simpa using he
    have HV := Lib.hid (HON.out he)
    have HE := Lib.hid he
    clear he b1 b2 b3 b4
    go_enter Try.func34, Try.ntmps34
    go_upto_region 1 with fail
    try rw [hW]
    try rw [hH]
    clear hW hH
    go_upto_region 2 with (go_at_call 38; refine HC.out.mono ?_; rintro e w1 ⟨rfl, b1⟩; have D1 : Hid (Below w.heap.size w (w1.alloc (.cells #[.int .u64 x, .int .u64 y, .int .u64 z] 56))) := Lib.hid (below_al (below_then HB.out b1) _); have R1 : Hid ((w1.alloc (.cells #[.int .u64 x, .int .u64 y, .int .u64 z] 56)).heap[H]? = some (.cells #[.int .i64 0, .slice none 0 0, .slice none 0 0] 47 (0, 0))) := Lib.hid ((((b1.block _ (Array.getElem?_eq_some_iff.1 HR.out).1).trans HR.out) |> fun k => ((below_new w1 _).block _ (Array.getElem?_eq_some_iff.1 k).1).trans k)); have K1 : Hid ((w1.alloc (.cells #[.int .u64 x, .int .u64 y, .int .u64 z] 56)).heap[w1.heap.size]? = some (.cells #[.int .u64 x, .int .u64 y, .int .u64 z] 56 (0, 0))) := Lib.hid (heap_alloc_new w1 _); clear b1)
    obtain ⟨K, hK⟩ : ∃ K, w1.heap.size = K := ⟨_, rfl⟩
    obtain ⟨w2, hw2⟩ : ∃ w2, w1.alloc (.cells #[.int .u64 x, .int .u64 y, .int .u64 z] 56) = w2 := ⟨_, rfl⟩
    rw [hw2, hK] at K1
    rw [hw2] at D1 R1 ⊢
    rw [hK]
    clear hw2 hK
    have s0 : w2.cell? ⟨H, 0, none⟩ = some (.int .i64 0) := by simp [World.cell?, R1.out]
    have s1 : w2.cell? ⟨H, 1, none⟩ = some (.slice none 0 0) := by simp [World.cell?, R1.out]
    have s2 : w2.cell? ⟨H, 2, none⟩ = some (.slice none 0 0) := by simp [World.cell?, R1.out]
    have f0 : w2.frozen? ⟨H, 0, none⟩ = false := by simp [World.frozen?, R1.out]
    have f1 : w2.frozen? ⟨H, 1, none⟩ = false := by simp [World.frozen?, R1.out]
    have f2 : w2.frozen? ⟨H, 2, none⟩ = false := by simp [World.frozen?, R1.out]
    go_wp2_with fail
    try simp only [Exit.inBlock, Exit.then]
    refine bodyPost_ret (v := .tuple #[.agg #[.int .i64 0, .slice none 0 0, .slice none 0 0], .int .i64 0, .int .i64 er]) ?_ rfl ?_
    · unfold results
      go_simp
    · rw [HV.out]
      exact .inl ⟨HE.out, rfl, ((D1.out.setCell (by rw [HH.out]; exact Nat.le_refl _) _).setCell (by rw [HH.out]; exact Nat.le_refl _) _).setCell (by rw [HH.out]; exact Nat.le_refl _) _⟩
  subst he
  have HOE := Lib.hid (HOB.out rfl)
  have HBD := Lib.hid (And.intro (b1 rfl) (And.intro b2 (And.intro b3 b4)))
  have HTP := Lib.hid htop
  have HNN := Lib.hid hn
  clear HON HOB b1 b2 b3 b4 htop hn
  go_enter Try.func34, Try.ntmps34
  go_upto_region 1 with fail
  try rw [hW]
  try rw [hH]
  clear hW hH
  go_upto_region 4 with (go_at_call 38; refine HC.out.mono ?_; rintro e w1 ⟨rfl, b1⟩; have D1 : Hid (Below w.heap.size w (w1.alloc (.cells #[.int .u64 x, .int .u64 y, .int .u64 z] 56))) := Lib.hid (below_al (below_then HB.out b1) _); have R1 : Hid ((w1.alloc (.cells #[.int .u64 x, .int .u64 y, .int .u64 z] 56)).heap[H]? = some (.cells #[.int .i64 0, .slice none 0 0, .slice none 0 0] 47 (0, 0))) := Lib.hid ((((b1.block _ (Array.getElem?_eq_some_iff.1 HR.out).1).trans HR.out) |> fun k => ((below_new w1 _).block _ (Array.getElem?_eq_some_iff.1 k).1).trans k)); have K1 : Hid ((w1.alloc (.cells #[.int .u64 x, .int .u64 y, .int .u64 z] 56)).heap[w1.heap.size]? = some (.cells #[.int .u64 x, .int .u64 y, .int .u64 z] 56 (0, 0))) := Lib.hid (heap_alloc_new w1 _); clear b1)
  obtain ⟨K, hK⟩ : ∃ K, w1.heap.size = K := ⟨_, rfl⟩
  obtain ⟨w2, hw2⟩ : ∃ w2, w1.alloc (.cells #[.int .u64 x, .int .u64 y, .int .u64 z] 56) = w2 := ⟨_, rfl⟩
  rw [hw2, hK] at K1
  rw [hw2] at D1 R1 ⊢
  rw [hK]
  clear hw2 hK
  have k0 : w2.cell? ⟨K, 0, none⟩ = some (.int .u64 x) := by simp [World.cell?, K1.out]
  have k1 : w2.cell? ⟨K, 1, none⟩ = some (.int .u64 y) := by simp [World.cell?, K1.out]
  have k2 : w2.cell? ⟨K, 2, none⟩ = some (.int .u64 z) := by simp [World.cell?, K1.out]
  go_quiet (fail)
  obtain ⟨w3, hw3⟩ : ∃ w3, w2.drewN nq = w3 := ⟨_, rfl⟩
  have D3 : Hid (Below w.heap.size w w3) := Lib.hid (hw3 ▸ below_drewN D1.out nq)
  have R3 : Hid (w3.heap[H]? = some (.cells #[.int .i64 0, .slice none 0 0, .slice none 0 0] 47 (0, 0))) := Lib.hid (hw3 ▸ R1.out)
  rw [hw3]
  clear hw3 k0 k1 k2
  obtain ⟨⟨b10, b11, b12⟩, ⟨x0, x1⟩, ⟨y0, y1⟩, ⟨z0, z1⟩⟩ := HBD.out
  have htop := HTP.out
  have s0 : w3.cell? ⟨H, 0, none⟩ = some (.int .i64 0) := by simp [World.cell?, R3.out]
  have s1 : w3.cell? ⟨H, 1, none⟩ = some (.slice none 0 0) := by simp [World.cell?, R3.out]
  have s2 : w3.cell? ⟨H, 2, none⟩ = some (.slice none 0 0) := by simp [World.cell?, R3.out]
  have f0 : w3.frozen? ⟨H, 0, none⟩ = false := by simp [World.frozen?, R3.out]
  have f1 : w3.frozen? ⟨H, 1, none⟩ = false := by simp [World.frozen?, R3.out]
  have f2 : w3.frozen? ⟨H, 2, none⟩ = false := by simp [World.frozen?, R3.out]
  have e1 := wrapU_small (g : Int) (by omega) (by omega)
  by_cases h1 : (g : Int) < x
  · have HV : Hid ((oneP L a G).2.2 = 11) := Lib.hid (by rw [HOE.out]; exact bodyP_1 (by rw [HG.out.len]; exact h1))
    have HE : Hid ((11 : Int) ≠ 0) := Lib.hid (by decide)
    have d1 : decide ((g : Int) < x) = true := by simpa using h1
    clear h1
    go_wp2_with fail
    try simp only [Exit.inBlock, Exit.then]
    refine bodyPost_ret (v := .tuple #[.agg #[.int .i64 0, .slice none 0 0, .slice none 0 0], .int .i64 0, .int .i64 11]) ?_ rfl ?_
    · unfold results
      go_simp
    · rw [HV.out]
      exact .inl ⟨HE.out, rfl, ((D3.out.setCell (by rw [HH.out]; exact Nat.le_refl _) _).setCell (by rw [HH.out]; exact Nat.le_refl _) _).setCell (by rw [HH.out]; exact Nat.le_refl _) _⟩
  have d1 : decide ((g : Int) < x) = false := by simpa using h1
  have h1' : ¬ (G.length : Int) < x := by rw [HG.out.len]; exact h1
  have e2 := wrapU_small (200 - x) (by omega) (by omega)
  by_cases h2 : 200 - x < y
  · have HV : Hid ((oneP L a G).2.2 = 3) := Lib.hid (by rw [HOE.out]; exact bodyP_2 h1' (.inl h2))
    have HE : Hid ((3 : Int) ≠ 0) := Lib.hid (by decide)
    have d2 : decide (200 - x < y) = true := by simpa using h2
    clear h1 h1' h2
    go_wp2_with fail
    try simp only [Exit.inBlock, Exit.then]
    refine bodyPost_ret (v := .tuple #[.agg #[.int .i64 0, .slice none 0 0, .slice none 0 0], .int .i64 0, .int .i64 3]) ?_ rfl ?_
    · unfold results
      go_simp
    · rw [HV.out]
      exact .inl ⟨HE.out, rfl, ((D3.out.setCell (by rw [HH.out]; exact Nat.le_refl _) _).setCell (by rw [HH.out]; exact Nat.le_refl _) _).setCell (by rw [HH.out]; exact Nat.le_refl _) _⟩
  have d2 : decide (200 - x < y) = false := by simpa using h2
  by_cases h4 : 4096 < z
  · have HV : Hid ((oneP L a G).2.2 = 3) := Lib.hid (by rw [HOE.out]; exact bodyP_2 h1' (.inr h4))
    have HE : Hid ((3 : Int) ≠ 0) := Lib.hid (by decide)
    have d4 : decide (4096 < z) = true := by simpa using h4
    clear h1 h1' h2 h4
    go_wp2_with fail
    try simp only [Exit.inBlock, Exit.then]
    refine bodyPost_ret (v := .tuple #[.agg #[.int .i64 0, .slice none 0 0, .slice none 0 0], .int .i64 0, .int .i64 3]) ?_ rfl ?_
    · unfold results
      go_simp
    · rw [HV.out]
      exact .inl ⟨HE.out, rfl, ((D3.out.setCell (by rw [HH.out]; exact Nat.le_refl _) _).setCell (by rw [HH.out]; exact Nat.le_refl _) _).setCell (by rw [HH.out]; exact Nat.le_refl _) _⟩
  have d4 : decide (4096 < z) = false := by simpa using h4
  have h24 : ¬ (200 - x < y ∨ 4096 < z) := by omega
  have e3 := wrapU_small ((n : Int) - s) (by omega) (by omega)
  have e4 := wrapU_small (y + z) (by omega) (by omega)
  by_cases h5 : (n : Int) - s < y + z
  · have HV : Hid ((oneP L a G).2.2 = 10) := Lib.hid (by rw [HOE.out]; exact bodyP_3 h1' h24 (by rw [HI.out.len]; exact h5))
    have HE : Hid ((10 : Int) ≠ 0) := Lib.hid (by decide)
    have d5 : decide ((n : Int) - s < y + z) = true := by simpa using h5
    clear h1 h1' h2 h4 h24 h5
    go_wp2_with fail
    try simp only [Exit.inBlock, Exit.then]
    refine bodyPost_ret (v := .tuple #[.agg #[.int .i64 0, .slice none 0 0, .slice none 0 0], .int .i64 0, .int .i64 10]) ?_ rfl ?_
    · unfold results
      go_simp
    · rw [HV.out]
      exact .inl ⟨HE.out, rfl, ((D3.out.setCell (by rw [HH.out]; exact Nat.le_refl _) _).setCell (by rw [HH.out]; exact Nat.le_refl _) _).setCell (by rw [HH.out]; exact Nat.le_refl _) _⟩
  have d5 : decide ((n : Int) - s < y + z) = false := by simpa using h5
  have h5' : ¬ (L.length : Int) - s < y + z := by rw [HI.out.len]; exact h5
  have HB4 := Lib.hid (fun h4 => bodyP_4 (L := L) (G := G) (x := x) (y := y) (z := z) (s := s) h1' h24 h5' h4)
  have HB5 := Lib.hid (fun h4 => bodyP_5 (L := L) (G := G) (x := x) (y := y) (z := z) (s := s) h1' h24 h5' h4)
  go_upto_region 11 with fail
  obtain ⟨X, rfl⟩ := Int.eq_ofNat_of_zero_le x0
  obtain ⟨Y, rfl⟩ := Int.eq_ofNat_of_zero_le y0
  obtain ⟨Z, rfl⟩ := Int.eq_ofNat_of_zero_le z0
  obtain ⟨S, rfl⟩ := Int.eq_ofNat_of_zero_le (a := s) (by omega)
  have g1 : X ≤ g := by omega
  have g2 : Y ≤ 200 := by omega
  have g3 : Z ≤ 4096 := by omega
  have g4 : S + Y + Z ≤ n := by omega
  have hSY : ((S : Int) + (Y : Int)).toNat = S + Y := by omega
  simp only [Int.toNat_natCast, hSY] at HB4 HB5
  have g8 : S + Y ≤ n := Nat.le_trans (Nat.le_add_right _ _) g4
  obtain ⟨hs1, hin1⟩ := (HI.out.kept D3.out).mid_at S Y g8
  obtain ⟨hs2, hin2⟩ := (HI.out.kept D3.out).mid_at (S + Y) Z g4
  simp only [Int.natCast_add] at hs2
  have e5 := wrap_small Y (Nat.le_trans g2 (by decide))
  have e6 := wrap_small Z (Nat.le_trans g3 (by decide))
  have e7 := wrap_small X (Nat.le_trans g1 (Nat.le_trans hg200 (by decide)))
  have HARI := Lib.hid (And.intro g1 g4)
  have M1 := Lib.hid (HI.out.mid_at S Y g8).2
  clear e1 e2 e3 e4 d1 d2 d4 d5 h1 h1' h2 h4 h5 h24 h5' hSY b11 b12 x0 x1 y0 y1 z0 z1 hin1 hin2
  go_upto_region 13 with fail
  clear g1 g2 g3 g4 g8
  clear htop
  go_region
  obtain ⟨J, hJ⟩ : ∃ J, w3.heap.size = J := ⟨_, rfl⟩
  have R4 : Hid ((w3.alloc (.cells #[.int .i64 X, .slice (midA A S c) Y (c - S), .slice (midA A (S + Y) c) Z (c - (S + Y))] 47)).drew.heap[H]? = some (.cells #[.int .i64 0, .slice none 0 0, .slice none 0 0] 47 (0, 0))) := Lib.hid (((below_new w3 _).drew.block _ (Array.getElem?_eq_some_iff.1 R3.out).1).trans R3.out)
  have J4 : Hid ((w3.alloc (.cells #[.int .i64 X, .slice (midA A S c) Y (c - S), .slice (midA A (S + Y) c) Z (c - (S + Y))] 47)).drew.heap[J]? = some (.cells #[.int .i64 X, .slice (midA A S c) Y (c - S), .slice (midA A (S + Y) c) Z (c - (S + Y))] 47 (0, 0))) := Lib.hid (by rw [← hJ]; exact heap_alloc_new w3 _)
  have D4 : Hid (Below w.heap.size w (w3.alloc (.cells #[.int .i64 X, .slice (midA A S c) Y (c - S), .slice (midA A (S + Y) c) Z (c - (S + Y))] 47)).drew) := Lib.hid (below_al D3.out _).drew
  rw [hJ]
  generalize (w3.alloc (.cells #[.int .i64 X, .slice (midA A S c) Y (c - S), .slice (midA A (S + Y) c) Z (c - (S + Y))] 47)).drew = w4 at R4 J4 D4 ⊢
  clear hJ s0 s1 s2 f0 f1 f2 hs1 hs2 e5 e6 e7
  obtain ⟨hx, hy⟩ := HARI.out
  obtain ⟨q, rfl⟩ : ∃ q, g = X + q := ⟨g - X, by omega⟩
  have d0 : w4.cell? ⟨J, 0, none⟩ = some (.int .i64 X) := by simp [World.cell?, J4.out]
  have d1 : w4.cell? ⟨J, 1, none⟩ = some (.slice (midA A S c) Y (c - S)) := by simp [World.cell?, J4.out]
  have d2 : w4.cell? ⟨J, 2, none⟩ = some (.slice (midA A (S + Y) c) Z (c - (S + Y))) := by simp [World.cell?, J4.out]
  have HRI := Lib.hid (rises_any X q (midA A S c) (midA A (S + Y) c) E ((L.drop S).take Y) G Y (c - S) Z (c - (S + Y)) gc w4 (M1.out.kept D4.out) (HG.out.kept D4.out))
  have HSM := Lib.hid (fun W (hb : Below w.heap.size w W) => sharesMore_any X q (midA A S c) (midA A (S + Y) c) E ((L.drop S).take Y) G Y (c - S) Z (c - (S + Y)) gc W (M1.out.kept hb) (HG.out.kept hb))
  by_cases hr : cmpL ((L.drop S).take Y) (G.drop X) = 1
  case neg =>
    have HV : Hid ((oneP L a G).2.2 = 11) := Lib.hid (by rw [HOE.out]; exact HB4.out (.inl hr))
    have HE : Hid ((11 : Int) ≠ 0) := Lib.hid (by decide)
    have hd : decide (cmpL ((L.drop S).take Y) (G.drop X) = 1) = false := by simpa using hr
    rw [hd] at HRI
    clear hr hd hx hy
    go_wp2_with (go_at_call 20; refine HRI.out.mono ?_; rintro e w5 ⟨rfl, b5⟩; have D5 : Hid (Below w.heap.size w w5) := Lib.hid (D4.out.trans (b5.mono D4.out.size)); have J5 : Hid (w5.heap[J]? = some (.cells #[.int .i64 X, .slice (midA A S c) Y (c - S), .slice (midA A (S + Y) c) Z (c - (S + Y))] 47 (0, 0))) := Lib.hid ((b5.block _ (Array.getElem?_eq_some_iff.1 J4.out).1).trans J4.out); have R5 : Hid (w5.heap[H]? = some (.cells #[.int .i64 0, .slice none 0 0, .slice none 0 0] 47 (0, 0))) := Lib.hid ((b5.block _ (Array.getElem?_eq_some_iff.1 R4.out).1).trans R4.out); clear b5; have d3 : w5.cell? ⟨J, 0, none⟩ = some (.int .i64 X) := (by simp [World.cell?, J5.out]); have d4 : w5.cell? ⟨J, 1, none⟩ = some (.slice (midA A S c) Y (c - S)) := (by simp [World.cell?, J5.out]); have d5 : w5.cell? ⟨J, 2, none⟩ = some (.slice (midA A (S + Y) c) Z (c - (S + Y))) := (by simp [World.cell?, J5.out]); have s0 : w5.cell? ⟨H, 0, none⟩ = some (.int .i64 0) := (by simp [World.cell?, R5.out]); have s1 : w5.cell? ⟨H, 1, none⟩ = some (.slice none 0 0) := (by simp [World.cell?, R5.out]); have s2 : w5.cell? ⟨H, 2, none⟩ = some (.slice none 0 0) := (by simp [World.cell?, R5.out]); have f0 : w5.frozen? ⟨H, 0, none⟩ = false := (by simp [World.frozen?, R5.out]); have f1 : w5.frozen? ⟨H, 1, none⟩ = false := (by simp [World.frozen?, R5.out]); have f2 : w5.frozen? ⟨H, 2, none⟩ = false := (by simp [World.frozen?, R5.out]))
    try simp only [Exit.inBlock, Exit.then]
    refine bodyPost_ret (v := .tuple #[.agg #[.int .i64 0, .slice none 0 0, .slice none 0 0], .int .i64 0, .int .i64 11]) ?_ rfl ?_
    · unfold results
      go_simp
    · rw [HV.out]
      exact .inl ⟨HE.out, rfl, ((D5.out.setCell (by rw [HH.out]; exact Nat.le_refl _) _).setCell (by rw [HH.out]; exact Nat.le_refl _) _).setCell (by rw [HH.out]; exact Nat.le_refl _) _⟩
  have hd : decide (cmpL ((L.drop S).take Y) (G.drop X) = 1) = true := by simpa using hr
  rw [hd] at HRI
  by_cases ha : 0 < alike ((L.drop S).take Y) (G.drop X)
  · have HV : Hid ((oneP L a G).2.2 = 11) := Lib.hid (by rw [HOE.out]; exact HB4.out (.inr ha))
    have HE : Hid ((11 : Int) ≠ 0) := Lib.hid (by decide)
    have hd2 : decide (0 < alike ((L.drop S).take Y) (G.drop X)) = true := by simpa using ha
    rw [hd2] at HSM
    clear hr ha hd hd2 hx hy
    go_wp2_with (first
      | (go_at_call 20; refine HRI.out.mono ?_; rintro e w5 ⟨rfl, b5⟩; have D5 : Hid (Below w.heap.size w w5) := Lib.hid (D4.out.trans (b5.mono D4.out.size)); have J5 : Hid (w5.heap[J]? = some (.cells #[.int .i64 X, .slice (midA A S c) Y (c - S), .slice (midA A (S + Y) c) Z (c - (S + Y))] 47 (0, 0))) := Lib.hid ((b5.block _ (Array.getElem?_eq_some_iff.1 J4.out).1).trans J4.out); have R5 : Hid (w5.heap[H]? = some (.cells #[.int .i64 0, .slice none 0 0, .slice none 0 0] 47 (0, 0))) := Lib.hid ((b5.block _ (Array.getElem?_eq_some_iff.1 R4.out).1).trans R4.out); clear b5; have d3 : w5.cell? ⟨J, 0, none⟩ = some (.int .i64 X) := (by simp [World.cell?, J5.out]); have d4 : w5.cell? ⟨J, 1, none⟩ = some (.slice (midA A S c) Y (c - S)) := (by simp [World.cell?, J5.out]); have d5 : w5.cell? ⟨J, 2, none⟩ = some (.slice (midA A (S + Y) c) Z (c - (S + Y))) := (by simp [World.cell?, J5.out]); have s0 : w5.cell? ⟨H, 0, none⟩ = some (.int .i64 0) := (by simp [World.cell?, R5.out]); have s1 : w5.cell? ⟨H, 1, none⟩ = some (.slice none 0 0) := (by simp [World.cell?, R5.out]); have s2 : w5.cell? ⟨H, 2, none⟩ = some (.slice none 0 0) := (by simp [World.cell?, R5.out]); have f0 : w5.frozen? ⟨H, 0, none⟩ = false := (by simp [World.frozen?, R5.out]); have f1 : w5.frozen? ⟨H, 1, none⟩ = false := (by simp [World.frozen?, R5.out]); have f2 : w5.frozen? ⟨H, 2, none⟩ = false := (by simp [World.frozen?, R5.out]))
      | (go_at_call 39; refine (HSM.out _ D5.out).mono ?_; rintro e w6 ⟨rfl, b6⟩; have D6 : Hid (Below w.heap.size w w6) := Lib.hid (D5.out.trans (b6.mono D5.out.size)); have J6 : Hid (w6.heap[J]? = some (.cells #[.int .i64 X, .slice (midA A S c) Y (c - S), .slice (midA A (S + Y) c) Z (c - (S + Y))] 47 (0, 0))) := Lib.hid ((b6.block _ (Array.getElem?_eq_some_iff.1 J5.out).1).trans J5.out); have R6 : Hid (w6.heap[H]? = some (.cells #[.int .i64 0, .slice none 0 0, .slice none 0 0] 47 (0, 0))) := Lib.hid ((b6.block _ (Array.getElem?_eq_some_iff.1 R5.out).1).trans R5.out); clear b6; have d6 : w6.cell? ⟨J, 0, none⟩ = some (.int .i64 X) := (by simp [World.cell?, J6.out]); have d7 : w6.cell? ⟨J, 1, none⟩ = some (.slice (midA A S c) Y (c - S)) := (by simp [World.cell?, J6.out]); have d8 : w6.cell? ⟨J, 2, none⟩ = some (.slice (midA A (S + Y) c) Z (c - (S + Y))) := (by simp [World.cell?, J6.out]); have u0 : w6.cell? ⟨H, 0, none⟩ = some (.int .i64 0) := (by simp [World.cell?, R6.out]); have u1 : w6.cell? ⟨H, 1, none⟩ = some (.slice none 0 0) := (by simp [World.cell?, R6.out]); have u2 : w6.cell? ⟨H, 2, none⟩ = some (.slice none 0 0) := (by simp [World.cell?, R6.out]); have v0 : w6.frozen? ⟨H, 0, none⟩ = false := (by simp [World.frozen?, R6.out]); have v1 : w6.frozen? ⟨H, 1, none⟩ = false := (by simp [World.frozen?, R6.out]); have v2 : w6.frozen? ⟨H, 2, none⟩ = false := (by simp [World.frozen?, R6.out])))
    try simp only [Exit.inBlock, Exit.then]
    refine bodyPost_ret (v := .tuple #[.agg #[.int .i64 0, .slice none 0 0, .slice none 0 0], .int .i64 0, .int .i64 11]) ?_ rfl ?_
    · unfold results
      go_simp
    · rw [HV.out]
      exact .inl ⟨HE.out, rfl, ((D6.out.setCell (by rw [HH.out]; exact Nat.le_refl _) _).setCell (by rw [HH.out]; exact Nat.le_refl _) _).setCell (by rw [HH.out]; exact Nat.le_refl _) _⟩
  · have HV := Lib.hid (HB5.out (by omega))
    have hd2 : decide (0 < alike ((L.drop S).take Y) (G.drop X)) = false := by simpa using ha
    rw [hd2] at HSM
    clear hr ha hd hd2 hx hy
    go_wp2_with (first
      | (go_at_call 20; refine HRI.out.mono ?_; rintro e w5 ⟨rfl, b5⟩; have D5 : Hid (Below w.heap.size w w5) := Lib.hid (D4.out.trans (b5.mono D4.out.size)); have J5 : Hid (w5.heap[J]? = some (.cells #[.int .i64 X, .slice (midA A S c) Y (c - S), .slice (midA A (S + Y) c) Z (c - (S + Y))] 47 (0, 0))) := Lib.hid ((b5.block _ (Array.getElem?_eq_some_iff.1 J4.out).1).trans J4.out); have R5 : Hid (w5.heap[H]? = some (.cells #[.int .i64 0, .slice none 0 0, .slice none 0 0] 47 (0, 0))) := Lib.hid ((b5.block _ (Array.getElem?_eq_some_iff.1 R4.out).1).trans R4.out); clear b5; have d3 : w5.cell? ⟨J, 0, none⟩ = some (.int .i64 X) := (by simp [World.cell?, J5.out]); have d4 : w5.cell? ⟨J, 1, none⟩ = some (.slice (midA A S c) Y (c - S)) := (by simp [World.cell?, J5.out]); have d5 : w5.cell? ⟨J, 2, none⟩ = some (.slice (midA A (S + Y) c) Z (c - (S + Y))) := (by simp [World.cell?, J5.out]); have s0 : w5.cell? ⟨H, 0, none⟩ = some (.int .i64 0) := (by simp [World.cell?, R5.out]); have s1 : w5.cell? ⟨H, 1, none⟩ = some (.slice none 0 0) := (by simp [World.cell?, R5.out]); have s2 : w5.cell? ⟨H, 2, none⟩ = some (.slice none 0 0) := (by simp [World.cell?, R5.out]); have f0 : w5.frozen? ⟨H, 0, none⟩ = false := (by simp [World.frozen?, R5.out]); have f1 : w5.frozen? ⟨H, 1, none⟩ = false := (by simp [World.frozen?, R5.out]); have f2 : w5.frozen? ⟨H, 2, none⟩ = false := (by simp [World.frozen?, R5.out]))
      | (go_at_call 39; refine (HSM.out _ D5.out).mono ?_; rintro e w6 ⟨rfl, b6⟩; have D6 : Hid (Below w.heap.size w w6) := Lib.hid (D5.out.trans (b6.mono D5.out.size)); have J6 : Hid (w6.heap[J]? = some (.cells #[.int .i64 X, .slice (midA A S c) Y (c - S), .slice (midA A (S + Y) c) Z (c - (S + Y))] 47 (0, 0))) := Lib.hid ((b6.block _ (Array.getElem?_eq_some_iff.1 J5.out).1).trans J5.out); have R6 : Hid (w6.heap[H]? = some (.cells #[.int .i64 0, .slice none 0 0, .slice none 0 0] 47 (0, 0))) := Lib.hid ((b6.block _ (Array.getElem?_eq_some_iff.1 R5.out).1).trans R5.out); clear b6; have d6 : w6.cell? ⟨J, 0, none⟩ = some (.int .i64 X) := (by simp [World.cell?, J6.out]); have d7 : w6.cell? ⟨J, 1, none⟩ = some (.slice (midA A S c) Y (c - S)) := (by simp [World.cell?, J6.out]); have d8 : w6.cell? ⟨J, 2, none⟩ = some (.slice (midA A (S + Y) c) Z (c - (S + Y))) := (by simp [World.cell?, J6.out]); have u0 : w6.cell? ⟨H, 0, none⟩ = some (.int .i64 0) := (by simp [World.cell?, R6.out]); have u1 : w6.cell? ⟨H, 1, none⟩ = some (.slice none 0 0) := (by simp [World.cell?, R6.out]); have u2 : w6.cell? ⟨H, 2, none⟩ = some (.slice none 0 0) := (by simp [World.cell?, R6.out]); have v0 : w6.frozen? ⟨H, 0, none⟩ = false := (by simp [World.frozen?, R6.out]); have v1 : w6.frozen? ⟨H, 1, none⟩ = false := (by simp [World.frozen?, R6.out]); have v2 : w6.frozen? ⟨H, 2, none⟩ = false := (by simp [World.frozen?, R6.out])))
    try simp only [Exit.inBlock, Exit.then]
    refine bodyPost_ret (v := .tuple #[.agg #[.int .i64 X, .slice (midA A S c) Y (c - S), .slice (midA A (S + Y) c) Z (c - (S + Y))], .int .i64 ((S : Int) + Y + Z), .int .i64 0]) ?_ rfl ?_
    · unfold results
      go_simp
    · obtain ⟨hx, hy⟩ := HARI.out
      refine .inr ⟨X, Y, Z, S, ?_, hx, hy, ?_, ?_⟩
      · rw [HOE.out, HV.out]
      · simp
      · exact ((D6.out.setCell (by rw [HH.out]; exact Nat.le_refl _) _).setCell (by rw [HH.out]; exact Nat.le_refl _) _).setCell (by rw [HH.out]; exact Nat.le_refl _) _

end Go.Proofs.Ytimonpoeieenpaa
