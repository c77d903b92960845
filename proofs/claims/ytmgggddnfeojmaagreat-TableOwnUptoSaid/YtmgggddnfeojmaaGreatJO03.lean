/-
  Walks: pairs unpacked, by the document. Walks: the numbers of a pair, by the program. Walks: the pair that stands at a place, by the program. A law for a loop over an iterator of the program's own: the iterator tells each round what lies in memory. Memory: a row of bytes grows where it lies or anew; what stays beside it.
-/
import Derived.RangeFuncNested
import Derived.RangeFuncBound
import Derived.RangeFuncCalls
import Derived.RangeFuncLeaves
import Derived.Shelf.Abstract
import Derived.Shelf.RegionOpen
import Derived.OwnWalkIn
import Derived.TacticsInMore
import Derived.LoopNIn
import Derived.LoopIn
import Derived.Deep.DeepAppendRoom
import Derived.Test.YtmgggddnfeojmaaGreatJO02
set_option linter.unusedSimpArgs false
set_option linter.unusedVariables false
namespace Go.Proofs.YtmgggddnfeojmaaGreat
open Go.RowKit
theorem oneP_nums {L : List Int} {a : Nat} {G : List Int} (h : (numsP L a).2.2 ≠ 0) : (oneP L a G).2.2 = (numsP L a).2.2 := by
  unfold oneP
  rw [if_pos h]
theorem bodyP_1 {L G : List Int} {x y z s : Int} (h : (G.length : Int) < x) : (bodyP L G x y z s).2.2 = 11 := by
  unfold bodyP
  rw [if_pos h]
theorem bodyP_2 {L G : List Int} {x y z s : Int} (h : ¬ (G.length : Int) < x) (h2 : 200 - x < y ∨ 4096 < z) : (bodyP L G x y z s).2.2 = 3 := by
  unfold bodyP
  rw [if_neg h, if_pos h2]
theorem bodyP_3 {L G : List Int} {x y z s : Int} (h : ¬ (G.length : Int) < x) (h2 : ¬ (200 - x < y ∨ 4096 < z)) (h3 : (L.length : Int) - s < y + z) : (bodyP L G x y z s).2.2 = 10 := by
  unfold bodyP
  rw [if_neg h, if_neg h2, if_pos h3]
theorem bodyP_4 {L G : List Int} {x y z s : Int} (h : ¬ (G.length : Int) < x) (h2 : ¬ (200 - x < y ∨ 4096 < z)) (h3 : ¬ (L.length : Int) - s < y + z) (h4 : cmpL ((L.drop s.toNat).take y.toNat) (G.drop x.toNat) ≠ 1 ∨ 0 < alike ((L.drop s.toNat).take y.toNat) (G.drop x.toNat)) : (bodyP L G x y z s).2.2 = 11 := by
  unfold bodyP
  rw [if_neg h, if_neg h2, if_neg h3, if_pos h4]
theorem bodyP_5 {L G : List Int} {x y z s : Int} (h : ¬ (G.length : Int) < x) (h2 : ¬ (200 - x < y ∨ 4096 < z)) (h3 : ¬ (L.length : Int) - s < y + z) (h4 : ¬ (cmpL ((L.drop s.toNat).take y.toNat) (G.drop x.toNat) ≠ 1 ∨ 0 < alike ((L.drop s.toNat).take y.toNat) (G.drop x.toNat))) :
    bodyP L G x y z s = ((G.take x.toNat ++ (L.drop s.toNat).take y.toNat, (L.drop (s + y).toNat).take z.toNat), s + y + z, 0) := by
  unfold bodyP
  rw [if_neg h, if_neg h2, if_neg h3, if_neg h4]
theorem wrap_small (k : Nat) (h : k ≤ 9223372036854775807) : wrap64 (k : Int) = k := by unfold wrap64; omega
theorem wrapU_small (k : Int) (h0 : 0 ≤ k) (h : k ≤ 18446744073709551615) : IntKind.u64.wrap k = k := by rw [IntKind.wrap_u64]; omega
end Go.Proofs.YtmgggddnfeojmaaGreat
namespace Go.Proofs.YtmgggddnfeojmaaGreat
open Go.RowKit
def CntE (p : (Int × Int × Int) × Int × Int) : Ending := .returned (.tuple #[.agg #[.int .u64 p.1.1, .int .u64 p.1.2.1, .int .u64 p.1.2.2], .int .i64 p.2.1, .int .i64 p.2.2])
set_option maxRecDepth 100000 in
set_option maxHeartbeats 8000000 in
theorem countsAt_any (A : Option Addr) (L : List Int) (n c a : Nat) (w : World) (h : In w A L n c) :
    Calls Tryz.prog 133 #[.slice A n c, .int .i64 (a : Int)] w fun e w' => e = CntE (numsP L a) ∧ Below w.heap.size w w' := by
  have HI := Lib.hid h
  clear h
  obtain ⟨H, hH⟩ : ∃ H, w.heap.size = H := ⟨_, rfl⟩
  have HH := Lib.hid hH
  obtain ⟨W, hW⟩ : ∃ W, (w.alloc (.cells #[.int .u64 0, .int .u64 0, .int .u64 0] 204)).alloc (.cells #[.int .u64 0, .int .u64 0, .int .u64 0] 204) = W := ⟨_, rfl⟩
  have HB : Hid (Below w.heap.size w W) := Lib.hid (hW ▸ below_al (below_al (Below.refl _ _) _) _)
  have HC : Hid (W.heap[H]? = some (.cells #[.int .u64 0, .int .u64 0, .int .u64 0] 204 (0, 0))) := Lib.hid (by
    rw [← hW, ← hH]
    exact ((below_new _ _).block _ (by simp)).trans (heap_alloc_new w _))
  have R0 : Hid (W.rowIs (H + 1) 204 3 (fun j => .int .u64 (if j < 0 then valN L a j else 0))) := Lib.hid (by
    rw [← hW, ← hH]
    have := World.rowIs_alloc (w.alloc (.cells #[.int .u64 0, .int .u64 0, .int .u64 0] 204)) #[.int .u64 0, .int .u64 0, .int .u64 0] 204 (fun j => .int .u64 (if j < 0 then valN L a j else 0)) (fun i hi => by
      have hi : i < 3 := hi
      have : i = 0 ∨ i = 1 ∨ i = 2 := by omega
      rcases this with rfl | rfl | rfl <;> rfl)
    rwa [World.size_alloc] at this)
  have HS : Hid (W.heap.size = H + 2) := Lib.hid (by rw [← hW, ← hH]; simp)
  go_enter Tryz.func133, Tryz.ntmps133
  go_wp2_with fail
  try rw [hW]
  clear hW
  try rw [hH]
  clear hH
  go_loopw [1, 12] (fun t1 t12 wr => ∃ i : Nat, i ≤ 3 ∧ t12 = .int .i64 i ∧ t1 = .int .i64 (posN L a i) ∧ Hid (∀ j, j < i → errN L a j = 0) ∧ Hid (wr.rowIs (H + 1) 204 3 (fun j => .int .u64 (if j < i then valN L a j else 0))) ∧ Hid (wr.heap[H]? = some (.cells #[.int .u64 0, .int .u64 0, .int .u64 0] 204 (0, 0))) ∧ Hid (Below w.heap.size w wr)) (fun _ t12 _ => 3 - (intOf t12).toNat)
  case atStart => exact ⟨0, by omega, rfl, rfl, Lib.hid (fun j hj => by omega), R0, HC, HB⟩
  case round =>
    obtain ⟨i, hi3, rfl, rfl, herr, hrw, hres, hbs⟩ := hrel
    have z0 : wr.cell? ⟨H, 0, none⟩ = some (.int .u64 0) := by simp [World.cell?, hres.out]
    have z1 : wr.cell? ⟨H, 1, none⟩ = some (.int .u64 0) := by simp [World.cell?, hres.out]
    have z2 : wr.cell? ⟨H, 2, none⟩ = some (.int .u64 0) := by simp [World.cell?, hres.out]
    have f0 : wr.frozen? ⟨H, 0, none⟩ = false := by simp [World.frozen?, hres.out]
    have f1 : wr.frozen? ⟨H, 1, none⟩ = false := by simp [World.frozen?, hres.out]
    have f2 : wr.frozen? ⟨H, 2, none⟩ = false := by simp [World.frozen?, hres.out]
    by_cases hil : i < 3
    · have HU := Lib.hid (uint_any A L n c (posN L a i) wr (HI.out.kept hbs.out))
      have HPN : Hid (posN L a (i + 1) = (uintP L (posN L a i)).2.1) := Lib.hid rfl
      have HVN : Hid (valN L a i = (uintP L (posN L a i)).1) := Lib.hid rfl
      have HEN : Hid (errN L a i = (uintP L (posN L a i)).2.2) := Lib.hid rfl
      have i3 : (i : Int) < 3 := by omega
      obtain ⟨p, hp⟩ : ∃ p, posN L a i = p := ⟨_, rfl⟩
      unfold Ans at HU
      rw [hp] at HU HPN HVN HEN ⊢
      generalize uintP L p = R at HU HPN HVN HEN
      obtain ⟨v, nx, er⟩ := R
      simp only at HU HPN HVN HEN
      have r1 := hrw.out
      have c1 := r1.cell (i := i) (by omega)
      have g1 := r1.frozen i
      clear hp r1
      by_cases he : er = 0
      · subst he
        have HE2 := Lib.hid (errN_next herr.out HEN.out)
        go_wp2_with (go_at_call 91; refine HU.out.mono ?_; rintro e w1 ⟨rfl, hw⟩; subst hw)
        go_roundw
        case rel => exact ⟨i + 1, by omega, by go_num, by rw [HPN.out], HE2, Lib.hid ((hrw.out.set i _).congr fun j hj => by
          by_cases e : j = i
          · subst e
            rw [if_pos rfl, if_pos (by omega), HVN.out]
          · rw [if_neg e]
            by_cases e2 : j < i
            · rw [if_pos e2, if_pos (by omega)]
            · rw [if_neg e2, if_neg (by omega)]), Lib.hid ((Below.heap_setCell wr ⟨H + 1, i, none⟩ _ H (by simp)).trans hres.out), Lib.hid (hbs.out.setCell (by have := HH.out; simp only; omega) _)⟩
        case measure => simp [intOf]; omega
      · have he' : (er != 0) = true := by simpa using he
        have HV := Lib.hid (numsP_bad hil herr.out (by rw [HEN.out]; exact he))
        rw [HEN.out] at HV
        clear he
        go_wp2_with (go_at_call 91; refine HU.out.mono ?_; rintro e w1 ⟨rfl, hw⟩; subst hw)
        try simp only [Exit.inBlock, Exit.then]
        refine bodyPost_ret (v := .tuple #[.agg #[.int .u64 0, .int .u64 0, .int .u64 0], .int .i64 0, .int .i64 er]) ?_ rfl ?_
        · unfold results
          go_simp
        · rw [HV.out]
          exact ⟨rfl, ((hbs.out.setCell (by rw [HH.out]; exact Nat.le_refl _) _).setCell (by rw [HH.out]; exact Nat.le_refl _) _).setCell (by rw [HH.out]; exact Nat.le_refl _) _⟩
    · obtain rfl : i = 3 := by omega
      have HV := Lib.hid (numsP_fine herr.out)
      have r1 := hrw.out
      have c0 := r1.cell (i := 0) (by omega)
      have c1 := r1.cell (i := 1) (by omega)
      have c2 := r1.cell (i := 2) (by omega)
      rw [if_pos (by omega)] at c0 c1 c2
      clear r1 hrw
      generalize valN L a 0 = x at c0 HV
      generalize valN L a 1 = y at c1 HV
      generalize valN L a 2 = z at c2 HV
      generalize posN L a 3 = s at HV ⊢
      go_wp2_with fail
      try simp only [Exit.inBlock, Exit.then]
      refine bodyPost_ret (v := .tuple #[.agg #[.int .u64 x, .int .u64 y, .int .u64 z], .int .i64 s, .int .i64 0]) ?_ rfl ?_
      · unfold results
        go_simp
      · rw [HV.out]
        exact ⟨rfl, ((hbs.out.setCell (by rw [HH.out]; exact Nat.le_refl _) _).setCell (by rw [HH.out]; exact Nat.le_refl _) _).setCell (by rw [HH.out]; exact Nat.le_refl _) _⟩
end Go.Proofs.YtmgggddnfeojmaaGreat
namespace Go.Proofs.YtmgggddnfeojmaaGreat
open Go.RowKit
/-- What reading a pair answers. -/
def PkBad (w : World) (er : Int) (e : Ending) (w' : World) : Prop := e = .returned (.tuple #[.agg #[.int .i64 0, .slice none 0 0, .slice none 0 0], .int .i64 0, .int .i64 er]) ∧ Below w.heap.size w w'
def PkGood (w : World) (X Y Z E : Nat) (A1 A2 : Option Addr) (c1 c2 : Nat) (e : Ending) (w' : World) : Prop := e = .returned (.tuple #[.agg #[.int .i64 X, .slice A1 Y c1, .slice A2 Z c2], .int .i64 E, .int .i64 0]) ∧ Below w.heap.size w w'
def midA (A : Option Addr) (a c : Nat) : Option Addr := if c = a then A else A.map (·.add a)
theorem In.mid_at {w : World} {A : Option Addr} {L : List Int} {n c : Nat} (h : In w A L n c) (a k : Nat) (hk : a + k ≤ n) :
    (∀ W, (Instr.slice 42 (.slice A n c) (some (.int .i64 (a : Int))) (some (.int .i64 ((a : Int) + k))) none).run Tryz.prog W = .ok (.slice (midA A a c) k (c - a)) W) ∧ In w (midA A a c) ((L.drop a).take k) k (c - a) := by
  have h1 := h.len
  have h2 := h.cap
  have h3 := h.top
  have e : ((a : Int) + k).toNat = a + k := by omega
  refine ⟨fun W => ?_, by rw [List.length_take, List.length_drop, h1]; omega, by omega, by omega, h.bys.part a k c (by omega), (h.byt.drop a).take k⟩
  rw [run_slice_lh (P := Tryz.prog) W _ A n c under8 .i64 .i64 (a : Int) ((a : Int) + k) (by omega) (by omega) (by omega), size8, e]
  simp [Result.andThen, sliced, midA]
set_option maxRecDepth 100000 in
set_option maxHeartbeats 16000000 in
theorem packedAt_any (A E : Option Addr) (L G : List Int) (n c a g gc : Nat) (w : World) (h : In w A L n c) (hG : In w E G g gc) (hg200 : g ≤ 200) (hn : n ≤ 140737488355328) :
    Calls Tryz.prog 131 #[.slice A n c, .int .i64 (a : Int), .slice E g gc] w fun e w' =>
      ((oneP L a G).2.2 ≠ 0 ∧ PkBad w (oneP L a G).2.2 e w') ∨ ∃ X Y Z S : Nat, (oneP L a G) = ((G.take X ++ (L.drop S).take Y, (L.drop (S + Y)).take Z), (S : Int) + Y + Z, 0) ∧ X ≤ g ∧ S + Y + Z ≤ n ∧ PkGood w X Y Z (S + Y + Z) (midA A S c) (midA A (S + Y) c) (c - S) (c - (S + Y)) e w' := by
  have HI := Lib.hid h
  have HG := Lib.hid hG
  have htop : (n : Int) ≤ 9223372036854775807 := by omega
  obtain ⟨H, hH⟩ : ∃ H, w.heap.size = H := ⟨_, rfl⟩
  have HH := Lib.hid hH
  obtain ⟨W, hW⟩ : ∃ W, w.alloc (.cells #[.int .i64 0, .slice none 0 0, .slice none 0 0] 160) = W := ⟨_, rfl⟩
  have HB : Hid (Below w.heap.size w W) := Lib.hid (hW ▸ below_new _ _)
  have HR : Hid (W.heap[H]? = some (.cells #[.int .i64 0, .slice none 0 0, .slice none 0 0] 160 (0, 0))) := Lib.hid (by rw [← hW, ← hH]; exact heap_alloc_new w _)
  have HC := Lib.hid (countsAt_any A L n c a W (HI.out.kept HB.out))
  have hbd := numsP_bd L a h.byt
  have HON : Hid ((numsP L a).2.2 ≠ 0 → (oneP L a G).2.2 = (numsP L a).2.2) := Lib.hid oneP_nums
  have HOB : Hid ((numsP L a).2.2 = 0 → oneP L a G = bodyP L G (numsP L a).1.1 (numsP L a).1.2.1 (numsP L a).1.2.2 (numsP L a).2.1) := Lib.hid (fun e => by unfold oneP; rw [if_neg (fun e' => e' e)])
  generalize numsP L a = P at HC hbd HON HOB
  obtain ⟨⟨x, y, z⟩, s, er⟩ := P
  unfold CntE at HC
  simp only at HC hbd HON HOB
  obtain ⟨-, -, b1, b2, b3, b4⟩ := hbd
  rw [h.len] at b1
  clear h hG
  by_cases he : er = 0
  case neg =>
    have he' : (er != 0) = true := by simpa using he
    have HV := Lib.hid (HON.out he)
    have HE := Lib.hid he
    clear he b1 b2 b3 b4
    go_enter Tryz.func131, Tryz.ntmps131
    go_upto_region 1 with fail
    try rw [hW]
    try rw [hH]
    clear hW hH
    go_upto_region 2 with (go_at_call 133; refine HC.out.mono ?_; rintro e w1 ⟨rfl, b1⟩; have D1 : Hid (Below w.heap.size w (w1.alloc (.cells #[.int .u64 x, .int .u64 y, .int .u64 z] 204))) := Lib.hid (below_al (below_then HB.out b1) _); have R1 : Hid ((w1.alloc (.cells #[.int .u64 x, .int .u64 y, .int .u64 z] 204)).heap[H]? = some (.cells #[.int .i64 0, .slice none 0 0, .slice none 0 0] 160 (0, 0))) := Lib.hid ((((b1.block _ (Array.getElem?_eq_some_iff.1 HR.out).1).trans HR.out) |> fun k => ((below_new w1 _).block _ (Array.getElem?_eq_some_iff.1 k).1).trans k)); have K1 : Hid ((w1.alloc (.cells #[.int .u64 x, .int .u64 y, .int .u64 z] 204)).heap[w1.heap.size]? = some (.cells #[.int .u64 x, .int .u64 y, .int .u64 z] 204 (0, 0))) := Lib.hid (heap_alloc_new w1 _); clear b1)
    obtain ⟨K, hK⟩ : ∃ K, w1.heap.size = K := ⟨_, rfl⟩
    obtain ⟨w2, hw2⟩ : ∃ w2, w1.alloc (.cells #[.int .u64 x, .int .u64 y, .int .u64 z] 204) = w2 := ⟨_, rfl⟩
    rw [hw2, hK] at K1
    rw [hw2] at D1 R1 ⊢
    rw [hK]
    clear hw2 hK
    have s0 : w2.cell? ⟨H, 0, none⟩ = some (.int .i64 0) := by simp [World.cell?, R1.out]
    have s1 : w2.cell? ⟨H, 1, none⟩ = some (.slice none 0 0) := by simp [World.cell?, R1.out]
    have s2 : w2.cell? ⟨H, 2, none⟩ = some (.slice none 0 0) := by simp [World.cell?, R1.out]
    have f0 : w2.frozen? ⟨H, 0, none⟩ = false := by simp [World.frozen?, R1.out]
    have f1 : w2.frozen? ⟨H, 1, none⟩ = false := by simp [World.frozen?, R1.out]
    have f2 : w2.frozen? ⟨H, 2, none⟩ = false := by simp [World.frozen?, R1.out]
    go_wp2_with fail
    try simp only [Exit.inBlock, Exit.then]
    refine bodyPost_ret (v := .tuple #[.agg #[.int .i64 0, .slice none 0 0, .slice none 0 0], .int .i64 0, .int .i64 er]) ?_ rfl ?_
    · unfold results
      go_simp
    · rw [HV.out]
      exact .inl ⟨HE.out, rfl, ((D1.out.setCell (by rw [HH.out]; exact Nat.le_refl _) _).setCell (by rw [HH.out]; exact Nat.le_refl _) _).setCell (by rw [HH.out]; exact Nat.le_refl _) _⟩
  subst he
  have HOE := Lib.hid (HOB.out rfl)
  have HBD := Lib.hid (And.intro (b1 rfl) (And.intro b2 (And.intro b3 b4)))
  have HTP := Lib.hid htop
  have HNN := Lib.hid hn
  clear HON HOB b1 b2 b3 b4 htop hn
  go_enter Tryz.func131, Tryz.ntmps131
  go_upto_region 1 with fail
  try rw [hW]
  try rw [hH]
  clear hW hH
  go_upto_region 4 with (go_at_call 133; refine HC.out.mono ?_; rintro e w1 ⟨rfl, b1⟩; have D1 : Hid (Below w.heap.size w (w1.alloc (.cells #[.int .u64 x, .int .u64 y, .int .u64 z] 204))) := Lib.hid (below_al (below_then HB.out b1) _); have R1 : Hid ((w1.alloc (.cells #[.int .u64 x, .int .u64 y, .int .u64 z] 204)).heap[H]? = some (.cells #[.int .i64 0, .slice none 0 0, .slice none 0 0] 160 (0, 0))) := Lib.hid ((((b1.block _ (Array.getElem?_eq_some_iff.1 HR.out).1).trans HR.out) |> fun k => ((below_new w1 _).block _ (Array.getElem?_eq_some_iff.1 k).1).trans k)); have K1 : Hid ((w1.alloc (.cells #[.int .u64 x, .int .u64 y, .int .u64 z] 204)).heap[w1.heap.size]? = some (.cells #[.int .u64 x, .int .u64 y, .int .u64 z] 204 (0, 0))) := Lib.hid (heap_alloc_new w1 _); clear b1)
  obtain ⟨K, hK⟩ : ∃ K, w1.heap.size = K := ⟨_, rfl⟩
  obtain ⟨w2, hw2⟩ : ∃ w2, w1.alloc (.cells #[.int .u64 x, .int .u64 y, .int .u64 z] 204) = w2 := ⟨_, rfl⟩
  rw [hw2, hK] at K1
  rw [hw2] at D1 R1 ⊢
  rw [hK]
  clear hw2 hK
  have k0 : w2.cell? ⟨K, 0, none⟩ = some (.int .u64 x) := by simp [World.cell?, K1.out]
  have k1 : w2.cell? ⟨K, 1, none⟩ = some (.int .u64 y) := by simp [World.cell?, K1.out]
  have k2 : w2.cell? ⟨K, 2, none⟩ = some (.int .u64 z) := by simp [World.cell?, K1.out]
  go_quiet (fail)
  obtain ⟨w3, hw3⟩ : ∃ w3, w2.drewN nq = w3 := ⟨_, rfl⟩
  have D3 : Hid (Below w.heap.size w w3) := Lib.hid (hw3 ▸ below_drewN D1.out nq)
  have R3 : Hid (w3.heap[H]? = some (.cells #[.int .i64 0, .slice none 0 0, .slice none 0 0] 160 (0, 0))) := Lib.hid (hw3 ▸ R1.out)
  rw [hw3]
  clear hw3 k0 k1 k2
  obtain ⟨⟨b10, b11, b12⟩, ⟨x0, x1⟩, ⟨y0, y1⟩, ⟨z0, z1⟩⟩ := HBD.out
  have htop := HTP.out
  have s0 : w3.cell? ⟨H, 0, none⟩ = some (.int .i64 0) := by simp [World.cell?, R3.out]
  have s1 : w3.cell? ⟨H, 1, none⟩ = some (.slice none 0 0) := by simp [World.cell?, R3.out]
  have s2 : w3.cell? ⟨H, 2, none⟩ = some (.slice none 0 0) := by simp [World.cell?, R3.out]
  have f0 : w3.frozen? ⟨H, 0, none⟩ = false := by simp [World.frozen?, R3.out]
  have f1 : w3.frozen? ⟨H, 1, none⟩ = false := by simp [World.frozen?, R3.out]
  have f2 : w3.frozen? ⟨H, 2, none⟩ = false := by simp [World.frozen?, R3.out]
  have e1 := wrapU_small (g : Int) (by omega) (by omega)
  by_cases h1 : (g : Int) < x
  · have HV : Hid ((oneP L a G).2.2 = 11) := Lib.hid (by rw [HOE.out]; exact bodyP_1 (by rw [HG.out.len]; exact h1))
    have HE : Hid ((11 : Int) ≠ 0) := Lib.hid (by decide)
    have d1 : decide ((g : Int) < x) = true := by simpa using h1
    clear h1
    go_wp2_with fail
    try simp only [Exit.inBlock, Exit.then]
    refine bodyPost_ret (v := .tuple #[.agg #[.int .i64 0, .slice none 0 0, .slice none 0 0], .int .i64 0, .int .i64 11]) ?_ rfl ?_
    · unfold results
      go_simp
    · rw [HV.out]
      exact .inl ⟨HE.out, rfl, ((D3.out.setCell (by rw [HH.out]; exact Nat.le_refl _) _).setCell (by rw [HH.out]; exact Nat.le_refl _) _).setCell (by rw [HH.out]; exact Nat.le_refl _) _⟩
  have d1 : decide ((g : Int) < x) = false := by simpa using h1
  have h1' : ¬ (G.length : Int) < x := by rw [HG.out.len]; exact h1
  have e2 := wrapU_small (200 - x) (by omega) (by omega)
  by_cases h2 : 200 - x < y
  · have HV : Hid ((oneP L a G).2.2 = 3) := Lib.hid (by rw [HOE.out]; exact bodyP_2 h1' (.inl h2))
    have HE : Hid ((3 : Int) ≠ 0) := Lib.hid (by decide)
    have d2 : decide (200 - x < y) = true := by simpa using h2
    clear h1 h1' h2
    go_wp2_with fail
    try simp only [Exit.inBlock, Exit.then]
    refine bodyPost_ret (v := .tuple #[.agg #[.int .i64 0, .slice none 0 0, .slice none 0 0], .int .i64 0, .int .i64 3]) ?_ rfl ?_
    · unfold results
      go_simp
    · rw [HV.out]
      exact .inl ⟨HE.out, rfl, ((D3.out.setCell (by rw [HH.out]; exact Nat.le_refl _) _).setCell (by rw [HH.out]; exact Nat.le_refl _) _).setCell (by rw [HH.out]; exact Nat.le_refl _) _⟩
  have d2 : decide (200 - x < y) = false := by simpa using h2
  by_cases h4 : 4096 < z
  · have HV : Hid ((oneP L a G).2.2 = 3) := Lib.hid (by rw [HOE.out]; exact bodyP_2 h1' (.inr h4))
    have HE : Hid ((3 : Int) ≠ 0) := Lib.hid (by decide)
    have d4 : decide (4096 < z) = true := by simpa using h4
    clear h1 h1' h2 h4
    go_wp2_with fail
    try simp only [Exit.inBlock, Exit.then]
    refine bodyPost_ret (v := .tuple #[.agg #[.int .i64 0, .slice none 0 0, .slice none 0 0], .int .i64 0, .int .i64 3]) ?_ rfl ?_
    · unfold results
      go_simp
    · rw [HV.out]
      exact .inl ⟨HE.out, rfl, ((D3.out.setCell (by rw [HH.out]; exact Nat.le_refl _) _).setCell (by rw [HH.out]; exact Nat.le_refl _) _).setCell (by rw [HH.out]; exact Nat.le_refl _) _⟩
  have d4 : decide (4096 < z) = false := by simpa using h4
  have h24 : ¬ (200 - x < y ∨ 4096 < z) := by omega
  have e3 := wrapU_small ((n : Int) - s) (by omega) (by omega)
  have e4 := wrapU_small (y + z) (by omega) (by omega)
  by_cases h5 : (n : Int) - s < y + z
  · have HV : Hid ((oneP L a G).2.2 = 10) := Lib.hid (by rw [HOE.out]; exact bodyP_3 h1' h24 (by rw [HI.out.len]; exact h5))
    have HE : Hid ((10 : Int) ≠ 0) := Lib.hid (by decide)
    have d5 : decide ((n : Int) - s < y + z) = true := by simpa using h5
    clear h1 h1' h2 h4 h24 h5
    go_wp2_with fail
    try simp only [Exit.inBlock, Exit.then]
    refine bodyPost_ret (v := .tuple #[.agg #[.int .i64 0, .slice none 0 0, .slice none 0 0], .int .i64 0, .int .i64 10]) ?_ rfl ?_
    · unfold results
      go_simp
    · rw [HV.out]
      exact .inl ⟨HE.out, rfl, ((D3.out.setCell (by rw [HH.out]; exact Nat.le_refl _) _).setCell (by rw [HH.out]; exact Nat.le_refl _) _).setCell (by rw [HH.out]; exact Nat.le_refl _) _⟩
  have d5 : decide ((n : Int) - s < y + z) = false := by simpa using h5
  have h5' : ¬ (L.length : Int) - s < y + z := by rw [HI.out.len]; exact h5
  have HB4 := Lib.hid (fun h4 => bodyP_4 (L := L) (G := G) (x := x) (y := y) (z := z) (s := s) h1' h24 h5' h4)
  have HB5 := Lib.hid (fun h4 => bodyP_5 (L := L) (G := G) (x := x) (y := y) (z := z) (s := s) h1' h24 h5' h4)
  go_upto_region 11 with fail
  obtain ⟨X, rfl⟩ := Int.eq_ofNat_of_zero_le x0
  obtain ⟨Y, rfl⟩ := Int.eq_ofNat_of_zero_le y0
  obtain ⟨Z, rfl⟩ := Int.eq_ofNat_of_zero_le z0
  obtain ⟨S, rfl⟩ := Int.eq_ofNat_of_zero_le (a := s) (by omega)
  have g1 : X ≤ g := by omega
  have g2 : Y ≤ 200 := by omega
  have g3 : Z ≤ 4096 := by omega
  have g4 : S + Y + Z ≤ n := by omega
  have hSY : ((S : Int) + (Y : Int)).toNat = S + Y := by omega
  simp only [Int.toNat_natCast, hSY] at HB4 HB5
  have g8 : S + Y ≤ n := Nat.le_trans (Nat.le_add_right _ _) g4
  obtain ⟨hs1, hin1⟩ := (HI.out.kept D3.out).mid_at S Y g8
  obtain ⟨hs2, hin2⟩ := (HI.out.kept D3.out).mid_at (S + Y) Z g4
  simp only [Int.natCast_add] at hs2
  have e5 := wrap_small Y (Nat.le_trans g2 (by decide))
  have e6 := wrap_small Z (Nat.le_trans g3 (by decide))
  have e7 := wrap_small X (Nat.le_trans g1 (Nat.le_trans hg200 (by decide)))
  have HARI := Lib.hid (And.intro g1 g4)
  have M1 := Lib.hid (HI.out.mid_at S Y g8).2
  clear e1 e2 e3 e4 d1 d2 d4 d5 h1 h1' h2 h4 h5 h24 h5' hSY b11 b12 x0 x1 y0 y1 z0 z1 hin1 hin2
  go_upto_region 13 with fail
  clear g1 g2 g3 g4 g8
  clear htop
  go_region
  obtain ⟨J, hJ⟩ : ∃ J, w3.heap.size = J := ⟨_, rfl⟩
  have R4 : Hid ((w3.alloc (.cells #[.int .i64 X, .slice (midA A S c) Y (c - S), .slice (midA A (S + Y) c) Z (c - (S + Y))] 160)).drew.heap[H]? = some (.cells #[.int .i64 0, .slice none 0 0, .slice none 0 0] 160 (0, 0))) := Lib.hid (((below_new w3 _).drew.block _ (Array.getElem?_eq_some_iff.1 R3.out).1).trans R3.out)
  have J4 : Hid ((w3.alloc (.cells #[.int .i64 X, .slice (midA A S c) Y (c - S), .slice (midA A (S + Y) c) Z (c - (S + Y))] 160)).drew.heap[J]? = some (.cells #[.int .i64 X, .slice (midA A S c) Y (c - S), .slice (midA A (S + Y) c) Z (c - (S + Y))] 160 (0, 0))) := Lib.hid (by rw [← hJ]; exact heap_alloc_new w3 _)
  have D4 : Hid (Below w.heap.size w (w3.alloc (.cells #[.int .i64 X, .slice (midA A S c) Y (c - S), .slice (midA A (S + Y) c) Z (c - (S + Y))] 160)).drew) := Lib.hid (below_al D3.out _).drew
  rw [hJ]
  generalize (w3.alloc (.cells #[.int .i64 X, .slice (midA A S c) Y (c - S), .slice (midA A (S + Y) c) Z (c - (S + Y))] 160)).drew = w4 at R4 J4 D4 ⊢
  clear hJ s0 s1 s2 f0 f1 f2 hs1 hs2 e5 e6 e7
  obtain ⟨hx, hy⟩ := HARI.out
  obtain ⟨q, rfl⟩ : ∃ q, g = X + q := ⟨g - X, by omega⟩
  have d0 : w4.cell? ⟨J, 0, none⟩ = some (.int .i64 X) := by simp [World.cell?, J4.out]
  have d1 : w4.cell? ⟨J, 1, none⟩ = some (.slice (midA A S c) Y (c - S)) := by simp [World.cell?, J4.out]
  have d2 : w4.cell? ⟨J, 2, none⟩ = some (.slice (midA A (S + Y) c) Z (c - (S + Y))) := by simp [World.cell?, J4.out]
  have HRI := Lib.hid (rises_any X q (midA A S c) (midA A (S + Y) c) E ((L.drop S).take Y) G Y (c - S) Z (c - (S + Y)) gc w4 (M1.out.kept D4.out) (HG.out.kept D4.out))
  have HSM := Lib.hid (fun W (hb : Below w.heap.size w W) => sharesMore_any X q (midA A S c) (midA A (S + Y) c) E ((L.drop S).take Y) G Y (c - S) Z (c - (S + Y)) gc W (M1.out.kept hb) (HG.out.kept hb))
  by_cases hr : cmpL ((L.drop S).take Y) (G.drop X) = 1
  case neg =>
    have HV : Hid ((oneP L a G).2.2 = 11) := Lib.hid (by rw [HOE.out]; exact HB4.out (.inl hr))
    have HE : Hid ((11 : Int) ≠ 0) := Lib.hid (by decide)
    have hd : decide (cmpL ((L.drop S).take Y) (G.drop X) = 1) = false := by simpa using hr
    rw [hd] at HRI
    clear hr hd hx hy
    go_wp2_with (go_at_call 100; refine HRI.out.mono ?_; rintro e w5 ⟨rfl, b5⟩; have D5 : Hid (Below w.heap.size w w5) := Lib.hid (D4.out.trans (b5.mono D4.out.size)); have J5 : Hid (w5.heap[J]? = some (.cells #[.int .i64 X, .slice (midA A S c) Y (c - S), .slice (midA A (S + Y) c) Z (c - (S + Y))] 160 (0, 0))) := Lib.hid ((b5.block _ (Array.getElem?_eq_some_iff.1 J4.out).1).trans J4.out); have R5 : Hid (w5.heap[H]? = some (.cells #[.int .i64 0, .slice none 0 0, .slice none 0 0] 160 (0, 0))) := Lib.hid ((b5.block _ (Array.getElem?_eq_some_iff.1 R4.out).1).trans R4.out); clear b5; have d3 : w5.cell? ⟨J, 0, none⟩ = some (.int .i64 X) := (by simp [World.cell?, J5.out]); have d4 : w5.cell? ⟨J, 1, none⟩ = some (.slice (midA A S c) Y (c - S)) := (by simp [World.cell?, J5.out]); have d5 : w5.cell? ⟨J, 2, none⟩ = some (.slice (midA A (S + Y) c) Z (c - (S + Y))) := (by simp [World.cell?, J5.out]); have s0 : w5.cell? ⟨H, 0, none⟩ = some (.int .i64 0) := (by simp [World.cell?, R5.out]); have s1 : w5.cell? ⟨H, 1, none⟩ = some (.slice none 0 0) := (by simp [World.cell?, R5.out]); have s2 : w5.cell? ⟨H, 2, none⟩ = some (.slice none 0 0) := (by simp [World.cell?, R5.out]); have f0 : w5.frozen? ⟨H, 0, none⟩ = false := (by simp [World.frozen?, R5.out]); have f1 : w5.frozen? ⟨H, 1, none⟩ = false := (by simp [World.frozen?, R5.out]); have f2 : w5.frozen? ⟨H, 2, none⟩ = false := (by simp [World.frozen?, R5.out]))
    try simp only [Exit.inBlock, Exit.then]
    refine bodyPost_ret (v := .tuple #[.agg #[.int .i64 0, .slice none 0 0, .slice none 0 0], .int .i64 0, .int .i64 11]) ?_ rfl ?_
    · unfold results
      go_simp
    · rw [HV.out]
      exact .inl ⟨HE.out, rfl, ((D5.out.setCell (by rw [HH.out]; exact Nat.le_refl _) _).setCell (by rw [HH.out]; exact Nat.le_refl _) _).setCell (by rw [HH.out]; exact Nat.le_refl _) _⟩
  have hd : decide (cmpL ((L.drop S).take Y) (G.drop X) = 1) = true := by simpa using hr
  rw [hd] at HRI
  by_cases ha : 0 < alike ((L.drop S).take Y) (G.drop X)
  · have HV : Hid ((oneP L a G).2.2 = 11) := Lib.hid (by rw [HOE.out]; exact HB4.out (.inr ha))
    have HE : Hid ((11 : Int) ≠ 0) := Lib.hid (by decide)
    have hd2 : decide (0 < alike ((L.drop S).take Y) (G.drop X)) = true := by simpa using ha
    rw [hd2] at HSM
    clear hr ha hd hd2 hx hy
    go_wp2_with (first
      | (go_at_call 100; refine HRI.out.mono ?_; rintro e w5 ⟨rfl, b5⟩; have D5 : Hid (Below w.heap.size w w5) := Lib.hid (D4.out.trans (b5.mono D4.out.size)); have J5 : Hid (w5.heap[J]? = some (.cells #[.int .i64 X, .slice (midA A S c) Y (c - S), .slice (midA A (S + Y) c) Z (c - (S + Y))] 160 (0, 0))) := Lib.hid ((b5.block _ (Array.getElem?_eq_some_iff.1 J4.out).1).trans J4.out); have R5 : Hid (w5.heap[H]? = some (.cells #[.int .i64 0, .slice none 0 0, .slice none 0 0] 160 (0, 0))) := Lib.hid ((b5.block _ (Array.getElem?_eq_some_iff.1 R4.out).1).trans R4.out); clear b5; have d3 : w5.cell? ⟨J, 0, none⟩ = some (.int .i64 X) := (by simp [World.cell?, J5.out]); have d4 : w5.cell? ⟨J, 1, none⟩ = some (.slice (midA A S c) Y (c - S)) := (by simp [World.cell?, J5.out]); have d5 : w5.cell? ⟨J, 2, none⟩ = some (.slice (midA A (S + Y) c) Z (c - (S + Y))) := (by simp [World.cell?, J5.out]); have s0 : w5.cell? ⟨H, 0, none⟩ = some (.int .i64 0) := (by simp [World.cell?, R5.out]); have s1 : w5.cell? ⟨H, 1, none⟩ = some (.slice none 0 0) := (by simp [World.cell?, R5.out]); have s2 : w5.cell? ⟨H, 2, none⟩ = some (.slice none 0 0) := (by simp [World.cell?, R5.out]); have f0 : w5.frozen? ⟨H, 0, none⟩ = false := (by simp [World.frozen?, R5.out]); have f1 : w5.frozen? ⟨H, 1, none⟩ = false := (by simp [World.frozen?, R5.out]); have f2 : w5.frozen? ⟨H, 2, none⟩ = false := (by simp [World.frozen?, R5.out]))
      | (go_at_call 134; refine (HSM.out _ D5.out).mono ?_; rintro e w6 ⟨rfl, b6⟩; have D6 : Hid (Below w.heap.size w w6) := Lib.hid (D5.out.trans (b6.mono D5.out.size)); have J6 : Hid (w6.heap[J]? = some (.cells #[.int .i64 X, .slice (midA A S c) Y (c - S), .slice (midA A (S + Y) c) Z (c - (S + Y))] 160 (0, 0))) := Lib.hid ((b6.block _ (Array.getElem?_eq_some_iff.1 J5.out).1).trans J5.out); have R6 : Hid (w6.heap[H]? = some (.cells #[.int .i64 0, .slice none 0 0, .slice none 0 0] 160 (0, 0))) := Lib.hid ((b6.block _ (Array.getElem?_eq_some_iff.1 R5.out).1).trans R5.out); clear b6; have d6 : w6.cell? ⟨J, 0, none⟩ = some (.int .i64 X) := (by simp [World.cell?, J6.out]); have d7 : w6.cell? ⟨J, 1, none⟩ = some (.slice (midA A S c) Y (c - S)) := (by simp [World.cell?, J6.out]); have d8 : w6.cell? ⟨J, 2, none⟩ = some (.slice (midA A (S + Y) c) Z (c - (S + Y))) := (by simp [World.cell?, J6.out]); have u0 : w6.cell? ⟨H, 0, none⟩ = some (.int .i64 0) := (by simp [World.cell?, R6.out]); have u1 : w6.cell? ⟨H, 1, none⟩ = some (.slice none 0 0) := (by simp [World.cell?, R6.out]); have u2 : w6.cell? ⟨H, 2, none⟩ = some (.slice none 0 0) := (by simp [World.cell?, R6.out]); have v0 : w6.frozen? ⟨H, 0, none⟩ = false := (by simp [World.frozen?, R6.out]); have v1 : w6.frozen? ⟨H, 1, none⟩ = false := (by simp [World.frozen?, R6.out]); have v2 : w6.frozen? ⟨H, 2, none⟩ = false := (by simp [World.frozen?, R6.out])))
    try simp only [Exit.inBlock, Exit.then]
    refine bodyPost_ret (v := .tuple #[.agg #[.int .i64 0, .slice none 0 0, .slice none 0 0], .int .i64 0, .int .i64 11]) ?_ rfl ?_
    · unfold results
      go_simp
    · rw [HV.out]
      exact .inl ⟨HE.out, rfl, ((D6.out.setCell (by rw [HH.out]; exact Nat.le_refl _) _).setCell (by rw [HH.out]; exact Nat.le_refl _) _).setCell (by rw [HH.out]; exact Nat.le_refl _) _⟩
  · have HV := Lib.hid (HB5.out (by omega))
    have hd2 : decide (0 < alike ((L.drop S).take Y) (G.drop X)) = false := by simpa using ha
    rw [hd2] at HSM
    clear hr ha hd hd2 hx hy
    go_wp2_with (first
      | (go_at_call 100; refine HRI.out.mono ?_; rintro e w5 ⟨rfl, b5⟩; have D5 : Hid (Below w.heap.size w w5) := Lib.hid (D4.out.trans (b5.mono D4.out.size)); have J5 : Hid (w5.heap[J]? = some (.cells #[.int .i64 X, .slice (midA A S c) Y (c - S), .slice (midA A (S + Y) c) Z (c - (S + Y))] 160 (0, 0))) := Lib.hid ((b5.block _ (Array.getElem?_eq_some_iff.1 J4.out).1).trans J4.out); have R5 : Hid (w5.heap[H]? = some (.cells #[.int .i64 0, .slice none 0 0, .slice none 0 0] 160 (0, 0))) := Lib.hid ((b5.block _ (Array.getElem?_eq_some_iff.1 R4.out).1).trans R4.out); clear b5; have d3 : w5.cell? ⟨J, 0, none⟩ = some (.int .i64 X) := (by simp [World.cell?, J5.out]); have d4 : w5.cell? ⟨J, 1, none⟩ = some (.slice (midA A S c) Y (c - S)) := (by simp [World.cell?, J5.out]); have d5 : w5.cell? ⟨J, 2, none⟩ = some (.slice (midA A (S + Y) c) Z (c - (S + Y))) := (by simp [World.cell?, J5.out]); have s0 : w5.cell? ⟨H, 0, none⟩ = some (.int .i64 0) := (by simp [World.cell?, R5.out]); have s1 : w5.cell? ⟨H, 1, none⟩ = some (.slice none 0 0) := (by simp [World.cell?, R5.out]); have s2 : w5.cell? ⟨H, 2, none⟩ = some (.slice none 0 0) := (by simp [World.cell?, R5.out]); have f0 : w5.frozen? ⟨H, 0, none⟩ = false := (by simp [World.frozen?, R5.out]); have f1 : w5.frozen? ⟨H, 1, none⟩ = false := (by simp [World.frozen?, R5.out]); have f2 : w5.frozen? ⟨H, 2, none⟩ = false := (by simp [World.frozen?, R5.out]))
      | (go_at_call 134; refine (HSM.out _ D5.out).mono ?_; rintro e w6 ⟨rfl, b6⟩; have D6 : Hid (Below w.heap.size w w6) := Lib.hid (D5.out.trans (b6.mono D5.out.size)); have J6 : Hid (w6.heap[J]? = some (.cells #[.int .i64 X, .slice (midA A S c) Y (c - S), .slice (midA A (S + Y) c) Z (c - (S + Y))] 160 (0, 0))) := Lib.hid ((b6.block _ (Array.getElem?_eq_some_iff.1 J5.out).1).trans J5.out); have R6 : Hid (w6.heap[H]? = some (.cells #[.int .i64 0, .slice none 0 0, .slice none 0 0] 160 (0, 0))) := Lib.hid ((b6.block _ (Array.getElem?_eq_some_iff.1 R5.out).1).trans R5.out); clear b6; have d6 : w6.cell? ⟨J, 0, none⟩ = some (.int .i64 X) := (by simp [World.cell?, J6.out]); have d7 : w6.cell? ⟨J, 1, none⟩ = some (.slice (midA A S c) Y (c - S)) := (by simp [World.cell?, J6.out]); have d8 : w6.cell? ⟨J, 2, none⟩ = some (.slice (midA A (S + Y) c) Z (c - (S + Y))) := (by simp [World.cell?, J6.out]); have u0 : w6.cell? ⟨H, 0, none⟩ = some (.int .i64 0) := (by simp [World.cell?, R6.out]); have u1 : w6.cell? ⟨H, 1, none⟩ = some (.slice none 0 0) := (by simp [World.cell?, R6.out]); have u2 : w6.cell? ⟨H, 2, none⟩ = some (.slice none 0 0) := (by simp [World.cell?, R6.out]); have v0 : w6.frozen? ⟨H, 0, none⟩ = false := (by simp [World.frozen?, R6.out]); have v1 : w6.frozen? ⟨H, 1, none⟩ = false := (by simp [World.frozen?, R6.out]); have v2 : w6.frozen? ⟨H, 2, none⟩ = false := (by simp [World.frozen?, R6.out])))
    try simp only [Exit.inBlock, Exit.then]
    refine bodyPost_ret (v := .tuple #[.agg #[.int .i64 X, .slice (midA A S c) Y (c - S), .slice (midA A (S + Y) c) Z (c - (S + Y))], .int .i64 ((S : Int) + Y + Z), .int .i64 0]) ?_ rfl ?_
    · unfold results
      go_simp
    · obtain ⟨hx, hy⟩ := HARI.out
      refine .inr ⟨X, Y, Z, S, ?_, hx, hy, ?_, ?_⟩
      · rw [HOE.out, HV.out]
      · simp
      · exact ((D6.out.setCell (by rw [HH.out]; exact Nat.le_refl _) _).setCell (by rw [HH.out]; exact Nat.le_refl _) _).setCell (by rw [HH.out]; exact Nat.le_refl _) _
end Go.Proofs.YtmgggddnfeojmaaGreat
namespace Go.Proofs.YtmgggddnfeojmaaGreat
open Go.RowKit
/-- The loop's two blocks lie as they lay. -/
def Two (h : Nat) (W W' : World) : Prop := W'.heap[h]? = W.heap[h]? ∧ W'.heap[h + 1]? = W.heap[h + 1]?
theorem Two.refl (h : Nat) (W : World) : Two h W W := ⟨rfl, rfl⟩
theorem Two.trans {h : Nat} {A B C : World} (x : Two h A B) (y : Two h B C) : Two h A C := ⟨y.1.trans x.1, y.2.trans x.2⟩
theorem Two.below {h B : Nat} {W W' : World} (k : Below B W W') (hB : h + 1 < B) : Two h W W' := ⟨k.block h (by omega), k.block (h + 1) hB⟩
/-- How a round's body must end. -/
def Goes (h : Nat) (W : World) (post : World → Prop) : Exit → Act → World → Prop
  | .normal, _, W' => Two h W W' ∧ post W'
  | _, _, _ => False
def Halts (h : Nat) (W : World) (post : World → Prop) : Exit → Act → World → Prop
  | .ret, _, W' => Two h W W' ∧ post W'
  | _, _, _ => False
/-- A round: its assignments, its body. -/
def RoundOf (h n : Nat) (P : Program) (tmps : Array Value) (ps : Array Tmp) (assign body : Code) (args : Array Value) (W : World) (R : World → Exit → Act → World → Prop) : Prop :=
  assign.wpIn (Fence.wide.inRound (h + 1)) n P (Exit.then (fun a₁ W₁ => Two h W W₁ ∧ ∀ W₂, W₁.grownBy W₂ (some (h + 1)) → (∃ o : Obj, W₁.heap[h + 1]? = some o ∧ o.isCells = false) → body.wpIn (Fence.wide.inRound (h + 1)) n P (R W₂) a₁ W₂) (fun _ _ _ => False))
    { tmps := (ps.zip args).foldl (fun t (p, v) => t.setIfInBounds p v) tmps, defers := [] } W
/-- The loop's record. -/
def recAt (fn : FuncId) (h : Nat) (tmps : Array Value) (ps : Array Tmp) (assign body : Code) (st : LoopState) (pe : Option Code) : Loop :=
  { state := st, pending := pe, fn := fn, tmps := tmps, params := ps, assign := assign, body := body, defers := h }
theorem yield_round {n : Nat} {P : Program} {fn : FuncId} {h : Nat} {tmps : Array Value} {ps : Array Tmp} {assign body : Code} {args : Array Value} {W : World} {R : World → Exit → Act → World → Prop} {R' : Ending → World → Prop}
    (hl : W.heap[h + 1]? = some (.loop (recAt fn h tmps ps assign body .ready none))) (hs : args.size = ps.size)
    (hw : RoundOf h n P tmps ps assign body args W R)
    (hR : ∀ W₂ e a W₃, R W₂ e a W₃ → W₂.heap[h + 1]? = some (.loop (recAt fn h tmps ps assign body .busy none)) → W₂.heap[h]? = W.heap[h]? → roundPost P (h + 1) R' e a W₃) :
    YieldAt Fence.wide n P (h + 1) args W R' := by
  have hy := run_yield (P := P) (args := args) hl hs
  refine ⟨fn, _, assign, body, hy, roundIn_of_wpIn trivial (wpIn_mono hw ?_)⟩
  intro e a₁ W₁ q
  cases e with
  | normal =>
    obtain ⟨t, k⟩ := q
    have hl1 := t.2.trans hl
    have hlt := (Array.getElem?_eq_some_iff.1 hl1).1
    refine ⟨_, run_beginRound hl1 rfl, wpIn_mono (k _ (grownBy_putObj' W₁ (h + 1) _) ⟨_, hl1, rfl⟩) fun e a W₃ r => hR _ e a W₃ r (World.putObj_heap_same hlt) ((World.putObj_heap_other (by omega)).trans t.1)⟩
  | ret => exact q.elim
  | exit id => exact q.elim
  | goto t => exact q.elim
  | panic ch => exact q.elim
  | outgrown => exact q.elim
/-- The two blocks that a loop lays. -/
theorem two_laid (w : World) (d l : Obj) : ((w.alloc d).alloc l).heap[w.heap.size]? = some d ∧ ((w.alloc d).alloc l).heap[w.heap.size + 1]? = some l := by
  have h := heap_alloc_new (w.alloc d) l
  rw [World.size_alloc] at h
  exact ⟨((below_new (w.alloc d) l).block _ (by rw [World.size_alloc]; omega)).trans (heap_alloc_new w d), h⟩
/-- The loop's call of the iterator. -/
theorem call_laid {P : Program} {g : Operand} {a : Act} {gf : Nat} {lb : Array Value} (hg : a.eval g = .func (.func gf) #[] lb) (l : Nat) (W : World) :
    (resolve a.eval (rangeCall g l) 0).run P W = .ok { target := .fn (.func gf) lb, args := #[.func (.yield l) #[] #[]] } W := by
  unfold resolve
  simp only [hg]
  simp [go_sem]
theorem call_enters {P : Program} {gf : Nat} {lb : Array Value} (eg : ∀ args w, (callFunc gf args).run P w = .ok (.enter gf args) w) (l : Nat) (W : World) :
    (invoke (.fn (.func gf) lb) #[.func (.yield l) #[] #[]]).run P W = .ok (.enter gf (#[.func (.yield l) #[] #[]] ++ lb)) W := by
  simp [invoke, go_sem, eg]
theorem range_told {σ : Type} {P : Program} {g : Operand} {ps : Array Tmp} {assign body : Code} {Q : Exit → Act → World → Prop} {a : Act} {w : World} {n gf : Nat} {lb : Array Value}
    (hg : a.eval g = .func (.func gf) #[] lb) (eg : ∀ args w, (callFunc gf args).run P w = .ok (.enter gf args) w)
    (I Ix : σ → World → Prop) (hI : OwnFrom w.heap.size I) (hIx : OwnFrom w.heap.size Ix)
    (On Off : σ → Array Value → σ → World → Prop) (s0 : σ) (h0 : I s0 w) (Done Left : σ → Prop)
    (hsz : ∀ s args s' W, On s args s' W ∨ Off s args s' W → args.size = ps.size)
    (hon : ∀ s args s' W, On s args s' W → I s W → RoundOf w.heap.size (n - 1 - 1) P a.tmps ps assign body args W (fun W₂ => Goes w.heap.size W₂ (I s')))
    (hoff : ∀ s args s' W, Off s args s' W → I s W → RoundOf w.heap.size (n - 1 - 1) P a.tmps ps assign body args W (fun W₂ => Halts w.heap.size W₂ (Ix s')))
    (hiter : ∀ (R R' : World → Prop), (∀ W W', R W → Below W.heap.size W W' → R W') → (∀ W W' (g : Nat) (cur : Array Value) (ty : TypeId) (mk : Nat × Nat), R W → W.heap[g]? = some (.cells cur ty mk) → W.grownBy W' (some g) → R W') → (∀ W, R W → w.heap.size + 2 ≤ W.heap.size) →
      (∀ s args s' W, On s args s' W → I s W → R W → YieldAt Fence.wide (n - 1 - 1) P (w.heap.size + 1) args W fun e W' => e = .returned (.bool true) ∧ I s' W' ∧ R W') →
      (∀ s args s' W, Off s args s' W → I s W → R W → YieldAt Fence.wide (n - 1 - 1) P (w.heap.size + 1) args W fun e W' => e = .returned (.bool false) ∧ Ix s' W' ∧ R' W') →
      ∀ W, I s0 W → R W → CallsIn Fence.wide (n - 1) P gf (#[.func (.yield (w.heap.size + 1)) #[] #[]] ++ lb) W fun e W' => (∃ v, e = .returned v) ∧ ((∃ s, Done s ∧ I s W' ∧ R W') ∨ (∃ s, Left s ∧ Ix s W' ∧ R' W')))
    (hdone : ∀ s W, Done s → I s W → W.heap[w.heap.size]? = some (.deferred (some [])) → Q .normal { a with defers := { target := .collected w.heap.size, args := #[] } :: a.defers } W)
    (hleft : ∀ s W, Left s → Ix s W → W.heap[w.heap.size]? = some (.deferred (some [])) → Code.ret.wpIn Fence.wide n P Q { a with defers := { target := .collected w.heap.size, args := #[] } :: a.defers } W) :
    (Code.rangeFunc g ps assign body).wpIn Fence.wide n P Q a w := by
  refine wpIn_rangeFunc fun fn _ => ?_
  obtain ⟨L, hL⟩ : ∃ L, recAt fn w.heap.size a.tmps ps assign body = L := ⟨_, rfl⟩
  obtain ⟨f2, f1⟩ := two_laid w (.deferred (some [])) (.loop (L .ready none))
  have fI : I s0 ((w.alloc (.deferred (some []))).alloc (.loop (L .ready none))) := hI.alloc _ (hI.alloc _ h0)
  generalize hW : (w.alloc (.deferred (some []))).alloc (.loop (L .ready none)) = W1 at f1 f2 fI
  have fE : (Instr.enterLoop fn a.tmps ps assign body none).run P w = .ok (w.heap.size + 1, [⟨.collected w.heap.size, #[]⟩]) W1 := by
    rw [← hW, ← hL]
    exact run_enterLoop_outer _ _ _ _ _
  refine ⟨_, _, _, _, _, _, _, _, fE, call_laid hg _ W1, fun _ _ => trivial, call_enters eg _ W1, fun h => by simp [Fence.wide] at h, ?_⟩
  · have ended : ∀ (jump : Option Code) (W3 : World), W3.heap[w.heap.size + 1]? = some (.loop (L .busy none)) → (Instr.endRound (w.heap.size + 1) jump).run P W3 = .ok (.bool jump.isNone) (W3.putObj (w.heap.size + 1) (.loop (L (if jump.isNone then .ready else .done) jump))) := fun jump W3 k => by
      have := run_endRound (P := P) jump k
      rw [← hL] at this ⊢
      exact this
    have size2 : ∀ {W : World} {o : Obj}, W.heap[w.heap.size + 1]? = some o → w.heap.size + 2 ≤ W.heap.size := fun k => by
      have := (Array.getElem?_eq_some_iff.1 k).1
      omega
    refine (hiter (fun W => W.heap[w.heap.size + 1]? = some (.loop (L .ready none)) ∧ W.heap[w.heap.size]? = some (.deferred (some [])))
      (fun W => W.heap[w.heap.size + 1]? = some (.loop (L .done (some .ret))) ∧ W.heap[w.heap.size]? = some (.deferred (some [])))
      (fun W W' r b => ⟨(b.block _ (by have := size2 r.1; omega)).trans r.1, (b.block _ (by have := size2 r.1; omega)).trans r.2⟩)
      (fun W W' g cur ty mk r hc hg => ⟨(hg.block _ (by have := size2 r.1; omega) (fun e => by injection e with e; rw [← e, r.1] at hc; injection hc with hc; cases hc)).trans r.1, (hg.block _ (by have := size2 r.1; omega) (fun e => by injection e with e; rw [← e, r.2] at hc; injection hc with hc; cases hc)).trans r.2⟩) (fun W r => size2 r.1) ?_ ?_ W1 fI ⟨f1, f2⟩).mono ?_
    · intro s args s' W ho hi r
      have hl := r.1
      rw [← hL] at hl
      refine yield_round hl (hsz s args s' W (.inl ho)) (hon s args s' W ho hi) fun W₂ e x W₃ q k1 k2 => ?_
      cases e with
      | normal =>
        obtain ⟨t, hi3⟩ := q
        have k3 := t.2.trans k1
        rw [hL] at k3
        refine ⟨_, _, ended none W₃ k3, rfl, hI.putObj _ hi3 (by omega) k3 rfl, World.putObj_heap_same (Array.getElem?_eq_some_iff.1 k3).1, ?_⟩
        rw [World.putObj_heap_other (by omega), t.1, k2, r.2]
      | ret => exact q.elim
      | exit id => exact q.elim
      | goto t => exact q.elim
      | panic ch => exact q.elim
      | outgrown => exact q.elim
    · intro s args s' W ho hi r
      have hl := r.1
      rw [← hL] at hl
      refine yield_round hl (hsz s args s' W (.inr ho)) (hoff s args s' W ho hi) fun W₂ e x W₃ q k1 k2 => ?_
      cases e with
      | ret =>
        obtain ⟨t, hi3⟩ := q
        have k3 := t.2.trans k1
        rw [hL] at k3
        refine ⟨_, _, ended (some .ret) W₃ k3, rfl, hIx.putObj _ hi3 (by omega) k3 rfl, World.putObj_heap_same (Array.getElem?_eq_some_iff.1 k3).1, ?_⟩
        rw [World.putObj_heap_other (by omega), t.1, k2, r.2]
      | normal => exact q.elim
      | exit id => exact q.elim
      | goto t => exact q.elim
      | panic ch => exact q.elim
      | outgrown => exact q.elim
    · rintro e W2 ⟨⟨v, rfl⟩, (⟨s, hd, hi, k1, k2⟩ | ⟨s, hd, hi, k1, k2⟩)⟩
      · have h := run_endLoop (P := P) k1 (by rw [← hL]; simp [recAt])
        have e : (L .ready none).pending = none := by rw [← hL]; rfl
        rw [e] at h
        exact ⟨none, _, h, hdone s _ hd (hI.putObj _ hi (by omega) k1 rfl) ((World.putObj_heap_other (by omega)).trans k2)⟩
      · have h := run_endLoop (P := P) k1 (by rw [← hL]; simp [recAt])
        have e : (L .done (some .ret)).pending = some .ret := by rw [← hL]; rfl
        rw [e] at h
        exact ⟨some .ret, _, h, hleft s _ hd (hIx.putObj _ hi (by omega) k1 rfl) ((World.putObj_heap_other (by omega)).trans k2)⟩
end Go.Proofs.YtmgggddnfeojmaaGreat
namespace Go.Proofs.YtmgggddnfeojmaaGreat
open Go.RowKit
theorem run_append_empty {P : Program} (w : World) (t ty e : TypeId) (i : TypeInfo) (ht : P.underlying t = some (.slice e)) (hi : P.info? e = some i) (A : Option Addr) (n c : Nat) (hA : (A = none ∧ n = 0 ∧ c = 0) ∨ (∃ ad, A = some ad ∧ n ≤ c)) (C : Option Addr) (cm : Nat) :
    (Builtin.append_ #[t, t] ty #[.slice A n c, .slice C 0 cm]).run P w = .ok (.slice A n c) w := by
  rcases hA with ⟨rfl, rfl, rfl⟩ | ⟨ad, rfl, hnc⟩
  · cases C <;> simp [Builtin.append_, run_underlying ht, sizeOf, typeInfo, hi, Builtin.lenOf, Builtin.firstCells, loadCells, loadCellsFrom]
  · cases C <;> simp [Builtin.append_, run_underlying ht, sizeOf, typeInfo, hi, Builtin.lenOf, Builtin.firstCells, loadCells, loadCellsFrom, storeCells, hnc]
set_option maxRecDepth 100000 in
/-- Bytes more: the row stays in its block, or lies in a new one. -/
theorem row_placed (w : World) (ty : TypeId) (B : Nat) (A : Option Addr) (c : Nat) (L M : List Int) (C : Option Addr) (cm : Nat) (h : Row w B A c L) (hm : Bys w C M) (hB : B ≤ w.heap.size) (hr : L.length + M.length ≤ 140737488355328) :
    ∃ A' c' w', (Builtin.append_ #[42, 42] ty #[.slice A L.length c, .slice C M.length cm]).run Tryz.prog w = .ok (.slice A' (L.length + M.length) c') w' ∧ Row w' B A' c' (L ++ M) ∧ Below B w w' ∧ w.grownBy w' (Value.slice A L.length c).ownBlock ∧ ∀ ad, A' = some ad → (∃ a0, A = some a0 ∧ ad.block = a0.block) ∨ w.heap.size ≤ ad.block := by
  obtain ⟨i, hi, hz0, hz1, hz2⟩ := info_parts info5
  obtain ⟨A', c', w', r, h2, h3, h4⟩ := run_append_grown (P := Tryz.prog) w 42 ty 5 i (.int .u8 0) 1 1 Tryz.underlying42 hi hz0 hz1 hz2 rfl (by decide) B A L.length c (vals L) h C M.length cm (vals M) (by simp [vals_len]) hm.lies vals_one (by unfold maxLen; omega) (by omega) hB
  rw [← vals_append] at h2
  refine ⟨A', c', w', r, by unfold Row; rw [List.length_append]; exact h2, h3, h4, fun ad ha => ?_⟩
  by_cases hM : M = []
  · subst hM
    have e := run_append_empty (P := Tryz.prog) w 42 ty 5 i Tryz.underlying42 hi A L.length c (by
      rcases h.2 with ⟨hv, h0⟩ | ⟨g, cap, cur, hv, hbg, hg, hnc, _⟩
      · injection hv with e1 e2 e3
        exact .inl ⟨e1, e2, e3⟩
      · injection hv with e1 e2 e3
        subst e3
        exact .inr ⟨_, e1, hnc⟩) C cm
    rw [List.length_nil, e] at r
    injection r with r1 r2
    injection r1 with r1
    exact .inl ⟨ad, by rw [r1, ha], rfl⟩
  · obtain ⟨cd, rfl, hc⟩ := hm.resolve_left hM
    have hpos : 0 < M.length := List.length_pos_iff.2 hM
    have hnews : ∀ j u, (vals M)[j]? = some u → w.cell? (cd.add j) = some u := fun j u hu => by
      obtain ⟨x, e1, rfl⟩ := vals_get hu
      exact hc j x e1
    rcases h.2 with ⟨hv, h0⟩ | ⟨g, cap, cur, hv, hbg, hg, hnc, hcm, hcs, htake⟩
    · injection hv with e1 e2 e3
      subst e1
      subst e3
      have hr := run_append_nil (P := Tryz.prog) w 42 ty 5 i (.int .u8 0) Tryz.underlying42 hi hz0 cd M.length cm (vals M) (by rw [hz1, vals_len]; omega) hnews hpos (by omega) (by rw [hz2]; omega)
      rw [e2, hr] at r
      injection r with r1 r2
      injection r1 with r1
      rw [ha] at r1
      injection r1 with r1
      rw [← r1]
      exact .inr (Nat.le_refl _)
    · injection hv with e1 e2 e3
      subst e1
      subst e3
      by_cases hroom : L.length + M.length ≤ c
      · obtain ⟨w2, hr, -, -⟩ := run_append_own_spare (P := Tryz.prog) w B 42 ty 5 i 1 Tryz.underlying42 hi hz1 g L.length c (vals L) h cd M.length cm (vals M) (by simp [vals_len]) hnews vals_one hroom
        rw [hr] at r
        injection r with r1 r2
        injection r1 with r1
        rw [ha] at r1
        injection r1 with r1
        exact .inl ⟨_, rfl, by rw [← r1]⟩
      · have hr := run_append_grow (P := Tryz.prog) w 42 ty 5 i (.int .u8 0) Tryz.underlying42 hi hz0 ⟨g, 0, none⟩ L.length c (vals L) (by rw [hz1]; simp [vals_len]) (World.ownsRow.cells h (g := g) rfl) cd M.length cm (vals M) (by rw [hz1, vals_len]; omega) hnews (by omega) (by omega) (by rw [hz2]; exact growslice_fits (bytes := 1) (by omega) (by omega))
        rw [hr] at r
        injection r with r1 r2
        injection r1 with r1
        rw [ha] at r1
        injection r1 with r1
        rw [← r1]
        exact .inr (Nat.le_refl _)
theorem step_append_placed (w : World) {ops : Array Oper} {o : Oper} {a : Act} {K : Act → World → Prop} {Q : Exit → Act → World → Prop} {E : Prop} (hgd : o.guard = none) (s x : Operand)
    (ho : o.op = .call { callee := .builtin .append, args := #[s, x], argTypes := #[42, 42] })
    (B : Nat) (A : Option Addr) (c : Nat) (L M : List Int) (C : Option Addr) (n m cm : Nat) (hs : a.eval s = .slice A n c) (hx : a.eval x = .slice C m cm) (en : L.length = n) (em : M.length = m) (h : Row w B A c L) (hm : Bys w C M) (hB : B ≤ w.heap.size) (hr : L.length + M.length ≤ 140737488355328)
    (k : ∀ A' c' w', Row w' B A' c' (L ++ M) → Below B w w' → w.grownBy w' (Value.slice A L.length c).ownBlock → (∀ ad, A' = some ad → (∃ a0, A = some a0 ∧ ad.block = a0.block) ∨ w.heap.size ≤ ad.block) → K (a.put o.dst (.slice A' (n + m) c')) w') : if Region.wanted o (yielded ops a.tmps) = true then Oper.wp Tryz.prog o a w K Q else E := by
  have hw : Region.wanted o (yielded ops a.tmps) = true := by simp [Region.wanted, hgd]
  rw [if_pos hw]
  subst en
  subst em
  obtain ⟨A', c', w', r, h2, h3, h4, h5⟩ := row_placed w o.type B A c L M C cm h hm hB hr
  have k' := k A' c' w' h2 h3 h4 h5
  unfold Oper.wp execOp
  simp only [ho, resolve, invoke, builtin, Sem.run_bind, Sem.run_pure, Result.andThen_ok, List.map_toArray, List.map_cons, List.map_nil, hs, hx, r]
  exact k'
/-- A row's beginning is a row. -/
theorem Row.high {w : World} {B : Nat} {A : Option Addr} {c : Nat} {L : List Int} (h : Row w B A c L) (k : Nat) (hk : k ≤ L.length) : Row w B A c (L.take k) := by
  have hlen : (L.take k).length = k := by rw [List.length_take]; omega
  rcases h.2 with ⟨hv, h0⟩ | ⟨g, cap, cur, hv, hbg, hg, hnc, hcm, hcs, htake⟩
  · have : L = [] := List.eq_nil_of_length_eq_zero h0
    subst this
    simpa using h
  · injection hv with e1 e2 e3
    subst e1
    subst e3
    refine ⟨by rw [hlen]; simp [vals_len, hlen], .inr ⟨g, c, cur, by rw [hlen], hbg, hg, by omega, hcm, hcs, ?_⟩⟩
    rw [hlen]
    simp only [Nat.mul_one] at htake ⊢
    have : (cur.toList.take L.length).take k = (vals L).take k := by rw [htake]
    rw [List.take_take, Nat.min_eq_left hk] at this
    rw [this]
    simp [vals, List.map_take]
/-- Where the iterator stands: the pairs told, the error, its own key. -/
structure Ks where
  ps : List Pr
  e : Int
  ka : Option Addr
  kc : Nat
  k : List Int
/-- An address lies in none of the blocks of some pairs. -/
def Far (A : Option Addr) (T : List Bp) : Prop := ∀ q ∈ T, ∀ ad, A = some ad → (∀ bd, q.k.a = some bd → bd.block ≠ ad.block) ∧ (∀ bd, q.v.a = some bd → bd.block ≠ ad.block)
theorem Far.nil (A : Option Addr) : Far A [] := fun _ h => by cases h
/-- While the key turns, rows elsewhere stay. -/
theorem own_far {w w' : World} {B : Nat} {e : TypeId} {size : Nat} {A C : Option Addr} {n c m d : Nat} {xs : List Value} (h : w.ownsRow B e size (.slice C m d) m xs) (hg : w.grownBy w' (Value.slice A n c).ownBlock) (hf : ∀ ad, A = some ad → ∀ cd, C = some cd → cd.block ≠ ad.block) : w'.ownsRow B e size (.slice C m d) m xs := by
  refine ⟨h.1, ?_⟩
  rcases h.2 with hn | ⟨g, cap, cur, e1, h1, h2, h3⟩
  · exact .inl hn
  · refine .inr ⟨g, cap, cur, e1, h1, ?_, h3⟩
    injection e1 with e1
    rw [hg.block g (Array.getElem?_eq_some_iff.1 h2).1 (fun e' => ?_), h2]
    cases A with
    | none => simp [Value.ownBlock] at e'
    | some ad => exact hf ad rfl _ e1 (by simpa [Value.ownBlock] using e')
end Go.Proofs.YtmgggddnfeojmaaGreat
