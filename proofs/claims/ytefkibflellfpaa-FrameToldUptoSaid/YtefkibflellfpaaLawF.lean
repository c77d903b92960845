/-
  The law FrameTold.
-/
import Derived.Test.YtefkibflellfpaaLawE
import Derived.Test.YtefkibflellfpaaLawB
namespace Go.Proofs.Ytefkibflellfpaa
open Go.RowKit

/-- Frames, one of them turned. -/
def turnL (ps : List (List Int)) (j a : Nat) (y : Int) : List (List Int) := (ps.map putL).modify j (fun f => f.set a y)
theorem turnL_len (ps : List (List Int)) (j a : Nat) (y : Int) : (turnL ps j a y).length = ps.length := by simp [turnL]
theorem turnL_other {ps : List (List Int)} {j a i : Nat} {y : Int} {p : List Int} (h : ps[i]? = some p) (hi : i ≠ j) : (turnL ps j a y)[i]? = some (putL p) := by
  simp [turnL, h, Ne.symm hi]
theorem turnL_at {ps : List (List Int)} {j a : Nat} {y : Int} {p : List Int} (h : ps[j]? = some p) : (turnL ps j a y)[j]? = some ((putL p).set a y) := by
  simp [turnL, h]
theorem flat_map_put (ps : List (List Int)) : (ps.map putL).flatten = flatL ps := by
  induction ps with
  | nil => rfl
  | cons p ps ih => rw [List.map_cons, List.flatten_cons, ih, flatL]
theorem turnL_take (ps : List (List Int)) (j a : Nat) (y : Int) (i : Nat) (h : i ≤ j) : ((turnL ps j a y).take i).flatten = flatL (ps.take i) := by
  have : (turnL ps j a y).take i = (ps.take i).map putL := by
    unfold turnL
    refine List.ext_getElem? fun k => ?_
    rw [List.getElem?_take, List.getElem?_map, List.getElem?_take]
    split
    · rw [List.getElem?_modify, List.getElem?_map]
      have : j ≠ k := by omega
      simp [this]
    · rfl
  rw [this, flat_map_put]
theorem turnL_flat {ps : List (List Int)} {j a : Nat} {y : Int} {p : List Int} (h : ps[j]? = some p) : (turnL ps j a y).flatten = flatL (ps.take j) ++ ((putL p).set a y ++ flatL (ps.drop (j + 1))) := by
  have hj := (List.getElem?_eq_some_iff.1 h).1
  have h1 := turnL_at (a := a) (y := y) h
  have h2 : (turnL ps j a y).drop (j + 1) = (ps.drop (j + 1)).map putL := by
    unfold turnL
    refine List.ext_getElem? fun k => ?_
    rw [List.getElem?_drop, List.getElem?_map, List.getElem?_drop, List.getElem?_modify, List.getElem?_map]
    have : j ≠ j + 1 + k := by omega
    simp [this]
  have hlt : j < (turnL ps j a y).length := by rw [turnL_len]; exact hj
  have e : turnL ps j a y = (turnL ps j a y).take j ++ (turnL ps j a y)[j] :: (turnL ps j a y).drop (j + 1) := by
    rw [← List.drop_eq_getElem_cons hlt, List.take_append_drop]
  rw [List.getElem?_eq_getElem hlt] at h1
  injection h1 with h1
  have e2 := congrArg List.flatten e
  rw [List.flatten_append, List.flatten_cons, h1, h2, turnL_take ps j a y j (Nat.le_refl _), flat_map_put] at e2
  exact e2
theorem turnL_length {ps : List (List Int)} {j a : Nat} {y : Int} (i : Nat) : (((turnL ps j a y).take i).flatten).length = (flatL (ps.take i)).length := by
  induction i with
  | zero => rfl
  | succ i ih =>
    by_cases h : i < ps.length
    · have hp := List.getElem?_eq_getElem h
      rw [flatL_take hp, List.length_append, ← ih]
      by_cases hi : i = j
      · subst hi
        rw [flat_take (turnL_at hp), List.length_append, List.length_set]
      · rw [flat_take (turnL_other hp hi), List.length_append]
    · rw [List.take_of_length_le (by rw [turnL_len]; omega), List.take_of_length_le (l := ps) (by omega)]
      rw [List.take_of_length_le (by rw [turnL_len]; omega), List.take_of_length_le (l := ps) (by omega)] at ih
      exact ih
theorem told_all {ps : List (List Int)} {j a : Nat} {y : Int} {p : List Int} (h : ps[j]? = some p) (hg : ∀ q ∈ ps, Byt q ∧ q.length ≤ 2097152) (h4 : 4 ≤ a) (ha : a < 8 + p.length) (hy : 0 ≤ y ∧ y < 256) (hn : (putL p)[a]? ≠ some y) :
    allL (turnL ps j a y).flatten = (ps.take j, (flatL (ps.take j)).length, 11) := by
  rw [turnL_flat h]
  obtain ⟨hB, hl⟩ := hg p (List.mem_of_getElem? h)
  exact allL_told (ps.take j) p _ a y (fun q hq => hg q (List.mem_of_mem_take hq)) hB hl h4 ha hy hn
/-- A byte turned by one to 255. -/
theorem turned_by (x b : Int) (x0 : 0 ≤ x) (x1 : x < 256) (b0 : 0 < b) (b1 : b < 256) : 0 ≤ bits .xor .u8 x b ∧ bits .xor .u8 x b < 256 ∧ bits .xor .u8 x b ≠ x := by
  obtain ⟨X, rfl⟩ := Int.eq_ofNat_of_zero_le x0
  obtain ⟨B, rfl⟩ := Int.eq_ofNat_of_zero_le (a := b) (by omega)
  rw [u8_xor_nat X B (by omega) (by omega)]
  have hlt : X ^^^ B < 2 ^ 8 := Nat.xor_lt_two_pow (by omega) (by omega)
  refine ⟨by omega, by omega, fun k => ?_⟩
  have k' : X ^^^ B = X := by omega
  have : B = 0 := by
    have h := congrArg (X ^^^ ·) k'
    simp only [← Nat.xor_assoc, Nat.xor_self, Nat.zero_xor] at h
    exact h
  omega

theorem under34 : Try.prog.underlying 34 = some (.slice (Try.prog.elem 34)) := by kernel_rfl
theorem size34 (W : World) : (sizeOf (Try.prog.elem 34)).run Try.prog W = .ok 1 W := by
  have h : Try.prog.elem 34 = 22 := by kernel_rfl
  obtain ⟨i, hi, hz0, hz1, hz2⟩ := info_parts info22
  rw [h]
  simp [sizeOf, typeInfo, hi, hz1]
/-- l[:k] -/
theorem list_high (A : Option Addr) (n k c : Nat) (hk : k ≤ n) (hc : n ≤ c) : ∀ W, (Instr.slice 34 (.slice A n c) none (some (.int .i64 (k : Int))) none).run Try.prog W = .ok (.slice A k c) W := fun W => by
  rw [run_slice_h (P := Try.prog) W _ A n c under34 .i64 (k : Int) (by omega) (by omega), size34]
  cases A <;> simp [Result.andThen, sliced, Addr.add]
theorem svals_take (T : List Sl) (k : Nat) : svals (T.take k) = (svals T).take k := by simp [svals, List.map_take]
theorem Lies.take {w : World} {A : Option Addr} {T : List Sl} (h : Lies w A (svals T)) (k : Nat) : Lies w A (svals (T.take k)) := by
  rw [svals_take]
  rcases h with h | ⟨ad, e, h⟩
  · rw [h]
    exact .inl (by simp)
  · refine .inr ⟨ad, e, fun j u hu => h j u ?_⟩
    rw [List.getElem?_take] at hu
    split at hu
    · exact hu
    · cases hu
/-- Frames read, alike with the first payloads that came in. -/
theorem frs_first (w0 w : World) (B : Nat) (A A' : Option Addr) (c c' n k : Nat) (T U : List Sl) (hw : Below w0.heap.size w0 w) (h : Frs B w A c k ((byts U).take k) T) (g : SIn w A' U n c') (hk : k ≤ n) :
    Calls Try.prog 18 #[.slice A k c, .slice A' k c'] w fun e w' => e = .returned (.bool true) ∧ Hid (Below w0.heap.size w0 w') ∧ Hid (Below w.heap.size w w') := by
  have hb : byts (U.take k) = (byts U).take k := by simp [byts, List.map_take]
  refine (ssame_any A A' T (U.take k) k k c c' w h.len (by rw [List.length_take, g.len]; omega) (by have := g.cap; have := g.top; omega) h.row.lies (g.lies.take k) (rows_bys h.rows) (fun s hs => (g.all s (List.mem_of_mem_take hs)).bys) (by rw [h.byt, hb])).mono ?_
  rintro e w' ⟨rfl, k, rfl⟩
  exact ⟨rfl, Lib.hid (below_drewN hw k), Lib.hid (below_drewN (Below.refl _ _) k)⟩
theorem cell_on {w w' : World} {a : Addr} {v : Value} (h : w.cell? a = some v) (hb : Below w.heap.size w w') : w'.cell? a = some v := by
  rw [hb.cell (World.block_lt_of_cell? w _ h)]
  exact h

set_option maxRecDepth 100000 in
set_option maxHeartbeats 4000000 in
theorem told_law (A : Option Addr) (T : List Sl) (n c : Nat) (at_ by_ : Int) (w : World) (h : SIn w A T n c) (ha : -9223372036854775808 ≤ at_ ∧ at_ ≤ 9223372036854775807) (hb : 0 ≤ by_ ∧ by_ < 256) :
    Calls Try.prog 7 #[.slice A n c, .int .i64 at_, .int .u8 by_] w (AllTrue w) := by
  have HI := Lib.hid h
  have HA := Lib.hid ha
  have HBY := Lib.hid hb
  have hn9 : n ≤ 1048576 := by have := h.sum; omega
  clear h ha hb
  by_cases hn : n = 0
  · have hz : ((n : Int) == 0) = true := by simp; omega
    clear hn hn9
    go_enter Try.func7, Try.ntmps7
    go_wp2_with (go_at_call 9; refine (wakes_on w _ (Below.refl _ _)).mono ?_; rintro e1 w1 ⟨rfl, b1⟩)
    go_ret
    exact ⟨rfl, b1.out⟩
  · have hz : ((n : Int) == 0) = false := by simp; omega
    have hw8 : IntKind.u64.wrap (n : Int) = (n : Int) := by simp only [IntKind.wrap_u64]; omega
    have hd0 : ¬ IntKind.u64.wrap (n : Int) = 0 := by rw [hw8]; omega
    obtain ⟨j, hj, hjn⟩ : ∃ j : Nat, wrap64 ((IntKind.u64.wrap at_).tmod (IntKind.u64.wrap (n : Int))) = (j : Int) ∧ j < n := by
      rw [hw8]
      have h1 : 0 ≤ IntKind.u64.wrap at_ := by simp only [IntKind.wrap_u64]; omega
      rw [Int.tmod_eq_emod_of_nonneg h1]
      have h2 := Int.emod_nonneg (IntKind.u64.wrap at_) (show (n : Int) ≠ 0 by omega)
      have h3 := Int.emod_lt_of_pos (IntKind.u64.wrap at_) (show (0 : Int) < (n : Int) by omega)
      generalize IntKind.u64.wrap at_ % (n : Int) = y at h2 h3
      refine ⟨y.toNat, ?_, by omega⟩
      unfold wrap64
      omega
    have hp := List.getElem?_eq_getElem (l := byts T) (i := j) (by rw [byts_len, HI.out.len]; exact hjn)
    generalize (byts T)[j]'(by rw [byts_len, HI.out.len]; exact hjn) = p at hp
    have HPJ := Lib.hid hp
    have HJ := Lib.hid hj
    have HJN := Lib.hid hjn
    have HN9 := Lib.hid hn9
    have HW8 := Lib.hid hw8
    clear hn hw8 hp hj hjn hn9
    go_enter Try.func7, Try.ntmps7
    go_upto_region 6 with (go_at_call 9; refine (wakes_on w _ (Below.refl _ _)).mono ?_; rintro e1 w1 ⟨rfl, b1⟩)
    rw [HJ.out, HW8.out]
    obtain ⟨q0, hq0⟩ : ∃ q0, p.length = q0 := ⟨_, rfl⟩
    obtain ⟨a, ha⟩ : ∃ a, 4 + by_.toNat % (q0 + 4) = a := ⟨_, rfl⟩
    have h4 : 4 ≤ a := by omega
    have ha8 : a < 8 + q0 := by
      have := Nat.mod_lt by_.toNat (show 0 < q0 + 4 by omega)
      omega
    have hgood := HI.out.good
    have hxx := List.getElem?_eq_getElem (l := putL p) (i := a) (by rw [putL_len, hq0]; exact ha8)
    generalize (putL p)[a]'(by rw [putL_len, hq0]; exact ha8) = x0 at hxx
    obtain ⟨xl, xh⟩ := putL_byt p (hgood p (List.mem_of_getElem? HPJ.out)).1 x0 (List.mem_of_getElem? hxx)
    obtain ⟨y, hy⟩ : ∃ y, bits .xor .u8 x0 (1 + by_ % 255) = y := ⟨_, rfl⟩
    obtain ⟨y0, y1, yn⟩ := turned_by x0 (1 + by_ % 255) xl xh (by have := HBY.out; omega) (by omega)
    rw [hy] at y0 y1 yn
    have HT : Hid (allL (turnL (byts T) j a y).flatten = ((byts T).take j, (flatL ((byts T).take j)).length, 11)) := Lib.hid (told_all HPJ.out hgood h4 (by rw [hq0]; exact ha8) ⟨y0, y1⟩ (by rw [hxx]; intro e; injection e with e; exact yn e.symm))
    obtain ⟨K, hK⟩ : ∃ K, (flatL ((byts T).take j)).length = K := ⟨_, rfl⟩
    rw [hK] at HT
    have HK := Lib.hid hK
    have HQ0 := Lib.hid hq0
    have HA4 := Lib.hid (And.intro ha (And.intro h4 ha8))
    have HXX := Lib.hid hxx
    have HY := Lib.hid (And.intro hy (And.intro y0 y1))
    clear hd0 hq0 ha h4 ha8 hgood hxx xl xh hy y0 y1 yn hK
    go_wp2_with fail
    go_loopw [8, 9, 31] (fun t8 t9 t31 wr => ∃ (i k kv : Nat) (A' : Option Addr) (c' : Nat), i ≤ n ∧ t31 = .int .i64 i ∧ t8 = .slice A' k c' ∧ t9 = .int .i64 kv ∧ Hid ((((turnL (byts T) j a y).take i).flatten).length = k) ∧ Hid (Row wr w.heap.size A' c' ((turnL (byts T) j a y).take i).flatten) ∧ Hid (Below w.heap.size w wr) ∧ Hid (kv = if j < i then K else 0)) (fun _ _ t31 _ => n - (intOf t31).toNat)
    case atStart => exact ⟨0, 0, 0, none, 0, by omega, rfl, rfl, rfl, Lib.hid rfl, Lib.hid (Row.nil _ _), b1, Lib.hid (by simp)⟩
    case round =>
      obtain ⟨i, k, kv, A', c', hi, rfl, rfl, rfl, hk, hr, hb, hkv⟩ := hrel
      by_cases hlt : i < n
      · have hs := List.getElem?_eq_getElem (l := T) (i := i) (by have := HI.out.len; omega)
        generalize T[i]'(by have := HI.out.len; omega) = s at hs
        have hmem := List.mem_of_getElem? hs
        obtain ⟨ad, rfl, a0⟩ := lies_at (HI.out.lies.kept hb.out) hs
        have IS := Lib.hid ((HI.out.all s hmem).kept hb.out)
        have HL := Lib.hid (HI.out.short hmem)
        have hbt := Lib.hid (byts_of hs)
        have HB := Lib.hid (HI.out.all s hmem).byt
        obtain ⟨sa, sc, sl⟩ := s
        simp only at a0 IS HL HB hbt
        obtain ⟨q, hq⟩ : ∃ q, sl.length = q := ⟨_, rfl⟩
        have HQ := Lib.hid hq
        rw [hq] at a0 IS HL
        have HPF := Lib.hid (put_fine (L := sl) (by rw [hq]; exact HL.out))
        have HPL : Hid ((putL sl).length = 8 + q) := Lib.hid (by rw [putL_len, hq])
        have hkb : Hid (k ≤ 9437184) := Lib.hid (by rw [← hk.out, turnL_length]; exact HI.out.part i)
        have hn9 : (n : Int) ≤ 1048576 := by have := HN9.out; omega
        clear hs hmem hq
        by_cases hlong : 300 < q
        · have hl1 : (300 : Int) < q := by omega
          clear hlong
          go_wp2_with fail
          go_ret
          exact ⟨rfl, hb.out⟩
        · have hl1 : decide ((300 : Int) < (q : Int)) = false := by simp; omega
          have hq3 : (q : Int) ≤ 300 := by omega
          have hw8 : wrap64 ((q : Int) + 8) = 8 + (q : Int) := by unfold wrap64; omega
          clear hlong
          by_cases hij : i = j
          · have hij' : ((i : Int) == (j : Int)) = true := by simp; omega
            have HIJ := Lib.hid hij
            clear hij
            go_upto_region 18 with (first
              | (go_at_call 11; refine (own_on w _ sa sl q sc hb.out HQ.out IS.out.bys (by have := HL.out; omega)).mono ?_; rintro e2 w2 ⟨A2, c2, rfl, r2, k2, b2⟩)
              | (go_at_call 19; refine (put_on w _ A2 sl q c2 (putL sl, 0) HPF.out (8 + q) HPL.out b2.out (r2.out.in_n HB.out HQ.out)).mono ?_; rintro e3 w3 ⟨A3, c3, rfl, r3, k3, b3⟩; have a3 := cell_on a0 (k2.out.trans (k3.out.mono k2.out.size))))
            go_upto_region 19 with fail
            have esl : sl = p := by
              have h1 := hbt.out
              rw [HIJ.out, HPJ.out] at h1
              injection h1 with h1
              exact h1.symm
            have eq : q = q0 := by rw [← HQ.out, esl, HQ0.out]
            have haw : wrap64 (4 + (wrap64 by_).tmod (8 + (q : Int) - 4)) = (a : Int) := by
              obtain ⟨ha, -, -⟩ := HA4.out
              have hb1 := HBY.out
              have e1 : wrap64 by_ = by_ := by unfold wrap64; omega
              rw [e1, Int.tmod_eq_emod_of_nonneg hb1.1, show (8 : Int) + (q : Int) - 4 = (q : Int) + 4 by omega, eq]
              have e2 : by_ % ((q0 : Int) + 4) = ((by_.toNat % (q0 + 4) : Nat) : Int) := by
                have : by_ = ((by_.toNat : Nat) : Int) := by omega
                conv => lhs; rw [this]
                simp
              rw [e2]
              have := Nat.mod_lt by_.toNat (show 0 < q0 + 4 by omega)
              unfold wrap64
              omega
            rw [haw]
            clear haw
            obtain ⟨g, v, rfl, hv, d0, f0, hset⟩ := row_at (k := a) r3.out (by rw [HPL.out, eq]; exact HA4.out.2.2)
            have ev : v = x0 := by
              rw [esl, HXX.out] at hv
              injection hv with hv
              exact hv.symm
            subst ev
            have HSET := Lib.hid hset
            have ha9 : (a : Int) < 8 + (q : Int) := by have := HA4.out; omega
            clear hset hv
            have HE := Lib.hid (And.intro esl eq)
            clear esl eq
            have hyy : bits .xor .u8 v ((1 + by_.tmod 255) % 256) = y := by
              have hb1 := HBY.out
              rw [Int.tmod_eq_emod_of_nonneg hb1.1, show (1 + by_ % 255) % 256 = 1 + by_ % 255 by omega]
              exact HY.out.1
            have hg := (own_in r3.out _ rfl).1
            have R5 : Hid (Row (w3.setCell ⟨g, a, none⟩ (.int .u8 y)) w2.heap.size (some ⟨g, 0, none⟩) c3 ((putL sl).set a y)) := Lib.hid (HSET.out y)
            have K5 : Hid (Below wr.heap.size wr (w3.setCell ⟨g, a, none⟩ (.int .u8 y))) := Lib.hid ((k2.out.trans (k3.out.mono k2.out.size)).setCell (p := ⟨g, a, none⟩) (by have := k2.out.size; simp only at hg ⊢; omega) _)
            have B5 : Hid (Below w.heap.size w (w3.setCell ⟨g, a, none⟩ (.int .u8 y))) := Lib.hid (hb.out.trans (K5.out.mono hb.out.size))
            have L5 : Hid (((putL sl).set a y).length = 8 + q) := Lib.hid (by rw [List.length_set, HPL.out])
            have HG : Hid (((turnL (byts T) j a y).take (i + 1)).flatten = ((turnL (byts T) j a y).take i).flatten ++ (putL sl).set a y) := Lib.hid (flat_take (by rw [HIJ.out]; exact turnL_at (by rw [HPJ.out, HE.out.1])))
            have HKK : Hid (k = K) := Lib.hid (by rw [← hk.out, turnL_length, HIJ.out, HK.out])
            clear hg
            go_upto_region 20 with fail
            clear hyy
            go_wp2_with (at_builtin; refine wpList_append_row _ rfl (.tmp 81) (.tmp 82) rfl w.heap.size A' c' ((turnL (byts T) j a y).take i).flatten ((putL sl).set a y) _ k (8 + q) c3 rfl rfl hk.out L5.out (hr.out.kept K5.out (Nat.le_refl _)) R5.out.lies B5.out.size (by rw [hk.out, L5.out]; have := hkb.out; have := HL.out; omega) ?_; intro A6 c6 w6 r6 b6; have R6 := Lib.hid r6; have B6 := Lib.hid (B5.out.trans b6); clear r6 b6)
            go_roundw
            case rel => exact ⟨i + 1, k + (8 + q), k, A6, c6, by omega, by go_num, rfl, rfl, Lib.hid (by rw [HG.out, List.length_append, hk.out, L5.out]), Lib.hid (by rw [HG.out]; exact R6.out), B6, Lib.hid (by rw [if_pos (by have := HIJ.out; omega)]; exact HKK.out)⟩
            case measure => simp [intOf]; omega
          · have hij' : ((i : Int) == (j : Int)) = false := by simp; omega
            have HIJ := Lib.hid hij
            have HG : Hid (((turnL (byts T) j a y).take (i + 1)).flatten = ((turnL (byts T) j a y).take i).flatten ++ putL sl) := Lib.hid (flat_take (turnL_other hbt.out hij))
            clear hij
            go_wp2_with (first
              | (go_at_call 11; refine (own_on w _ sa sl q sc hb.out HQ.out IS.out.bys (by have := HL.out; omega)).mono ?_; rintro e2 w2 ⟨A2, c2, rfl, r2, k2, b2⟩)
              | (go_at_call 19; refine (put_on w _ A2 sl q c2 (putL sl, 0) HPF.out (8 + q) HPL.out b2.out (r2.out.in_n HB.out HQ.out)).mono ?_; rintro e3 w3 ⟨A3, c3, rfl, r3, k3, b3⟩; have a3 := cell_on a0 (k2.out.trans (k3.out.mono k2.out.size)))
              | (at_builtin; refine wpList_append_row _ rfl (.tmp 81) (.tmp 82) rfl w.heap.size A' c' ((turnL (byts T) j a y).take i).flatten (putL sl) A3 k (8 + q) c3 rfl rfl hk.out HPL.out (hr.out.kept (k2.out.trans (k3.out.mono k2.out.size)) (Nat.le_refl _)) r3.out.lies b3.out.size (by rw [hk.out, HPL.out]; have := hkb.out; have := HL.out; omega) ?_; intro A6 c6 w6 r6 b6; have R6 := Lib.hid r6; have B6 := Lib.hid (b3.out.trans b6); clear r6 b6))
            go_roundw
            case rel => exact ⟨i + 1, k + (8 + q), kv, A6, c6, by omega, by go_num, rfl, rfl, Lib.hid (by rw [HG.out, List.length_append, hk.out, HPL.out]), Lib.hid (by rw [HG.out]; exact R6.out), B6, Lib.hid (by
                rw [hkv.out]
                have := HIJ.out
                by_cases hji : j < i
                · rw [if_pos hji, if_pos (by omega)]
                · rw [if_neg hji, if_neg (by omega)])⟩
            case measure => simp [intOf]; omega
      · obtain rfl : i = n := by omega
        have e0 : (turnL (byts T) j a y).take i = turnL (byts T) j a y := List.take_of_length_le (by rw [turnL_len, byts_len, HI.out.len]; omega)
        rw [e0] at hk hr
        obtain ⟨F, hF⟩ : ∃ F, (turnL (byts T) j a y).flatten = F := ⟨_, rfl⟩
        have hkb : Hid (k ≤ 9437184) := Lib.hid (by
          have h1 := turnL_length (ps := byts T) (j := j) (a := a) (y := y) i
          rw [e0, hk.out] at h1
          rw [h1]
          exact HI.out.part i)
        have FB : Hid (Byt F) := Lib.hid (by
          rw [← hF, turnL_flat HPJ.out]
          have hg := HI.out.good
          refine (flatL_byt _ (fun p hp => (hg p (List.mem_of_mem_take hp)).1)).append (Byt.append (fun z hz => ?_) (flatL_byt _ (fun p hp => (hg p (List.mem_of_mem_drop hp)).1)))
          rcases List.mem_or_eq_of_mem_set hz with hz | rfl
          · exact putL_byt p (hg p (List.mem_of_getElem? HPJ.out)).1 z hz
          · exact HY.out.2)
        rw [hF] at hk hr HT
        have LT : Hid (((byts T).take j).length = j) := Lib.hid (by rw [List.length_take, byts_len, HI.out.len]; have := HJN.out; omega)
        have hkK : kv = K := by rw [hkv.out, if_pos HJN.out]
        have hsl := list_high A i j c (by have := HJN.out; omega) HI.out.cap
        subst hkK
        have hjn' : Hid (j ≤ i) := Lib.hid (by have := HJN.out; omega)
        clear e0 hF hlt
        go_wp2_with (first
          | (go_at_call 11; refine (own_on w _ A' F k c' hb.out hk.out hr.out.lies (by have := hkb.out; omega)).mono ?_; rintro e2 w2 ⟨A2, c2, rfl, r2, k2, b2⟩)
          | (go_at_call 15; refine (all_on w _ A2 F k c2 ((byts T).take j, kv, 11) HT.out j LT.out (by have := hkb.out; omega) b2.out (r2.out.in_n FB.out hk.out)).mono ?_; rintro e3 w3 ⟨A3, c3, T3, rfl, f3, k3, b3⟩)
          | (go_at_call 18; refine (frs_first w _ _ A3 A c3 c i j T3 T b3.out f3.out (HI.out.kept b3.out) hjn'.out).mono ?_; rintro e4 w4 ⟨rfl, b4, k4⟩))
        go_ret
        exact ⟨by simp, b4.out⟩

end Go.Proofs.Ytefkibflellfpaa
