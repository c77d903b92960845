/-
  The law FrameBack.
-/
import Derived.Test.YtefkibflellfpaaLawC
import Derived.Test.YtefkibflellfpaaMemK
namespace Go.Proofs.Ytefkibflellfpaa
open Go.RowKit

/-- A slice of slices that comes in. -/
structure SIn (w : World) (A : Option Addr) (T : List Sl) (n c : Nat) : Prop where
  len : T.length = n
  cap : n ≤ c
  top : (c : Int) ≤ 9223372036854775807
  lies : Lies w A (svals T)
  all : AllIn w T
  sum : (byts T).flatten.length + n ≤ 1048576
theorem SIn.kept {w w' : World} {A : Option Addr} {T : List Sl} {n c : Nat} (h : SIn w A T n c) (hb : Below w.heap.size w w') : SIn w' A T n c := ⟨h.len, h.cap, h.top, h.lies.kept hb, h.all.kept hb, h.sum⟩
theorem flat_ge {l : List (List Int)} {p : List Int} (h : p ∈ l) : p.length ≤ l.flatten.length := by
  induction l with
  | nil => cases h
  | cons q l ih =>
    rw [List.flatten_cons, List.length_append]
    rcases List.mem_cons.1 h with rfl | h
    · omega
    · have := ih h
      omega
theorem SIn.short {w : World} {A : Option Addr} {T : List Sl} {n c : Nat} (h : SIn w A T n c) {s : Sl} (hs : s ∈ T) : s.l.length ≤ 1048576 := by
  have := flat_ge (l := byts T) (p := s.l) (List.mem_map_of_mem hs)
  have := h.sum
  omega
theorem flatL_len : ∀ ps : List (List Int), (flatL ps).length = 8 * ps.length + ps.flatten.length
  | [] => rfl
  | p :: ps => by
    rw [flatL, List.length_append, putL_len, flatL_len ps, List.flatten_cons, List.length_append, List.length_cons]
    omega
theorem flatL_byt : ∀ ps : List (List Int), (∀ p ∈ ps, Byt p) → Byt (flatL ps)
  | [], _ => Byt.nil
  | p :: ps, h => (putL_byt p (h p (by simp))).append (flatL_byt ps (fun q hq => h q (List.mem_cons_of_mem _ hq)))
theorem flatten_take_le (l : List (List Int)) (i : Nat) : (l.take i).flatten.length ≤ l.flatten.length := by
  conv => rhs; rw [← List.take_append_drop i l, List.flatten_append, List.length_append]
  omega
theorem SIn.part {w : World} {A : Option Addr} {T : List Sl} {n c : Nat} (h : SIn w A T n c) (i : Nat) : (flatL ((byts T).take i)).length ≤ 9437184 := by
  rw [flatL_len, List.length_take, byts_len, h.len]
  have := flatten_take_le (byts T) i
  have := h.sum
  omega
theorem SIn.good {w : World} {A : Option Addr} {T : List Sl} {n c : Nat} (h : SIn w A T n c) : ∀ p ∈ byts T, Byt p ∧ p.length ≤ 2097152 := fun p hp => by
  obtain ⟨s, hs, rfl⟩ := List.mem_map.1 hp
  exact ⟨(h.all s hs).byt, by have := h.short hs; omega⟩
theorem flatL_take {l : List (List Int)} {k : Nat} {s : List Int} (h : l[k]? = some s) : flatL (l.take (k + 1)) = flatL (l.take k) ++ putL s := by
  rw [List.take_add_one, h, flatL_append]
  simp [flatL]
/-- A payload that came in, put, on the way. -/
theorem put_fine {L : List Int} (h : L.length ≤ 1048576) : putP L = (putL L, 0) := putP_ok (by omega)

/-- Frames read, alike with the payloads that came in. -/
theorem frs_in (w0 w : World) (B : Nat) (A A' : Option Addr) (c c' n : Nat) (T U : List Sl) (hw : Below w0.heap.size w0 w) (h : Frs B w A c n (byts U) T) (g : SIn w A' U n c') :
    Calls Try.prog 18 #[.slice A n c, .slice A' n c'] w fun e w' => e = .returned (.bool true) ∧ Hid (Below w0.heap.size w0 w') ∧ Hid (Below w.heap.size w w') := by
  refine (ssame_any A A' T U n n c c' w h.len g.len (by have := g.cap; have := g.top; omega) h.row.lies g.lies (rows_bys h.rows) g.all.bys h.byt).mono ?_
  rintro e w' ⟨rfl, k, rfl⟩
  exact ⟨rfl, Lib.hid (below_drewN hw k), Lib.hid (below_drewN (Below.refl _ _) k)⟩

set_option maxRecDepth 100000 in
set_option maxHeartbeats 4000000 in
theorem back_law (A C : Option Addr) (T : List Sl) (X : List Int) (n c m d : Nat) (w : World) (h : SIn w A T n c) (g : In w C X m d) (hm : m ≤ 1048576) :
    Calls Try.prog 6 #[.slice A n c, .slice C m d] w (AllTrue w) := by
  have HI := Lib.hid h
  have HJ := Lib.hid g
  have HM := Lib.hid hm
  clear h g hm
  go_enter Try.func6, Try.ntmps6
  go_upto_region 3 with (go_at_call 9; refine (wakes_on w _ (Below.refl _ _)).mono ?_; rintro e1 w1 ⟨rfl, b1⟩)
  go_wp2_with fail
  go_loopw [5, 16] (fun t5 t16 wr => ∃ (i k : Nat) (A' : Option Addr) (c' : Nat), i ≤ n ∧ t16 = .int .i64 i ∧ t5 = .slice A' k c' ∧ Hid ((flatL ((byts T).take i)).length = k) ∧ Hid (Row wr w.heap.size A' c' (flatL ((byts T).take i))) ∧ Hid (Below w.heap.size w wr)) (fun _ t16 _ => n - (intOf t16).toNat)
  case atStart => exact ⟨0, 0, none, 0, by omega, rfl, rfl, Lib.hid rfl, Lib.hid (Row.nil _ _), b1⟩
  case round =>
    obtain ⟨i, k, A', c', hi, rfl, rfl, hk, hr, hb⟩ := hrel
    by_cases hlt : i < n
    · have hs := List.getElem?_eq_getElem (l := T) (i := i) (by have := HI.out.len; omega)
      generalize T[i]'(by have := HI.out.len; omega) = s at hs
      have hmem := List.mem_of_getElem? hs
      obtain ⟨ad, rfl, a0⟩ := lies_at (HI.out.lies.kept hb.out) hs
      have IS := Lib.hid ((HI.out.all s hmem).kept hb.out)
      have HL := Lib.hid (HI.out.short hmem)
      have HF := Lib.hid (flatL_take (byts_of hs))
      have HB := Lib.hid (HI.out.all s hmem).byt
      obtain ⟨sa, sc, sl⟩ := s
      simp only at a0 IS HL HF HB
      obtain ⟨q, hq⟩ : ∃ q, sl.length = q := ⟨_, rfl⟩
      have HQ := Lib.hid hq
      rw [hq] at a0 IS HL
      have HPF := Lib.hid (put_fine (L := sl) (by rw [hq]; exact HL.out))
      have HPL : Hid ((putL sl).length = 8 + q) := Lib.hid (by rw [putL_len, hq])
      have hkb : Hid (k ≤ 9437184) := Lib.hid (by rw [← hk.out]; exact HI.out.part i)
      have hn9 : (n : Int) ≤ 1048576 := by have := HI.out.sum; omega
      clear hs hmem hq
      go_wp2_with (first
        | (go_at_call 11; refine (own_on w _ sa sl q sc hb.out HQ.out IS.out.bys (by have := HL.out; omega)).mono ?_; rintro e2 w2 ⟨A2, c2, rfl, r2, k2, b2⟩)
        | (go_at_call 19; refine (put_on w _ A2 sl q c2 (putL sl, 0) HPF.out (8 + q) HPL.out b2.out (r2.out.in_n HB.out HQ.out)).mono ?_; rintro e3 w3 ⟨A3, c3, rfl, r3, k3, b3⟩)
        | (at_builtin; refine wpList_append_row _ rfl (.tmp 36) (.tmp 37) rfl w.heap.size A' c' (flatL ((byts T).take i)) (putL sl) A3 k (8 + q) c3 rfl rfl hk.out HPL.out (hr.out.kept (k2.out.trans (k3.out.mono k2.out.size)) (Nat.le_refl _)) r3.out.lies b3.out.size (by rw [hk.out, HPL.out]; have := hkb.out; have := HL.out; omega) ?_; intro A4 c4 w4 r4 b4; have R4 := Lib.hid r4; have B4 := Lib.hid (b3.out.trans b4); clear r4 b4))
      go_roundw
      case rel => exact ⟨i + 1, k + (8 + q), A4, c4, by omega, by go_num, rfl, Lib.hid (by rw [HF.out, List.length_append, hk.out, HPL.out]), Lib.hid (by rw [HF.out]; exact R4.out), B4⟩
      case measure => simp [intOf]; omega
    · obtain rfl : i = n := by omega
      have e0 : (byts T).take i = byts T := List.take_of_length_le (by rw [byts_len, HI.out.len]; omega)
      rw [e0] at hk hr
      obtain ⟨F, hF⟩ : ∃ F, flatL (byts T) = F := ⟨_, rfl⟩
      have FB : Hid (Byt F) := Lib.hid (by rw [← hF]; exact flatL_byt _ (fun p hp => (HI.out.good p hp).1))
      have P1 : Hid (allL F = (byts T, k, 0)) := Lib.hid (by rw [← hF, allL_back _ HI.out.good, hk.out])
      have P2 : Hid (X ≠ [] → X.length < 8 → allL (F ++ X) = (byts T, k, 10)) := Lib.hid (fun h0 h8 => by rw [← hF, allL_behind _ X HI.out.good h0 h8, hk.out])
      have hkb : Hid (k ≤ 9437184) := Lib.hid (by rw [← hk.out]; have := HI.out.part i; rwa [e0] at this)
      rw [hF] at hk hr
      have LT : Hid ((byts T).length = i) := Lib.hid (by rw [byts_len]; exact HI.out.len)
      clear e0 hF hlt
      by_cases hmm : m < 1 ∨ 7 < m
      · have hd : ((m : Int) < 1) ∨ ((m : Int) < 1 → False) ∧ (7 : Int) < m := by omega
        rcases hd with hd | ⟨hd1, hd2⟩
        · clear hmm
          go_wp2_with (first
            | (go_at_call 11; refine (own_on w _ A' F k c' hb.out hk.out hr.out.lies (by have := hkb.out; omega)).mono ?_; rintro e2 w2 ⟨A2, c2, rfl, r2, k2, b2⟩)
            | (go_at_call 15; refine (all_on w _ A2 F k c2 (byts T, k, 0) P1.out i LT.out (by have := hkb.out; omega) b2.out (r2.out.in_n FB.out hk.out)).mono ?_; rintro e3 w3 ⟨A3, c3, T3, rfl, f3, k3, b3⟩)
            | (go_at_call 18; refine (frs_in w _ _ A3 A c3 c i T3 T b3.out f3.out (HI.out.kept b3.out)).mono ?_; rintro e4 w4 ⟨rfl, b4, k4⟩))
          go_ret
          exact ⟨by simp, b4.out⟩
        · have hd1' : decide ((m : Int) < 1) = false := by simpa using hd1
          clear hmm hd1
          go_wp2_with (first
            | (go_at_call 11; refine (own_on w _ A' F k c' hb.out hk.out hr.out.lies (by have := hkb.out; omega)).mono ?_; rintro e2 w2 ⟨A2, c2, rfl, r2, k2, b2⟩)
            | (go_at_call 15; refine (all_on w _ A2 F k c2 (byts T, k, 0) P1.out i LT.out (by have := hkb.out; omega) b2.out (r2.out.in_n FB.out hk.out)).mono ?_; rintro e3 w3 ⟨A3, c3, T3, rfl, f3, k3, b3⟩)
            | (go_at_call 18; refine (frs_in w _ _ A3 A c3 c i T3 T b3.out f3.out (HI.out.kept b3.out)).mono ?_; rintro e4 w4 ⟨rfl, b4, k4⟩))
          go_ret
          exact ⟨by simp, b4.out⟩
      · have hd1 : decide ((m : Int) < 1) = false := by simp; omega
        have hd2 : decide ((7 : Int) < m) = false := by simp; omega
        have P3 : Hid (allL (F ++ X) = (byts T, k, 10)) := Lib.hid (P2.out (fun e => by have := HJ.out.len; rw [e] at this; simp at this; omega) (by rw [HJ.out.len]; omega))
        have LX : Hid ((F ++ X).length = k + m) := Lib.hid (by rw [List.length_append, hk.out, HJ.out.len])
        have hm7 : Hid (m ≤ 7) := Lib.hid (by omega)
        clear hmm
        go_upto_region 17 with (first
          | (go_at_call 11; refine (own_on w _ A' F k c' hb.out hk.out hr.out.lies (by have := hkb.out; omega)).mono ?_; rintro e2 w2 ⟨A2, c2, rfl, r2, k2, b2⟩)
          | (go_at_call 15; refine (all_on w _ A2 F k c2 (byts T, k, 0) P1.out i LT.out (by have := hkb.out; omega) b2.out (r2.out.in_n FB.out hk.out)).mono ?_; rintro e3 w3 ⟨A3, c3, T3, rfl, f3, k3, b3⟩)
          | (go_at_call 18; refine (frs_in w _ _ A3 A c3 c i T3 T b3.out f3.out (HI.out.kept b3.out)).mono ?_; rintro e4 w4 ⟨rfl, b4, k4⟩; have r5 := Lib.hid (hr.out.kept (k2.out.trans ((k3.out.trans (k4.out.mono k3.out.size)).mono k2.out.size)) (Nat.le_refl _))))
        go_wp2_with (first
          | (go_at_call 11; refine (own_on w _ A' F k c' b4.out hk.out r5.out.lies (by have := hkb.out; omega)).mono ?_; rintro e6 w6 ⟨A6, c6, rfl, r6, k6, b6⟩)
          | (at_builtin; refine wpList_append_row _ rfl (.tmp 71) (.tmp 72) rfl w4.heap.size A6 c6 F X C k m d rfl rfl hk.out HJ.out.len r6.out (HJ.out.bys.kept b6.out) k6.out.size (by rw [hk.out, HJ.out.len]; have := hkb.out; have := hm7.out; omega) ?_; intro A7 c7 w7 r7 k7; have R7 := Lib.hid r7; have B7 := Lib.hid (b4.out.trans ((k6.out.trans k7).mono b4.out.size)); clear r7 k7)
          | (go_at_call 15; refine (all_on w _ A7 (F ++ X) (k + m) c7 (byts T, k, 10) P3.out i LT.out (by have := hkb.out; have := hm7.out; omega) B7.out (R7.out.in_n (FB.out.append HJ.out.byt) LX.out)).mono ?_; rintro e8 w8 ⟨A8, c8, T8, rfl, f8, k8, b8⟩)
          | (go_at_call 18; refine (frs_in w _ _ A8 A c8 c i T8 T b8.out f8.out (HI.out.kept b8.out)).mono ?_; rintro e9 w9 ⟨rfl, b9, k9⟩))
        go_ret
        exact ⟨by simp, b9.out⟩

end Go.Proofs.Ytefkibflellfpaa
