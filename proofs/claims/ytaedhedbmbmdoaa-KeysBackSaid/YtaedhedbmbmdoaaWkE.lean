/-
  Walks: the reader: a number, a text.
-/
import Derived.Test.YtaedhedbmbmdoaaWkD
import Derived.Test.YtaedhedbmbmdoaaWkB
namespace Go.Proofs.Ytaedhedbmbmdoaa
open Go.RowKit

theorem back_eq64 (v : Int) (h0 : 0 ≤ v) (h1 : v < 18446744073709551616) : wrap64 (bits .xor .u64 v 9223372036854775808) = v - 9223372036854775808 := by
  rw [turn_bit v h0 h1]
  unfold wrap64
  omega

set_option maxHeartbeats 1000000 in
theorem number_long (w : World) (B g : Nat) (A : Option Addr) (c : Nat) (L : List Int) (h : Rd w B g A c L) (hl : 8 ≤ L.length) :
    Calls Try.prog 40 #[.pointer (some ⟨g, 0, none⟩)] w (Went w B g (.int .i64 (valF 0 (L.take 8) - 9223372036854775808)) (L.drop 8)) := by
  have HR := Lib.hid h
  clear h
  go_enter Try.func40, Try.ntmps40
  go_wp2_with fail
  go_loopw [3, 4] (fun t3 t4 wr => ∃ (k : Nat), k ≤ 8 ∧ t4 = .int .i64 k ∧ t3 = .int .u64 (valF 0 (L.take k)) ∧ (∃ A' c', Hid (Rd wr B g A' c' (L.drop k))) ∧ Hid (BelowX w.heap.size g w wr)) (fun _ t4 _ => 8 - (intOf t4).toNat)
  case atStart => exact ⟨0, by omega, rfl, rfl, ⟨A, c, HR⟩, Lib.hid (BelowX.refl _ _ _)⟩
  case round =>
    obtain ⟨k, hk, rfl, rfl, ⟨A', c', r1⟩, b1⟩ := hrel
    have HV := Lib.hid (valF_in k (L.take k) (by simp; omega) (HR.out.byt.take k))
    by_cases hlt : k < 8
    · have hkl : k < L.length := by omega
      have hd := List.drop_eq_getElem_cons hkl
      have hx := List.getElem?_eq_getElem hkl
      have HX := Lib.hid (HR.out.byt _ (List.getElem_mem hkl))
      have ht : valF 0 (L.take (k + 1)) = valF 0 (L.take k) * 256 + L[k] := by rw [List.take_add_one, hx]; exact valF_snoc 0 _ _
      generalize L[k] = x at hd hx HX ht
      have r2 := r1.out
      rw [hd] at r2
      have HN := Lib.hid (next_cons wr B g A' c' x _ r2)
      have HE : Hid (bits .or .u64 (valF 0 (L.take k) * 256) x = valF 0 (L.take (k + 1))) := Lib.hid (by
        have := pow256 k (by omega)
        rw [ht]
        exact or_byte _ _ HV.out.1 (by have := HV.out.2; omega) HX.out.1 HX.out.2)
      have hv0 := HV.out.1
      have hv1 : valF 0 (L.take k) < 72057594037927936 := by have := pow256 k (by omega); have := HV.out.2; omega
      have q0 := HX.out.1
      have q1 := HX.out.2
      generalize valF 0 (L.take k) = v at hv0 hv1 HE
      clear hd hx ht r2 HV
      go_wp2_with (go_at_call 39; refine HN.out.mono ?_; rintro e w1 ⟨rfl, hr, hb⟩; have R := Lib.hid hr; have B1 := Lib.hid (b1.out.trans (hb.mono b1.out.size)); clear hr hb)
      go_roundw
      case rel => exact ⟨k + 1, by omega, by go_num, int_val HE.out, by obtain ⟨A2, c2, r⟩ := R.out; exact ⟨A2, c2, Lib.hid r⟩, B1⟩
      case measure => simp [intOf]; omega
    · obtain rfl : k = 8 := by omega
      have hv0 := HV.out.1
      have hv1 : valF 0 (L.take 8) < 18446744073709551616 := HV.out.2
      obtain ⟨v, hv⟩ : ∃ v, valF 0 (L.take 8) = v := ⟨_, rfl⟩
      rw [hv] at hv0 hv1 ⊢
      have HE := Lib.hid (back_eq64 v hv0 hv1)
      have HV2 := Lib.hid hv
      clear hv HV
      go_wp2_with fail
      go_ret
      exact ⟨by rw [HV2.out]; exact ret_int HE.out, ⟨A', c', r1.out⟩, b1.out⟩

/-- What is left to read of a text, told by what was left ahead. -/
def Left (L T R : List Int) : Prop := (unesc L).2 = (unesc R).2 ∧ ((unesc R).2.2 = 0 → (unesc L).1 = T ++ (unesc R).1)
theorem Left.refl (L : List Int) : Left L [] L := ⟨rfl, fun _ => rfl⟩
theorem Left.other {L T R : List Int} {x : Int} (h : Left L T (x :: R)) (hx : x ≠ 0) : Left L (T ++ [x]) R := by
  obtain ⟨h1, h2⟩ := unesc_other x hx R
  refine ⟨h.1.trans h1, fun e => ?_⟩
  rw [h.2 (by rw [h1]; exact e), h2 e]
  simp
theorem Left.zero {L T R : List Int} (h : Left L T (0 :: 255 :: R)) : Left L (T ++ [0]) R := by
  have e0 := unesc_zero R
  refine ⟨by rw [h.1, e0], fun e => ?_⟩
  rw [h.2 (by rw [e0]; exact e), e0]
  simp
theorem Left.end_ {L T R : List Int} (h : Left L T (0 :: 1 :: R)) : unesc L = (T, R, 0) := by
  have e0 := unesc_end R
  refine Prod.ext ?_ (by rw [h.1, e0])
  rw [h.2 (by rw [e0]), e0]
  simp
theorem Left.nil {L T : List Int} (h : Left L T []) : (unesc L).2.2 = 10 := by rw [h.1]; rfl
theorem Left.zero_nil {L T : List Int} (h : Left L T [0]) : (unesc L).2.2 = 10 := by rw [h.1]; rfl
theorem Left.bad {L T R : List Int} {y : Int} (h : Left L T (0 :: y :: R)) (h1 : y ≠ 1) (h2 : y ≠ 255) : (unesc L).2.2 = 11 := by rw [h.1, unesc_bad y R h1 h2]

/-- What a reader of a text answers. -/
def Texted (w : World) (B g : Nat) (u : List Int × List Int × Int) (e : Ending) (w' : World) : Prop :=
  if u.2.2 = 0 then Went w B g (.string (strOfNums (u.1.take 65))) u.2.1 e w' else Broke w B u.2.2 e w'
theorem take_keep (T : List Int) (x : Int) (h : (T.take 65).length ≤ 64) : T.take 65 ++ [x] = (T ++ [x]).take 65 := by
  rw [List.length_take] at h
  rw [List.take_of_length_le (by omega), List.take_of_length_le (by simp; omega)]
theorem take_full (T : List Int) (x : Int) (h : ¬ (T.take 65).length ≤ 64) : T.take 65 = (T ++ [x]).take 65 := by
  rw [List.length_take] at h
  rw [List.take_append_of_le_length (by omega)]

theorem texted_broke {w w' : World} {B g : Nat} {u : List Int × List Int × Int} {n : Int} (hn : u.2.2 = n) (h0 : n ≠ 0) (hb : Below B w w') : Texted w B g u (broke n) w' := by
  unfold Texted
  rw [hn, if_neg h0]
  exact ⟨rfl, hb⟩
/-- How much is left. -/
def restOf (w : World) (g : Nat) : Nat := match w.cell? ⟨g, 0, none⟩ with | some (.slice _ n _) => n | _ => 0
theorem Rd.rest {w : World} {B g : Nat} {A : Option Addr} {c : Nat} {L : List Int} (h : Rd w B g A c L) : restOf w g = L.length := by
  unfold restOf
  rw [h.at_.1]
theorem Row.keptx {w w' : World} {B C g : Nat} {A : Option Addr} {c : Nat} {L : List Int} (h : Row w B A c L) (hb : BelowX C g w w') (hC : w.heap.size ≤ C) (hg : g < B) : Row w' B A c L := own_keptx h hb hC hg
/-- A read of one byte, the buffer kept. -/
theorem next_with (w0 w : World) (B g : Nat) (A : Option Addr) (c : Nat) (x : Int) (L : List Int) (A2 : Option Addr) (c2 : Nat) (T : List Int) (h : Rd w B g A c (x :: L)) (hg : g < w0.heap.size) (hb : BelowX w0.heap.size g w0 w) (hr : Row w w0.heap.size A2 c2 T) :
    Calls Try.prog 39 #[.pointer (some ⟨g, 0, none⟩)] w fun e w' => e = .returned (.int .u8 x) ∧ Hid (Row w' w0.heap.size A2 c2 T) ∧ Hid (∃ A c, Rd w' B g A c L) ∧ Hid (BelowX w0.heap.size g w0 w') :=
  (next_cons w B g A c x L h).mono fun _ _ ⟨h1, h2, h3⟩ => ⟨h1, Lib.hid (hr.keptx h3 (Nat.le_refl _) hg), Lib.hid h2, Lib.hid (hb.trans (h3.mono hb.size))⟩
theorem isEnd_with (w0 w : World) (B g : Nat) (b : Bool) (L M : List Int) (A2 : Option Addr) (c2 : Nat) (T : List Int) (h : ∃ A c, Rd w B g A c L) (hl : (b = true ∧ L = 1 :: M) ∨ (b = false ∧ L = 255 :: M)) (hg : g < w0.heap.size) (hb : BelowX w0.heap.size g w0 w) (hr : Row w w0.heap.size A2 c2 T) :
    Calls Try.prog 44 #[.pointer (some ⟨g, 0, none⟩)] w fun e w' => e = .returned (.bool b) ∧ Hid (Row w' w0.heap.size A2 c2 T) ∧ Hid (∃ A c, Rd w' B g A c M) ∧ Hid (BelowX w0.heap.size g w0 w') := by
  obtain ⟨A, c, h⟩ := h
  have key : Calls Try.prog 44 #[.pointer (some ⟨g, 0, none⟩)] w (Went w B g (.bool b) M) := by
    rcases hl with ⟨rfl, rfl⟩ | ⟨rfl, rfl⟩
    · exact isEnd_end w B g A c M h
    · exact isEnd_nought w B g A c M h
  exact key.mono fun _ _ ⟨h1, h2, h3⟩ => ⟨h1, Lib.hid (hr.keptx h3 (Nat.le_refl _) hg), Lib.hid h2, Lib.hid (hb.trans (h3.mono hb.size))⟩
theorem isEnd_broke (w0 w : World) (B g : Nat) (n : Int) (L : List Int) (h : ∃ A c, Rd w B g A c L) (hl : (n = 10 ∧ L = []) ∨ (n = 11 ∧ ∃ x M, L = x :: M ∧ x ≠ 1 ∧ x ≠ 255)) (hb : BelowX w0.heap.size g w0 w) (hg : g < w0.heap.size) (hB : B ≤ g) :
    Calls Try.prog 44 #[.pointer (some ⟨g, 0, none⟩)] w fun e w' => e = .panicked [{ v := .iface 48 (.agg #[.int .i64 n]), recovered := false }] ∧ Hid (Below B w0 w') := by
  obtain ⟨A, c, h⟩ := h
  have key : Calls Try.prog 44 #[.pointer (some ⟨g, 0, none⟩)] w (Broke w B n) := by
    rcases hl with ⟨rfl, rfl⟩ | ⟨rfl, x, M, rfl, h1, h2⟩
    · exact isEnd_nil w B g A c h
    · exact isEnd_bad w B g A c x M h h1 h2
  exact key.mono fun _ _ ⟨h1, h2⟩ => ⟨h1, Lib.hid ((hb.below (by omega) hB).trans h2)⟩

theorem rd_on {w w' : World} {B g C : Nat} {L : List Int} {o : Obj} (h : ∃ A c, Rd w B g A c L) (hb : Below C (w.alloc o) w') (hg : g < C) : ∃ A c, Rd w' B g A c L := by
  obtain ⟨A, c, h⟩ := h
  exact ⟨A, c, (h.alloc o).kept hb hg⟩
theorem rest_less {w w' : World} {B g : Nat} {A : Option Addr} {c : Nat} {L M : List Int} (h : Rd w B g A c L) (h' : ∃ A c, Rd w' B g A c M) (hl : M.length < L.length) : restOf w' g < restOf w g := by
  obtain ⟨A', c', h'⟩ := h'
  rw [h.rest, h'.rest]
  exact hl

/-- The text's loop. -/
def InText (w : World) (B g : Nat) (L : List Int) (t3 : Value) (wr : World) : Prop :=
  ∃ (T R : List Int) (m : Nat) (A2 : Option Addr) (c2 : Nat), t3 = .slice A2 m c2 ∧ m ≤ 65 ∧ (T.take 65).length = m ∧ Row wr w.heap.size A2 c2 (T.take 65) ∧ (∃ A' c', Rd wr B g A' c' R) ∧ BelowX w.heap.size g w wr ∧ Left L T R

set_option maxHeartbeats 4000000 in
theorem text_any (w : World) (B g : Nat) (A : Option Addr) (c : Nat) (L : List Int) (h : Rd w B g A c L) :
    Calls Try.prog 41 #[.pointer (some ⟨g, 0, none⟩)] w (Texted w B g (unesc L)) := by
  have HR := Lib.hid h
  have HG := Lib.hid h.lt
  have HL := Lib.hid h.low
  clear h
  obtain ⟨u, hu⟩ : ∃ u, unesc L = u := ⟨_, rfl⟩
  have HU := Lib.hid hu
  rw [hu]
  clear hu
  go_enter Try.func41, Try.ntmps41
  go_wp2_with fail
  go_loopw [3] (fun t3 wr => InText w B g L t3 wr) (fun _ wr => restOf wr g)
  case atStart => exact ⟨[], L, 0, none, 0, rfl, by omega, rfl, Row.nil _ _, ⟨A, c, HR.out⟩, BelowX.refl _ _ _, Left.refl L⟩
  case round =>
    obtain ⟨T, R, m, A2, c2, rfl, hm, hl, hrow, ⟨A', c', hrd⟩, hbx, hleft⟩ := hrel
    have HM := Lib.hid hl
    have HW := Lib.hid hrow
    have HD := Lib.hid hrd
    have HX := Lib.hid hbx
    have HT := Lib.hid hleft
    clear hl hrow hrd hbx hleft
    match R, HD, HT with
    | [], HD, HT =>
      have HN := Lib.hid (next_nil wr B g A' c' HD.out)
      go_wp2_with (go_at_call 39; refine HN.out.mono ?_; rintro e w1 ⟨he, hw⟩; unfold broke at he; subst he; subst hw)
      exact ⟨rfl, texted_broke (by rw [← HU.out]; exact HT.out.nil) (by omega) (HX.out.below (by have := HG.out; have := HL.out; omega) HL.out)⟩
    | x :: R, HD, HT =>
      have HN := Lib.hid (next_with w wr B g A' c' x R A2 c2 (T.take 65) HD.out HG.out HX.out HW.out)
      by_cases h0 : x = 0
      · subst h0
        match R, HN, HT, HD with
        | [], HN, HT, HD =>
          go_wp2_with (first
            | (go_at_call 39; refine HN.out.mono ?_; rintro e w1 ⟨rfl, r1, r2, r3⟩)
            | (go_at_call 44; refine (isEnd_broke w _ B g 10 [] r2.out (.inl ⟨rfl, rfl⟩) r3.out HG.out HL.out).mono ?_; rintro e w2 ⟨rfl, r4⟩))
          exact ⟨rfl, texted_broke (by rw [← HU.out]; exact HT.out.zero_nil) (by omega) r4.out⟩
        | y :: R, HN, HT, HD =>
          by_cases h1 : y = 1
          · subst h1
            have HE := Lib.hid HT.out.end_
            go_wp2_with (first
              | (go_at_call 39; refine HN.out.mono ?_; rintro e w1 ⟨rfl, r1, r2, r3⟩)
              | (go_at_call 44; refine (isEnd_with w _ B g true _ R A2 c2 (T.take 65) r2.out (.inl ⟨rfl, rfl⟩) HG.out r3.out r1.out).mono ?_; rintro e w2 ⟨rfl, q1, q2, q3⟩; have hcv := conv_any (q1.out.lies) m c2 HM.out))
            go_ret
            have e : u = (T, R, 0) := by rw [← HU.out, HE.out]
            rw [e]
            exact ⟨rfl, q2.out, q3.out⟩
          · by_cases h2 : y = 255
            · subst h2
              have HE := Lib.hid HT.out.zero
              by_cases hm64 : m ≤ 64
              · have HK := Lib.hid (take_keep T 0 (by rw [HM.out]; exact hm64))
                go_wp2_with (first
                  | (go_at_call 39; refine HN.out.mono ?_; rintro e w1 ⟨rfl, r1, r2, r3⟩)
                  | (go_at_call 44; refine (isEnd_with w _ B g false _ R A2 c2 (T.take 65) r2.out (.inr ⟨rfl, rfl⟩) HG.out r3.out r1.out).mono ?_; rintro e w2 ⟨rfl, q1, q2, q3⟩)
                  | (at_builtin; refine wpList_append_row _ rfl (.tmp 18) (.tmp 20) rfl w.heap.size A2 c2 (T.take 65) [0] _ m 1 1 rfl rfl HM.out rfl (q1.out.alloc _) (lit_one _ _) (by have := q3.out.size; simp; omega) (by have := HM.out; simp only [List.length_singleton]; omega) ?_; intro A3 c3 w3 s1 s2; have S1 := Lib.hid s1; have S2 := Lib.hid s2; clear s1 s2))
                go_roundw
                case rel => exact ⟨T ++ [0], R, m + 1, A3, c3, rfl, by omega, by rw [← HK.out, List.length_append, HM.out]; rfl, by rw [← HK.out]; exact S1.out, rd_on q2.out S2.out HG.out, (q3.out.trans (below_x (below_new _ _) |>.mono q3.out.size)).trans (below_x S2.out), HE.out⟩
                case measure => exact rest_less HD.out (rd_on q2.out S2.out HG.out) (by simp; omega)
              · have HK := Lib.hid (take_full T 0 (by rw [HM.out]; exact hm64))
                go_wp2_with (first
                  | (go_at_call 39; refine HN.out.mono ?_; rintro e w1 ⟨rfl, r1, r2, r3⟩)
                  | (go_at_call 44; refine (isEnd_with w _ B g false _ R A2 c2 (T.take 65) r2.out (.inr ⟨rfl, rfl⟩) HG.out r3.out r1.out).mono ?_; rintro e w2 ⟨rfl, q1, q2, q3⟩))
                go_roundw
                case rel => exact ⟨T ++ [0], R, m, A2, c2, rfl, by omega, by rw [← HK.out, HM.out], by rw [← HK.out]; exact q1.out, q2.out, q3.out, HE.out⟩
                case measure => exact rest_less HD.out q2.out (by simp; omega)
            · go_wp2_with (first
                | (go_at_call 39; refine HN.out.mono ?_; rintro e w1 ⟨rfl, r1, r2, r3⟩)
                | (go_at_call 44; refine (isEnd_broke w _ B g 11 _ r2.out (.inr ⟨rfl, y, R, rfl, h1, h2⟩) r3.out HG.out HL.out).mono ?_; rintro e w2 ⟨rfl, r4⟩))
              exact ⟨rfl, texted_broke (by rw [← HU.out]; exact HT.out.bad h1 h2) (by omega) r4.out⟩
      · have hx0 : (x == 0) = false := by simpa using h0
        have HE := Lib.hid (HT.out.other h0)
        clear h0
        by_cases hm64 : m ≤ 64
        · have HK := Lib.hid (take_keep T x (by rw [HM.out]; exact hm64))
          go_wp2_with (first
            | (go_at_call 39; refine HN.out.mono ?_; rintro e w1 ⟨rfl, r1, r2, r3⟩)
            | (at_builtin; refine wpList_append_row _ rfl (.tmp 18) (.tmp 20) rfl w.heap.size A2 c2 (T.take 65) [x] _ m 1 1 rfl rfl HM.out rfl (r1.out.alloc _) (lit_one _ _) (by have := r3.out.size; simp; omega) (by have := HM.out; simp only [List.length_singleton]; omega) ?_; intro A3 c3 w3 s1 s2; have S1 := Lib.hid s1; have S2 := Lib.hid s2; clear s1 s2))
          go_roundw
          case rel => exact ⟨T ++ [x], R, m + 1, A3, c3, rfl, by omega, by rw [← HK.out, List.length_append, HM.out]; rfl, by rw [← HK.out]; exact S1.out, rd_on r2.out S2.out HG.out, (r3.out.trans (below_x (below_new _ _) |>.mono r3.out.size)).trans (below_x S2.out), HE.out⟩
          case measure => exact rest_less HD.out (rd_on r2.out S2.out HG.out) (by simp)
        · have HK := Lib.hid (take_full T x (by rw [HM.out]; exact hm64))
          go_wp2_with (go_at_call 39; refine HN.out.mono ?_; rintro e w1 ⟨rfl, r1, r2, r3⟩)
          go_roundw
          case rel => exact ⟨T ++ [x], R, m, A2, c2, rfl, by omega, by rw [← HK.out, HM.out], by rw [← HK.out]; exact r1.out, r2.out, r3.out, HE.out⟩
          case measure => exact rest_less HD.out r2.out (by simp)

end Go.Proofs.Ytaedhedbmbmdoaa
