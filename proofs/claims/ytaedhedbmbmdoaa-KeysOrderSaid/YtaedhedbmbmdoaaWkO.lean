/-
  Walks: a row written, by the document.
-/
import Derived.Test.YtaedhedbmbmdoaaWkN
namespace Go.Proofs.Ytaedhedbmbmdoaa
open Go.RowKit

theorem any_false {p : Qt → Bool} {l : List Qt} (h : ∀ (j : Nat) (q : Qt), j < l.length → l[j]? = some q → p q = false) : l.any p = false := by
  rw [List.any_eq_false]
  intro q hq
  obtain ⟨j, hj, e⟩ := List.mem_iff_getElem.1 hq
  rw [h j q hj (by rw [List.getElem?_eq_getElem hj, e])]
  simp
theorem any_true {p : Qt → Bool} {l : List Qt} {j : Nat} {q : Qt} (hq : l[j]? = some q) (h : p q = true) : l.any p = true := by
  rw [List.any_eq_true]
  exact ⟨q, List.mem_of_getElem? hq, h⟩
theorem so_far {p : Qt → Bool} {l : List Qt} {k : Nat} {q : Qt} (h : ∀ (j : Nat) (q : Qt), j < k → l[j]? = some q → p q = false) (hq : l[k]? = some q) (hp : p q = false) : ∀ (j : Nat) (q : Qt), j < k + 1 → l[j]? = some q → p q = false := fun j q' hj hq' => by
  by_cases e : j = k
  · subst e; rw [hq] at hq'; injection hq' with hq'; rw [← hq']; exact hp
  · exact h j q' (by omega) hq'
theorem empty_str {s : ByteArray} (h : s.size = 0) : s.toList.isEmpty = true := by rw [str_empty]; simpa using h
theorem empty_not {s : ByteArray} (h : ¬ s.size = 0) : s.toList.isEmpty = false := by rw [str_empty]; simpa using h

set_option maxRecDepth 100000 in
set_option maxHeartbeats 8000000 in
theorem refEncode_any (A : Option Addr) (l : List Qt) (n c : Nat) (w : World) (hn : l.length = n) (hc : n ≤ 140737488351232) (h : Pts w A l) (ho : ∀ q ∈ l, q.Ok) :
    Calls Try.prog 11 #[.slice A n c] w (Wrote w (encP (pts l))) := by
  have HP := Lib.hid (fun (w' : World) (hb : Below w.heap.size w w') => h.kept hb)
  have HW := Lib.hid h
  have HO := Lib.hid ho
  have HN := Lib.hid hn
  have E1 := Lib.hid (enc_long (l := l))
  have E2 := Lib.hid (enc_mixed (l := l))
  have E3 := Lib.hid (enc_key (l := l))
  generalize encP (pts l) = p at E1 E2 E3 ⊢
  clear h ho hn
  by_cases h8 : 8 < n
  · have HV : Hid (p = ([], 3)) := Lib.hid (E1.out (by have := HN.out; simp; left; omega))
    go_enter Try.func11, Try.ntmps11
    go_wp2_with fail
    go_ret2
    rw [HV.out]
    exact ⟨none, 0, rfl, Row.nil _ _, Below.refl _ _⟩
  · have h8' : decide ((8 : Int) < n) = false := by simp; omega
    go_enter Try.func11, Try.ntmps11
    go_wp2_with fail
    go_loop [13] (fun t13 => ∃ k : Nat, k ≤ n ∧ t13 = .int .i64 k ∧ Hid (∀ (j : Nat) (q : Qt), j < k → l[j]? = some q → q.long = false)) (fun t13 => n - (intOf t13).toNat)
    case atStart => exact ⟨0, by omega, rfl, Lib.hid (fun j q hj => by omega)⟩
    case round =>
      obtain ⟨k, hk, rfl, hf⟩ := hrel
      by_cases hlt : k < n
      · have hq := List.getElem?_eq_getElem (l := l) (i := k) (by have := HN.out; omega)
        generalize l[k]'(by have := HN.out; omega) = q at hq
        obtain ⟨ad, rfl, a0, a1, a2⟩ := HW.out.at_ hq
        have HQ := Lib.hid hq
        clear hq
        by_cases h64 : 64 < q.s.size
        · cases et : q.t
          · have HL : Hid (q.long = false) := Lib.hid (by simp [Qt.long, et])
            rw [et] at a0
            clear et
            go_wp2_with fail
            go_round
            case rel => exact ⟨k + 1, by omega, by go_num, Lib.hid (so_far hf.out HQ.out HL.out)⟩
            case measure => simp [intOf]; omega
          · have HL : Hid (q.long = true) := Lib.hid (by simp [Qt.long, et, h64])
            have HV : Hid (p = ([], 3)) := Lib.hid (E1.out (by rw [any_true HQ.out HL.out]; simp))
            rw [et] at a0
            clear et
            go_wp2_with fail
            go_ret2
            rw [HV.out]
            exact ⟨none, 0, rfl, Row.nil _ _, Below.refl _ _⟩
        · have HL : Hid (q.long = false) := Lib.hid (by simp [Qt.long]; omega)
          go_wp2_with fail
          go_round
          case rel => exact ⟨k + 1, by omega, by go_num, Lib.hid (so_far hf.out HQ.out HL.out)⟩
          case measure => simp [intOf]; omega
      · obtain rfl : k = n := by omega
        have HQL : Hid (∀ (j : Nat) (q : Qt), l[j]? = some q → q.long = false) := Lib.hid (fun j q hq => hf.out j q (by have := (List.getElem?_eq_some_iff.1 hq).1; have := HN.out; omega) hq)
        have HLF : Hid ((decide (8 < l.length) || l.any Qt.long) = false) := Lib.hid (by rw [any_false (fun j q _ hq => HQL.out j q hq)]; have := HN.out; simp; omega)
        clear hf
        go_wp2_with fail
        go_loop [31] (fun t31 => ∃ i : Nat, i ≤ k ∧ t31 = .int .i64 i ∧ Hid (∀ (j : Nat) (q : Qt), j < i → l[j]? = some q → q.mixed = false)) (fun t31 => k - (intOf t31).toNat)
        case atStart => exact ⟨0, by omega, rfl, Lib.hid (fun j q hj => by omega)⟩
        case round =>
          obtain ⟨i, hi, rfl, hf⟩ := hrel
          by_cases hlt2 : i < k
          · have hq := List.getElem?_eq_getElem (l := l) (i := i) (by have := HN.out; omega)
            generalize l[i]'(by have := HN.out; omega) = q at hq
            obtain ⟨ad, rfl, a0, a1, a2⟩ := HW.out.at_ hq
            have HQ := Lib.hid hq
            clear hq
            cases et : q.t
            · rw [et] at a0
              by_cases hs : q.s.size = 0
              · have HM : Hid (q.mixed = false) := Lib.hid (by simp [Qt.mixed, et, hs])
                have he := empty_str hs
                clear et hs a1
                go_wp2_with fail
                go_round
                case rel => exact ⟨i + 1, by omega, by go_num, Lib.hid (so_far hf.out HQ.out HM.out)⟩
                case measure => simp [intOf]; omega
              · have HM : Hid (q.mixed = true) := Lib.hid (by simp [Qt.mixed, et, hs])
                have HV : Hid (p = ([], 2)) := Lib.hid (E2.out HLF.out (any_true HQ.out HM.out))
                have he := empty_not hs
                clear et hs a1
                go_wp2_with fail
                go_ret2
                rw [HV.out]
                exact ⟨none, 0, rfl, Row.nil _ _, Below.refl _ _⟩
            · rw [et] at a0
              by_cases hs : q.num = 0
              · have HM : Hid (q.mixed = false) := Lib.hid (by simp [Qt.mixed, et, hs])
                rw [hs] at a1
                clear et hs a2
                go_wp2_with fail
                go_round
                case rel => exact ⟨i + 1, by omega, by go_num, Lib.hid (so_far hf.out HQ.out HM.out)⟩
                case measure => simp [intOf]; omega
              · have HM : Hid (q.mixed = true) := Lib.hid (by simp [Qt.mixed, et, hs])
                have HV : Hid (p = ([], 2)) := Lib.hid (E2.out HLF.out (any_true HQ.out HM.out))
                have he : (q.num != 0) = true := by simpa using hs
                clear et hs a2
                go_wp2_with fail
                go_ret2
                rw [HV.out]
                exact ⟨none, 0, rfl, Row.nil _ _, Below.refl _ _⟩
          · obtain rfl : i = k := by omega
            have HMF : Hid (l.any Qt.mixed = false) := Lib.hid (any_false (fun j q hj hq => hf.out j q (by have := HN.out; omega) hq))
            have E4 := Lib.hid (E3.out HLF.out HMF.out)
            clear hf E1 E2 E3 HLF HMF
            go_wp2_with fail
            go_loopw [6, 66] (fun t6 t66 wr => ∃ (k m : Nat) (A2 : Option Addr) (c2 : Nat), k ≤ i ∧ t66 = .int .i64 k ∧ t6 = .slice A2 m c2 ∧ m ≤ 131 * k ∧ Hid ((encL ((pts l).take k)).length = m) ∧ Hid (Row wr w.heap.size A2 c2 (encL ((pts l).take k))) ∧ Hid (Below w.heap.size w wr)) (fun _ t66 _ => i - (intOf t66).toNat)
            case atStart => exact ⟨0, 0, none, 0, by omega, rfl, rfl, by omega, Lib.hid (by simp [encL]), Lib.hid (by simpa [encL] using Row.nil _ _), Lib.hid (Below.refl _ _)⟩
            case round =>
              obtain ⟨k, m, A2, c2, hk, rfl, rfl, hm, hl2, r2, b2⟩ := hrel
              by_cases hlt3 : k < i
              · have hq := List.getElem?_eq_getElem (l := l) (i := k) (by have := HN.out; omega)
                generalize l[k]'(by have := HN.out; omega) = q at hq
                obtain ⟨ad, rfl, a0, a1, a2⟩ := (HP.out _ b2.out).at_ hq
                have HK := Lib.hid (HO.out q (List.mem_of_getElem? hq))
                have HS : Hid (q.long = false) := Lib.hid (HQL.out k q hq)
                have HE := Lib.hid (enc_take l k q hq)
                have HZ := Lib.hid b2.out.size
                have HF : Hid (q.t = true → q.s.size ≤ 1000000) := Lib.hid fun e => by have := HS.out; simp [Qt.long, e] at this; omega
                have HL := Lib.hid (pt_len HS.out)
                have HG := Lib.hid (fun w => refPart_any q w HK.out HF.out)
                unfold Qt.val at HG
                generalize ptL q.pt = M at HE HL HG
                obtain ⟨x, hx⟩ : ∃ x, M.length = x := ⟨_, rfl⟩
                have HX := Lib.hid hx
                clear hq hx
                go_wp2_with (first
                  | (go_at_call 26; refine (HG.out _).mono ?_; rintro e w3 ⟨A3, c3, rfl, r3, b3⟩; rw [HX.out]; have R3 := Lib.hid r3.lies; have W3 := Lib.hid (r2.out.kept b3 (Nat.le_refl _)); have B3 := Lib.hid (b2.out.trans (b3.mono HZ.out)); clear r3 b3)
                  | (at_builtin; refine wpList_append_row _ rfl (.tmp 69) (.tmp 74) rfl w.heap.size A2 c2 _ M _ m x c3 rfl rfl hl2.out HX.out W3.out R3.out B3.out.size (by have := hl2.out; have := HX.out; have := HL.out; omega) ?_; intro A4 c4 w4 r4 b4; have R4 := Lib.hid r4; have B4 := Lib.hid (B3.out.trans b4); clear r4 b4))
                go_roundw
                case rel => exact ⟨k + 1, m + x, A4, c4, by omega, by go_num, rfl, (by have := HL.out; have := HX.out; omega), Lib.hid (by rw [HE.out, List.length_append, hl2.out, HX.out]), Lib.hid (by rw [HE.out]; exact R4.out), B4⟩
                case measure => simp [intOf]; omega
              · obtain rfl : k = i := by omega
                have r8 := r2.out
                have l8 := hl2.out
                rw [List.take_of_length_le (by rw [pts_len]; have := HN.out; omega)] at r8 l8
                have R8 := Lib.hid r8
                have L8 := Lib.hid l8
                have HP2 := E4.out
                rw [l8] at HP2
                clear r8 r2 l8 hl2 E4
                cases hk : keyB m
                · rw [hk] at HP2
                  have HQ2 := Lib.hid HP2
                  have hm0 : m = 0 ∨ 200 < m := by
                    unfold keyB at hk
                    simp at hk
                    omega
                  clear hk HP2
                  rcases hm0 with rfl | hm1
                  · go_wp2_with fail
                    go_ret2
                    rw [HQ2.out]
                    exact ⟨none, 0, rfl, Row.nil _ _, b2.out⟩
                  · have d0 : ((m : Int) == 0) = false := by simp; omega
                    go_wp2_with fail
                    go_ret2
                    rw [HQ2.out]
                    exact ⟨none, 0, rfl, Row.nil _ _, b2.out⟩
                · rw [hk] at HP2
                  have HQ2 := Lib.hid HP2
                  have hm0 : 0 < m ∧ m ≤ 200 := by
                    unfold keyB at hk
                    simpa using hk
                  obtain ⟨hm0, hm1⟩ := hm0
                  have d0 : ((m : Int) == 0) = false := by simp; omega
                  have d1 : ¬ 200 < m := by omega
                  clear hk HP2
                  go_wp2_with fail
                  go_ret2
                  rw [HQ2.out]
                  exact ⟨A2, c2, ret_pair L8.out.symm rfl, R8.out, b2.out⟩

end Go.Proofs.Ytaedhedbmbmdoaa
