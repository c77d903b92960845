/-
  Walks: eight halvings; the sum of bytes.
-/
import Derived.Test.YtjppklgegpmfpaaGreatDoorMemS
import Derived.Test.YtjppklgegpmfpaaGreatDoorCrc
import Derived.Laws.BitsAllLaws
namespace Go.Proofs.YtjppklgegpmfpaaGreatDoor
open Go.RowKit

theorem ret_int {k : IntKind} {a b : Int} (h : a = b) : Ending.returned (.int k a) = .returned (.int k b) := by rw [h]
theorem int_val {k : IntKind} {a b : Int} (h : a = b) : Value.int k a = Value.int k b := by rw [h]

theorem and1 (x : Nat) (h : x < 4294967296) : bits .and .u32 (x : Int) 1 = ((x % 2 : Nat) : Int) := by
  have := u32_and_nat x 1 h (by omega)
  rw [Nat.and_one_is_mod] at this
  exact this
theorem half_eq (x : Nat) (h : x < 4294967296) : bits .xor .u32 ((x : Int) / 2) (3988292384 * bits .and .u32 (x : Int) 1 % 4294967296) = ((half x : Nat) : Int) := by
  rw [and1 x h]
  by_cases o : x % 2 = 1
  · rw [o, half_odd o]
    have := u32_xor_nat (x / 2) 3988292384 (by omega) (by omega)
    exact this
  · have o' : x % 2 = 0 := by omega
    rw [o', half_even o]
    have := u32_xor_nat (x / 2) 0 (by omega) (by omega)
    rw [Nat.xor_zero] at this
    exact this

set_option maxHeartbeats 1000000 in
theorem shifted_any (c : Nat) (w : World) (h : c < 4294967296) :
    Calls Tryz.prog 56 #[.int .u32 (c : Int)] w fun e w' => e = .returned (.int .u32 (eight c : Nat)) ∧ w = w' := by
  have H := Lib.hid h
  clear h
  go_enter Tryz.func56, Tryz.ntmps56
  go_wp2_with fail
  go_loop [0, 4] (fun t0 t4 => ∃ i : Nat, i ≤ 8 ∧ t4 = .int .i64 i ∧ t0 = .int .u32 (halfN i c : Nat)) (fun _ t4 => 8 - (intOf t4).toNat)
  case atStart => exact ⟨0, by omega, rfl, rfl⟩
  case round =>
    obtain ⟨i, hi, rfl, rfl⟩ := hrel
    have hlt := Lib.hid (halfN_lt i H.out)
    have hs := halfN_snoc i c
    have HI := Lib.hid hi
    obtain ⟨x, hx⟩ : ∃ x, halfN i c = x := ⟨_, rfl⟩
    rw [hx] at hlt hs
    have HX := Lib.hid hx
    rw [hx]
    clear hx
    by_cases h8 : i < 8
    · have h8' : ((i : Nat) : Int) < 8 := by omega
      have HS := Lib.hid hs
      clear hs hi
      go_wp2
      go_round
      case rel => exact ⟨i + 1, by omega, by go_num, int_val (by rw [HS.out]; exact half_eq x hlt.out)⟩
      case measure => simp [intOf]; omega
    · obtain rfl : i = 8 := by omega
      clear hs
      go_wp2
      go_ret
      exact ⟨ret_int (by rw [← HX.out]; rfl), rfl⟩

theorem xor_eq (c : Nat) (x : Int) (h : c < 4294967296) (x0 : 0 ≤ x) (x1 : x < 256) : bits .xor .u32 (c : Int) x = ((c ^^^ x.toNat : Nat) : Int) := by
  obtain ⟨X, rfl⟩ := Int.eq_ofNat_of_zero_le x0
  exact u32_xor_nat c X h (by omega)
theorem flat_take {l : List (List Int)} {k : Nat} {s : List Int} (h : l[k]? = some s) : (l.take (k + 1)).flatten = (l.take k).flatten ++ s := by
  rw [List.take_add_one, h]
  simp
theorem byts_of {T : List Sl} {k : Nat} {s : Sl} (h : T[k]? = some s) : (byts T)[k]? = some s.l := by simp [byts, h]
theorem byt_flat : ∀ l : List (List Int), (∀ L ∈ l, Byt L) → Byt l.flatten
  | [], _ => Byt.nil
  | L :: l, h => by
    rw [List.flatten_cons]
    exact (h L (by simp)).append (byt_flat l (fun M hM => h M (List.mem_cons_of_mem _ hM)))
theorem byt_byts {w : World} {T : List Sl} (h : AllIn w T) : ∀ L ∈ byts T, Byt L := fun L hL => by
  obtain ⟨s, hs, rfl⟩ := List.mem_map.1 hL
  exact (h s hs).byt

set_option maxRecDepth 100000 in
set_option maxHeartbeats 2000000 in
theorem sumOf_any (A : Option Addr) (T : List Sl) (n c : Nat) (w : World) (hn : T.length = n) (hc : n ≤ 9223372036854775807) (h : Lies w A (svals T)) (hT : AllIn w T) :
    Calls Tryz.prog 41 #[.slice A n c] w fun e w' => e = .returned (.int .u32 (sumL (byts T).flatten : Nat)) ∧ w = w' := by
  have HL := Lib.hid h
  have HT := Lib.hid hT
  have HN := Lib.hid hn
  have HY := Lib.hid (byt_byts hT)
  clear h hT hn
  go_enter Tryz.func41, Tryz.ntmps41
  go_wp2_with fail
  go_loop [3, 10] (fun t3 t10 => ∃ (i x : Nat), i ≤ n ∧ t10 = .int .i64 i ∧ t3 = .int .u32 (x : Nat) ∧ Hid (x = crcF 4294967295 ((byts T).take i).flatten)) (fun _ t10 => n - (intOf t10).toNat)
  case atStart => exact ⟨0, 4294967295, by omega, rfl, rfl, Lib.hid rfl⟩
  case round =>
    obtain ⟨i, x, hi, rfl, rfl, hx⟩ := hrel
    by_cases hlt : i < n
    · have hs := List.getElem?_eq_getElem (l := T) (i := i) (by have := HN.out; omega)
      generalize T[i]'(by have := HN.out; omega) = s at hs
      have hF : Hid (((byts T).take (i + 1)).flatten = ((byts T).take i).flatten ++ s.l) := Lib.hid (flat_take (byts_of hs))
      have hY : Hid (Byt ((byts T).take i).flatten) := Lib.hid (byt_flat _ (fun L hL => HY.out L (List.mem_of_mem_take hL)))
      have hS := Lib.hid (HT.out s (List.mem_of_getElem? hs))
      obtain ⟨ad, rfl, c0⟩ := lies_at HL.out hs
      obtain ⟨sa, sc, sl⟩ := s
      obtain ⟨m, hm⟩ : ∃ m, sl.length = m := ⟨_, rfl⟩
      have hm' := Lib.hid hm
      simp only at c0 hF hS
      rw [hm] at c0
      have htop : (m : Int) ≤ 9223372036854775807 := by have := hS.out.cap; have := hS.out.top; omega
      clear hs hm
      go_wp2_with fail
      go_loop [3, 16] (fun t3 t16 => ∃ (j y : Nat), j ≤ m ∧ t16 = .int .i64 j ∧ t3 = .int .u32 (y : Nat) ∧ Hid (y = crcF x (sl.take j))) (fun _ t16 => m - (intOf t16).toNat)
      case atStart => exact ⟨0, x, by omega, rfl, rfl, Lib.hid rfl⟩
      case round =>
        obtain ⟨j, y, hj, rfl, rfl, hy⟩ := hrel
        by_cases hlt2 : j < m
        · have hb := List.getElem?_eq_getElem (l := sl) (i := j) (by have := hm'.out; omega)
          generalize sl[j]'(by have := hm'.out; omega) = b at hb
          obtain ⟨bd, rfl, c1⟩ := in_at hS.out hb
          obtain ⟨b0, b1⟩ := hS.out.byt b (List.mem_of_getElem? hb)
          have hx32 : x < 4294967296 := by rw [hx.out]; exact crcF_lt _ _ (by decide) hY.out
          have hy32 : y < 4294967296 := by rw [hy.out]; exact crcF_lt _ _ hx32 (fun z hz => hS.out.byt z (List.mem_of_mem_take hz))
          have hE := Lib.hid (xor_eq y b hy32 b0 b1)
          have hH := Lib.hid (shifted_any (y ^^^ b.toNat) w (xor_lt32 hy32 (by omega)))
          have hZ := Lib.hid (crcF_take x sl j b hb)
          clear hb
          go_wp2_with (go_at_call 56; rw [hE.out]; refine hH.out.mono ?_; rintro e w1 ⟨rfl, hw⟩; subst hw)
          go_round
          case rel => exact ⟨j + 1, _, by omega, by go_num, rfl, Lib.hid (by rw [hZ.out, hy.out])⟩
          case measure => simp [intOf]; omega
        · obtain rfl : j = m := by omega
          go_wp2_with fail
          go_round
          case rel => exact ⟨i + 1, y, by omega, by go_num, rfl, Lib.hid (by rw [hF.out, crcF_append, ← hx.out, hy.out, List.take_of_length_le (by have := hm'.out; omega)])⟩
          case measure => simp [intOf]; omega
    · obtain rfl : i = n := by omega
      have hE : Hid (bits .xor .u32 (x : Int) 4294967295 = (sumL (byts T).flatten : Nat)) := Lib.hid (by
        rw [hx.out, List.take_of_length_le (by rw [byts_len]; have := HN.out; omega)]
        exact u32_xor_nat _ 4294967295 (crcF_lt _ _ (by decide) (byt_flat _ HY.out)) (by omega))
      go_wp2_with fail
      go_ret
      exact ⟨ret_int hE.out, rfl⟩

end Go.Proofs.YtjppklgegpmfpaaGreatDoor
