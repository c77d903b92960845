/-
  Walks: what is told of an entry beside its key. Walks: eight halvings; the sum of bytes. Walks: four bytes of a number, a number of four bytes; a payload, put. Walks: the frame of a payload; an entry copied. Walks: an entry copied. Walks: a version that is read. Memory: slices of slices of entries. Walks: entries cut into blocks.
-/
import Derived.Laws.BitsAllLaws
import Derived.Lib.BufferMore
import Derived.Deep.QuietTactic
import Derived.BigQuiet
import Derived.Deep.CutRange
import Derived.Deep.Cut
import Derived.Deep.CutBlock
import Derived.Deep.RegionWith
import Derived.Test.YtmgggddnfeojmaaGreatJO00
import Derived.Test.YtmgggddnfeojmaaGreatJO01
import Derived.Test.YtmgggddnfeojmaaGreatJO06
import Derived.Test.YtmgggddnfeojmaaGreatJO07
set_option linter.unusedSimpArgs false
set_option linter.unusedVariables false
namespace Go.Proofs.YtmgggddnfeojmaaGreat
open Go.RowKit
theorem or_one (s : Int) (h0 : 0 ≤ s) (h1 : s ≤ 1099511627776) : bits .or .u64 (2 * s) 1 = 2 * s + 1 := by
  obtain ⟨S, rfl⟩ := Int.eq_ofNat_of_zero_le h0
  have := u64_or_nat (2 * S) 1 (by omega) (by omega)
  have e := nat_join 1 (2 * S) 1 (by omega) (by omega)
  rw [show (2 * (S : Int)) = ((2 * S : Nat) : Int) by omega, show (1 : Int) = ((1 : Nat) : Int) from rfl, this, e]
  omega
set_option maxRecDepth 100000 in
set_option maxHeartbeats 8000000 in
theorem packed_any (x : En) (w : World) (hx : EIn w x) (hg : GoodE x.rd) : Calls Tryz.prog 82 #[x.val] w (New w (verE x.rd)) := by
  have HX := Lib.hid (fun (W : World) (hb : Below w.heap.size w W) => (hx.kept hb).2)
  rw [En.val_eq]
  obtain ⟨⟨ka, kc, k⟩, s, d, ⟨va, vc, v⟩⟩ := x
  simp only [En.rd] at HX hg ⊢
  obtain ⟨⟨-, g1⟩, ⟨g2, g3⟩, g4, -⟩ := hg
  simp only at g1 g2 g3 g4
  unfold verE headE
  simp only
  obtain ⟨n, hn⟩ : ∃ n, k.length = n := ⟨_, rfl⟩
  obtain ⟨m, hm⟩ : ∃ m, v.length = m := ⟨_, rfl⟩
  simp only [hn, hm] at HX g1 g4 ⊢
  clear hn hx
  have HM := Lib.hid hm
  clear hm
  have e1 : IntKind.u64.wrap s = s := by rw [IntKind.wrap_u64]; omega
  have e2 := or_one s (by omega) g3
  have HU9 : ∀ h : Int, 0 ≤ h → h ≤ 2199023255553 → Hid (∀ W : World, Calls Tryz.prog 61 #[.slice none 0 0, .int .u64 h] W (New W (digs h))) := fun h h0 h1 => Lib.hid (fun W => by
    have := appendUint_any none [] 0 0 h W rfl (Bys.nil _ _) h0 (by omega) (by have := (digs_len h).2; simp; omega)
    rwa [List.nil_append] at this)
  have HA9 : ∀ h : Int, Hid (∀ (W : World) g c, Bys W (some ⟨g, 0, none⟩) (digs h) → Below w.heap.size w W → Calls Tryz.prog 63 #[.slice (some ⟨g, 0, none⟩) (digs h).length c, .slice va m vc] W (New W (digs h ++ (digs m ++ v)))) := fun h => Lib.hid (fun W g c hb hw =>
    appendBytes_any _ _ _ _ _ _ _ _ _ rfl HM.out hb (HX.out W hw).bys (by have := (digs_len h).2; have := (digs_len (m : Int)).2; have := HM.out; omega))
  go_enter Tryz.func82, Tryz.ntmps82
  cases d
  · have e3 : digs (2 * s + (if false = true then 1 else 0)) = digs (s * 2) := by simp [Int.mul_comm]
    rw [e3]
    have v0 : 0 ≤ s * 2 := by omega
    have v1 : s * 2 ≤ 2199023255553 := by omega
    go_upto_region 4 with fail
    generalize hh : s * 2 = h at v0 v1 ⊢
    have HE := Lib.hid hh
    clear hh
    have HU := HU9 h v0 v1
    have HA := HA9 h
    clear HU9 HA9 v0 v1 e2 e3
    obtain ⟨w1, hw1⟩ : ∃ w1, (w.alloc (.cells #[.slice ka n kc, .int .i64 s, .bool false, .slice va m vc] 48)) = w1 := ⟨_, rfl⟩
    have B1 : Hid (Below w.heap.size w w1) := Lib.hid (hw1 ▸ below_new _ _)
    have HK : Hid (∀ W : World, Below w1.heap.size w1 W → W.cell? ⟨w.heap.size, 3, none⟩ = some (.slice va m vc)) := Lib.hid (fun W hb => by
      have hz : w1.heap.size = w.heap.size + 1 := by rw [← hw1]; simp
      have k0 := (hb.block w.heap.size (by omega)).trans (hw1 ▸ heap_alloc_new w _)
      simp [World.cell?, k0])
    rw [hw1]
    clear hw1
    have CB := Lib.hid (Below.refl w1.heap.size w1)
    go_region_held3 (fun W => W.cell? ⟨w.heap.size, 3, none⟩ = some (.slice va m vc)) (first | exact HK.out _ (by repeat (first | exact Below.refl _ _ | exact CB.out | refine Below.drew ?_)) | go_keep) (first
      | (go_at_call 61; refine (HU.out _).mono ?_; rintro e w2 ⟨g1, c1, rfl, m1, b1⟩; have R1 := Lib.hid m1.row.lies; replace CB := Lib.hid (below_then (by repeat (first | exact Below.refl _ _ | refine Below.drew ?_) : Below w1.heap.size w1 _) b1); clear m1 b1)
      | (go_at_call 63; refine (HA.out _ _ _ (R1.out.kept (by repeat (first | exact Below.refl _ _ | refine Below.drew ?_))) (B1.out.trans ((by repeat (first | exact Below.refl _ _ | exact CB.out | refine Below.drew ?_) : Below w1.heap.size w1 _).mono B1.out.size))).mono ?_; rintro e w3 ⟨g2, c2, rfl, m2, b2⟩; have M2 := Lib.hid (m2.mono (B1.out.trans ((by repeat (first | exact Below.refl _ _ | exact CB.out | refine Below.drew ?_) : Below w1.heap.size w1 _).mono B1.out.size)).size); replace CB := Lib.hid (below_then (by repeat (first | exact Below.refl _ _ | exact CB.out | refine Below.drew ?_) : Below w1.heap.size w1 _) b2); clear m2 b2))
    all_goals
      go_wp2_with fail
      go_ret
      rw [HE.out]
      exact ⟨g2, c2, by simp, M2.out, B1.out.trans ((by repeat (first | exact Below.refl _ _ | exact CB.out | refine Below.drew ?_) : Below w1.heap.size w1 _).mono B1.out.size)⟩
  · have e3 : digs (2 * s + (if true = true then 1 else 0)) = digs (2 * s + 1) := by simp
    rw [e3]
    rw [show 2 * s = s * 2 by omega] at e2 ⊢
    have v0 : 0 ≤ s * 2 + 1 := by omega
    have v1 : s * 2 + 1 ≤ 2199023255553 := by omega
    go_upto_region 4 with fail
    generalize hh : s * 2 + 1 = h at v0 v1 ⊢
    have HE := Lib.hid hh
    clear hh
    have HU := HU9 h v0 v1
    have HA := HA9 h
    clear HU9 HA9 v0 v1 e2 e3
    obtain ⟨w1, hw1⟩ : ∃ w1, (w.alloc (.cells #[.slice ka n kc, .int .i64 s, .bool true, .slice va m vc] 48)) = w1 := ⟨_, rfl⟩
    have B1 : Hid (Below w.heap.size w w1) := Lib.hid (hw1 ▸ below_new _ _)
    have HK : Hid (∀ W : World, Below w1.heap.size w1 W → W.cell? ⟨w.heap.size, 3, none⟩ = some (.slice va m vc)) := Lib.hid (fun W hb => by
      have hz : w1.heap.size = w.heap.size + 1 := by rw [← hw1]; simp
      have k0 := (hb.block w.heap.size (by omega)).trans (hw1 ▸ heap_alloc_new w _)
      simp [World.cell?, k0])
    rw [hw1]
    clear hw1
    have CB := Lib.hid (Below.refl w1.heap.size w1)
    go_region_held3 (fun W => W.cell? ⟨w.heap.size, 3, none⟩ = some (.slice va m vc)) (first | exact HK.out _ (by repeat (first | exact Below.refl _ _ | exact CB.out | refine Below.drew ?_)) | go_keep) (first
      | (go_at_call 61; refine (HU.out _).mono ?_; rintro e w2 ⟨g1, c1, rfl, m1, b1⟩; have R1 := Lib.hid m1.row.lies; replace CB := Lib.hid (below_then (by repeat (first | exact Below.refl _ _ | refine Below.drew ?_) : Below w1.heap.size w1 _) b1); clear m1 b1)
      | (go_at_call 63; refine (HA.out _ _ _ (R1.out.kept (by repeat (first | exact Below.refl _ _ | refine Below.drew ?_))) (B1.out.trans ((by repeat (first | exact Below.refl _ _ | exact CB.out | refine Below.drew ?_) : Below w1.heap.size w1 _).mono B1.out.size))).mono ?_; rintro e w3 ⟨g2, c2, rfl, m2, b2⟩; have M2 := Lib.hid (m2.mono (B1.out.trans ((by repeat (first | exact Below.refl _ _ | exact CB.out | refine Below.drew ?_) : Below w1.heap.size w1 _).mono B1.out.size)).size); replace CB := Lib.hid (below_then (by repeat (first | exact Below.refl _ _ | exact CB.out | refine Below.drew ?_) : Below w1.heap.size w1 _) b2); clear m2 b2))
    all_goals
      go_wp2_with fail
      go_ret
      rw [HE.out]
      exact ⟨g2, c2, by simp, M2.out, B1.out.trans ((by repeat (first | exact Below.refl _ _ | exact CB.out | refine Below.drew ?_) : Below w1.heap.size w1 _).mono B1.out.size)⟩
end Go.Proofs.YtmgggddnfeojmaaGreat
namespace Go.Proofs.YtmgggddnfeojmaaGreat
open Go.RowKit
theorem vret_int {k : IntKind} {a b : Int} (h : a = b) : Ending.returned (.int k a) = .returned (.int k b) := by rw [h]
theorem int_val {k : IntKind} {a b : Int} (h : a = b) : Value.int k a = Value.int k b := by rw [h]
theorem and1 (x : Nat) (h : x < 4294967296) : bits .and .u32 (x : Int) 1 = ((x % 2 : Nat) : Int) := by
  have := u32_and_nat x 1 h (by omega)
  rw [Nat.and_one_is_mod] at this
  exact this
theorem half_eq (x : Nat) (h : x < 4294967296) : bits .xor .u32 ((x : Int) / 2) (3988292384 * bits .and .u32 (x : Int) 1 % 4294967296) = ((half x : Nat) : Int) := by
  rw [and1 x h]
  by_cases o : x % 2 = 1
  · rw [o, half_odd o]
    have := u32_xor_nat (x / 2) 3988292384 (by omega) (by omega)
    exact this
  · have o' : x % 2 = 0 := by omega
    rw [o', half_even o]
    have := u32_xor_nat (x / 2) 0 (by omega) (by omega)
    rw [Nat.xor_zero] at this
    exact this
set_option maxHeartbeats 1000000 in
theorem shifted_any (c : Nat) (w : World) (h : c < 4294967296) :
    Calls Tryz.prog 111 #[.int .u32 (c : Int)] w fun e w' => e = .returned (.int .u32 (eight c : Nat)) ∧ w = w' := by
  have H := Lib.hid h
  clear h
  go_enter Tryz.func111, Tryz.ntmps111
  go_wp2_with fail
  go_loop [0, 4] (fun t0 t4 => ∃ i : Nat, i ≤ 8 ∧ t4 = .int .i64 i ∧ t0 = .int .u32 (halfN i c : Nat)) (fun _ t4 => 8 - (intOf t4).toNat)
  case atStart => exact ⟨0, by omega, rfl, rfl⟩
  case round =>
    obtain ⟨i, hi, rfl, rfl⟩ := hrel
    have hlt := Lib.hid (halfN_lt i H.out)
    have hs := halfN_snoc i c
    have HI := Lib.hid hi
    obtain ⟨x, hx⟩ : ∃ x, halfN i c = x := ⟨_, rfl⟩
    rw [hx] at hlt hs
    have HX := Lib.hid hx
    rw [hx]
    clear hx
    by_cases h8 : i < 8
    · have h8' : ((i : Nat) : Int) < 8 := by omega
      have HS := Lib.hid hs
      clear hs hi
      go_wp2
      go_round
      case rel => exact ⟨i + 1, by omega, by go_num, int_val (by rw [HS.out]; exact half_eq x hlt.out)⟩
      case measure => simp [intOf]; omega
    · obtain rfl : i = 8 := by omega
      clear hs
      go_wp2
      go_ret
      exact ⟨vret_int (by rw [← HX.out]; rfl), rfl⟩
theorem xor_eq (c : Nat) (x : Int) (h : c < 4294967296) (x0 : 0 ≤ x) (x1 : x < 256) : bits .xor .u32 (c : Int) x = ((c ^^^ x.toNat : Nat) : Int) := by
  obtain ⟨X, rfl⟩ := Int.eq_ofNat_of_zero_le x0
  exact u32_xor_nat c X h (by omega)
theorem flat_take {l : List (List Int)} {k : Nat} {s : List Int} (h : l[k]? = some s) : (l.take (k + 1)).flatten = (l.take k).flatten ++ s := by
  rw [List.take_add_one, h]
  simp
theorem byts_of {T : List Sl} {k : Nat} {s : Sl} (h : T[k]? = some s) : (byts T)[k]? = some s.l := by simp [byts, h]
theorem byt_flat : ∀ l : List (List Int), (∀ L ∈ l, Byt L) → Byt l.flatten
  | [], _ => Byt.nil
  | L :: l, h => by
    rw [List.flatten_cons]
    exact (h L (by simp)).append (byt_flat l (fun M hM => h M (List.mem_cons_of_mem _ hM)))
theorem byt_byts {w : World} {T : List Sl} (h : AllIn w T) : ∀ L ∈ byts T, Byt L := fun L hL => by
  obtain ⟨s, hs, rfl⟩ := List.mem_map.1 hL
  exact (h s hs).byt
set_option maxRecDepth 100000 in
set_option maxHeartbeats 2000000 in
theorem sumOf_any (A : Option Addr) (T : List Sl) (n c : Nat) (w : World) (hn : T.length = n) (hc : n ≤ 9223372036854775807) (h : Lies w A (svals T)) (hT : AllIn w T) :
    Calls Tryz.prog 103 #[.slice A n c] w fun e w' => e = .returned (.int .u32 (sumL (byts T).flatten : Nat)) ∧ w = w' := by
  have HL := Lib.hid h
  have HT := Lib.hid hT
  have HN := Lib.hid hn
  have HY := Lib.hid (byt_byts hT)
  clear h hT hn
  go_enter Tryz.func103, Tryz.ntmps103
  go_wp2_with fail
  go_loop [3, 10] (fun t3 t10 => ∃ (i x : Nat), i ≤ n ∧ t10 = .int .i64 i ∧ t3 = .int .u32 (x : Nat) ∧ Hid (x = crcF 4294967295 ((byts T).take i).flatten)) (fun _ t10 => n - (intOf t10).toNat)
  case atStart => exact ⟨0, 4294967295, by omega, rfl, rfl, Lib.hid rfl⟩
  case round =>
    obtain ⟨i, x, hi, rfl, rfl, hx⟩ := hrel
    by_cases hlt : i < n
    · have hs := List.getElem?_eq_getElem (l := T) (i := i) (by have := HN.out; omega)
      generalize T[i]'(by have := HN.out; omega) = s at hs
      have hF : Hid (((byts T).take (i + 1)).flatten = ((byts T).take i).flatten ++ s.l) := Lib.hid (flat_take (byts_of hs))
      have hY : Hid (Byt ((byts T).take i).flatten) := Lib.hid (byt_flat _ (fun L hL => HY.out L (List.mem_of_mem_take hL)))
      have hS := Lib.hid (HT.out s (List.mem_of_getElem? hs))
      obtain ⟨ad, rfl, c0⟩ := lies_at HL.out hs
      obtain ⟨sa, sc, sl⟩ := s
      obtain ⟨m, hm⟩ : ∃ m, sl.length = m := ⟨_, rfl⟩
      have hm' := Lib.hid hm
      simp only at c0 hF hS
      rw [hm] at c0
      have htop : (m : Int) ≤ 9223372036854775807 := by have := hS.out.cap; have := hS.out.top; omega
      clear hs hm
      go_wp2_with fail
      go_loop [3, 16] (fun t3 t16 => ∃ (j y : Nat), j ≤ m ∧ t16 = .int .i64 j ∧ t3 = .int .u32 (y : Nat) ∧ Hid (y = crcF x (sl.take j))) (fun _ t16 => m - (intOf t16).toNat)
      case atStart => exact ⟨0, x, by omega, rfl, rfl, Lib.hid rfl⟩
      case round =>
        obtain ⟨j, y, hj, rfl, rfl, hy⟩ := hrel
        by_cases hlt2 : j < m
        · have hb := List.getElem?_eq_getElem (l := sl) (i := j) (by have := hm'.out; omega)
          generalize sl[j]'(by have := hm'.out; omega) = b at hb
          obtain ⟨bd, rfl, c1⟩ := in_at hS.out hb
          obtain ⟨b0, b1⟩ := hS.out.byt b (List.mem_of_getElem? hb)
          have hx32 : x < 4294967296 := by rw [hx.out]; exact crcF_lt _ _ (by decide) hY.out
          have hy32 : y < 4294967296 := by rw [hy.out]; exact crcF_lt _ _ hx32 (fun z hz => hS.out.byt z (List.mem_of_mem_take hz))
          have hE := Lib.hid (xor_eq y b hy32 b0 b1)
          have hH := Lib.hid (shifted_any (y ^^^ b.toNat) w (xor_lt32 hy32 (by omega)))
          have hZ := Lib.hid (crcF_take x sl j b hb)
          clear hb
          go_wp2_with (go_at_call 111; rw [hE.out]; refine hH.out.mono ?_; rintro e w1 ⟨rfl, hw⟩; subst hw)
          go_round
          case rel => exact ⟨j + 1, _, by omega, by go_num, rfl, Lib.hid (by rw [hZ.out, hy.out])⟩
          case measure => simp [intOf]; omega
        · obtain rfl : j = m := by omega
          go_wp2_with fail
          go_round
          case rel => exact ⟨i + 1, y, by omega, by go_num, rfl, Lib.hid (by rw [hF.out, crcF_append, ← hx.out, hy.out, List.take_of_length_le (by have := hm'.out; omega)])⟩
          case measure => simp [intOf]; omega
    · obtain rfl : i = n := by omega
      have hE : Hid (bits .xor .u32 (x : Int) 4294967295 = (sumL (byts T).flatten : Nat)) := Lib.hid (by
        rw [hx.out, List.take_of_length_le (by rw [byts_len]; have := HN.out; omega)]
        exact u32_xor_nat _ 4294967295 (crcF_lt _ _ (by decide) (byt_flat _ HY.out)) (by omega))
      go_wp2_with fail
      go_ret
      exact ⟨vret_int hE.out, rfl⟩
end Go.Proofs.YtmgggddnfeojmaaGreat
namespace Go.Proofs.YtmgggddnfeojmaaGreat
open Go.RowKit
theorem ret_slice6 {A : Option Addr} {n m c : Nat} (h : n = m) : Ending.returned (.slice A n c) = .returned (.slice A m c) := by rw [h]
theorem cloneF_any (A : Option Addr) (L : List Int) (n c : Nat) (w : World) (hA : A ≠ none) (hn : L.length = n) (h : Bys w A L) (hl : L.length ≤ 140737488355328) :
    Calls Tryz.prog 42 #[.slice A n c] w (Longer w w.heap.size L) := by
  obtain ⟨ad, rfl⟩ : ∃ ad, A = some ad := Option.ne_none_iff_exists'.1 hA
  have HB := Lib.hid (h.alloc (.cells #[] 5))
  have HL := Lib.hid hl
  have M0 := Lib.hid (row_made w w.heap.size [] #[] rfl (by simp) (Nat.le_refl _))
  have B0 := Lib.hid (below_new w (.cells #[] 5))
  have HN := Lib.hid hn
  clear h hl hn hA
  have hnil := fun W => Go.Lib.run_eql_slice_some_nil (P := Tryz.prog) W ad n c Tryz.underlying42
  go_enter Tryz.func42, Tryz.ntmps42
  go_wp2_with (at_builtin; refine wpList_append_row _ rfl (.tmp 5) (.tmp 6) rfl w.heap.size _ 0 [] L _ 0 n c rfl rfl rfl HN.out M0.out HB.out (by simp) (by have := HL.out; simp only [List.length_nil]; omega) ?_; intro A1 c1 w1 r1 b1; have R1 := Lib.hid r1; have B1 := Lib.hid b1; clear r1 b1)
  go_ret
  exact ⟨A1, c1, ret_slice6 (by have := HN.out; omega), R1.out, B0.out.trans B1.out⟩
/-- What of a number has been read. -/
def part4 (a b c d : Int) : Nat → Int
  | 0 => 0
  | 1 => a
  | 2 => a + 256 * b
  | 3 => a + 256 * (b + 256 * c)
  | _ => a + 256 * (b + 256 * (c + 256 * d))
theorem or_at (k : Nat) (v x : Int) (hk : k ≤ 24) (v0 : 0 ≤ v) (v1 : v < 2 ^ k) (x0 : 0 ≤ x) (x1 : x * 2 ^ k < 4294967296) : bits .or .u32 v (x * 2 ^ k) = v + x * 2 ^ k := by
  obtain ⟨V, rfl⟩ := Int.eq_ofNat_of_zero_le v0
  obtain ⟨X, rfl⟩ := Int.eq_ofNat_of_zero_le x0
  have e : (X : Int) * 2 ^ k = ((X * 2 ^ k : Nat) : Int) := by simp
  have hp : (2 : Nat) ^ k ≤ 2 ^ 24 := Nat.pow_le_pow_right (by omega) hk
  have v2 : V < 2 ^ k := by exact_mod_cast v1
  rw [e] at x1 ⊢
  rw [u32_or_nat V (X * 2 ^ k) (by omega) (by omega), Nat.or_comm, nat_join k (X * 2 ^ k) V (Nat.mul_mod_left _ _) v2]
  omega
set_option maxHeartbeats 1000000 in
theorem word_any (A : Option Addr) (L : List Int) (n c : Nat) (w : World) (h : In w A L n c) (h4 : 4 ≤ n) :
    Calls Tryz.prog 107 #[.slice A n c] w fun e w' => e = .returned (.int .u32 (numL L)) ∧ w = w' := by
  obtain ⟨x0, x1, x2, x3, s, rfl⟩ : ∃ x0 x1 x2 x3 s, L = x0 :: x1 :: x2 :: x3 :: s := by
    have := h.len
    match L, this with
    | a :: b :: c :: d :: s, _ => exact ⟨a, b, c, d, s, rfl⟩
    | [], h | [_], h | [_, _], h | [_, _, _], h => simp at h; omega
  obtain ⟨ad, rfl, c0⟩ := in_at h (k := 0) rfl
  obtain ⟨_, e1, c1⟩ := in_at h (k := 1) rfl
  obtain ⟨_, e2, c2⟩ := in_at h (k := 2) rfl
  obtain ⟨_, e3, c3⟩ := in_at h (k := 3) rfl
  injection e1 with e1
  injection e2 with e2
  injection e3 with e3
  subst e1
  subst e2
  subst e3
  rw [show ad.add 0 = ad by simp [Addr.add]] at c0
  have c1' : w.cell? ⟨ad.block, ad.off + 1, none⟩ = some (.int .u8 x1) := c1
  have c2' : w.cell? ⟨ad.block, ad.off + 2, none⟩ = some (.int .u8 x2) := c2
  have c3' : w.cell? ⟨ad.block, ad.off + 3, none⟩ = some (.int .u8 x3) := c3
  have b0 := h.byt x0 (by simp)
  have b1 := h.byt x1 (by simp)
  have b2 := h.byt x2 (by simp)
  have b3 := h.byt x3 (by simp)
  have H : Hid (numL (x0 :: x1 :: x2 :: x3 :: s) = part4 x0 x1 x2 x3 4) := Lib.hid rfl
  obtain ⟨f, hf⟩ : ∃ f, part4 x0 x1 x2 x3 = f := ⟨_, rfl⟩
  have HF := Lib.hid hf
  rw [hf] at H
  have h4' : (4 : Int) ≤ n := by omega
  rw [H.out]
  clear h H hf
  go_enter Tryz.func107, Tryz.ntmps107
  go_wp2_with fail
  go_loop [3, 5] (fun t3 t5 => ∃ i : Nat, i ≤ 4 ∧ t5 = .int .i64 i ∧ t3 = .int .u32 (f i)) (fun _ t5 => 4 - (intOf t5).toNat)
  case atStart => exact ⟨0, by omega, rfl, by rw [← HF.out]; rfl⟩
  case round =>
    obtain ⟨i, hi, rfl, rfl⟩ := hrel
    rcases (by omega : i = 0 ∨ i = 1 ∨ i = 2 ∨ i = 3 ∨ i = 4) with rfl | rfl | rfl | rfl | rfl
    · go_wp2_with fail
      go_round
      case rel => exact ⟨1, by omega, rfl, int_val (by rw [← HF.out]; have := or_at 0 0 x0 (by omega) (by omega) (by omega) (by omega) (by omega); simpa [part4] using this)⟩
      case measure => decide
    · go_wp2_with fail
      go_round
      case rel => exact ⟨2, by omega, rfl, int_val (by rw [← HF.out]; have := or_at 8 x0 x1 (by omega) (by omega) (by omega) (by omega) (by omega); simp only [show (2 : Int) ^ 8 = 256 from rfl] at this; simp only [part4]; omega)⟩
      case measure => decide
    · go_wp2_with fail
      go_round
      case rel => exact ⟨3, by omega, rfl, int_val (by rw [← HF.out]; have := or_at 16 (x0 + 256 * x1) x2 (by omega) (by omega) (by omega) (by omega) (by omega); simp only [show (2 : Int) ^ 16 = 65536 from rfl] at this; simp only [part4]; omega)⟩
      case measure => decide
    · go_wp2_with fail
      go_round
      case rel => exact ⟨4, by omega, rfl, int_val (by rw [← HF.out]; have := or_at 24 (x0 + 256 * (x1 + 256 * x2)) x3 (by omega) (by omega) (by omega) (by omega) (by omega); simp only [show (2 : Int) ^ 24 = 16777216 from rfl] at this; simp only [part4]; omega)⟩
      case measure => decide
    · go_wp2_with fail
      go_ret
      exact ⟨rfl, rfl⟩
set_option maxRecDepth 100000 in
set_option maxHeartbeats 2000000 in
theorem appendWord_any (B : Nat) (A : Option Addr) (L : List Int) (n c v : Nat) (w : World) (hn : L.length = n) (h : Row w B A c L) (hB : B ≤ w.heap.size) (hl : n ≤ 140737488355324) (hv : v < 4294967296) :
    Calls Tryz.prog 102 #[.slice A n c, .int .u32 (v : Nat)] w (Longer w B (L ++ fourL v)) := by
  have HN := Lib.hid hn
  have HR := Lib.hid h
  have HB := Lib.hid hB
  obtain ⟨f, hf⟩ : ∃ f, fourL (v : Int) = f := ⟨_, rfl⟩
  have HF := Lib.hid hf
  rw [hf]
  clear hn h hf hB
  go_enter Tryz.func102, Tryz.ntmps102
  go_wp2_with fail
  go_loopw [0, 6] (fun t0 t6 wr => ∃ (i : Nat) (A' : Option Addr) (c' : Nat), i ≤ 4 ∧ t6 = .int .i64 i ∧ t0 = .slice A' (n + i) c' ∧ Hid (Row wr B A' c' (L ++ f.take i)) ∧ Hid (Below B w wr)) (fun _ t6 _ => 4 - (intOf t6).toNat)
  case atStart => exact ⟨0, A, c, by omega, rfl, rfl, Lib.hid (by simpa using HR.out), Lib.hid (Below.refl _ _)⟩
  case round =>
    obtain ⟨i, A', c', hi, rfl, rfl, hr, hb⟩ := hrel
    have hlen : Hid ((L ++ f.take i).length = n + i) := Lib.hid (by rw [List.length_append, HN.out, ← HF.out, List.length_take, fourL_len]; omega)
    rcases (by omega : i = 0 ∨ i = 1 ∨ i = 2 ∨ i = 3 ∨ i = 4) with rfl | rfl | rfl | rfl | rfl
    · have HT : Hid (L ++ f.take 1 = L ++ f.take 0 ++ [(v : Int) % 256]) := Lib.hid (by rw [← HF.out, List.append_assoc]; rfl)
      go_wp2_with (at_builtin; refine wpList_append_row _ rfl (.tmp 9) (.tmp 15) rfl B A' c' (L ++ f.take 0) [(v : Int) % 256] _ (n + 0) 1 1 rfl rfl hlen.out rfl (hr.out.alloc _) (row_made wr B [(v : Int) % 256] #[.int .u8 ((v : Int) % 256)] rfl (by simp) (Nat.le_trans HB.out hb.out.size)).lies (by have := HB.out; have := hb.out.size; simp; omega) (by rw [hlen.out]; simp; omega) ?_; intro A1 c1 w1 r1 b1; have R1 := Lib.hid r1; have B1 := Lib.hid ((hb.out.alloc (Nat.le_trans HB.out hb.out.size) _).trans b1); clear r1 b1)
      go_roundw
      case rel => exact ⟨1, A1, c1, by omega, rfl, rfl, Lib.hid (by rw [HT.out]; exact R1.out), B1⟩
      case measure => decide
    · have HT : Hid (L ++ f.take 2 = L ++ f.take 1 ++ [(v : Int) / 256 % 256]) := Lib.hid (by rw [← HF.out, List.append_assoc]; rfl)
      go_wp2_with (at_builtin; refine wpList_append_row _ rfl (.tmp 9) (.tmp 15) rfl B A' c' (L ++ f.take 1) [(v : Int) / 256 % 256] _ (n + 1) 1 1 rfl rfl hlen.out rfl (hr.out.alloc _) (row_made wr B [(v : Int) / 256 % 256] #[.int .u8 ((v : Int) / 256 % 256)] rfl (by simp) (Nat.le_trans HB.out hb.out.size)).lies (by have := HB.out; have := hb.out.size; simp; omega) (by rw [hlen.out]; simp; omega) ?_; intro A1 c1 w1 r1 b1; have R1 := Lib.hid r1; have B1 := Lib.hid ((hb.out.alloc (Nat.le_trans HB.out hb.out.size) _).trans b1); clear r1 b1)
      go_roundw
      case rel => exact ⟨2, A1, c1, by omega, rfl, rfl, Lib.hid (by rw [HT.out]; exact R1.out), B1⟩
      case measure => decide
    · have HT : Hid (L ++ f.take 3 = L ++ f.take 2 ++ [(v : Int) / 65536 % 256]) := Lib.hid (by rw [← HF.out, List.append_assoc]; rfl)
      go_wp2_with (at_builtin; refine wpList_append_row _ rfl (.tmp 9) (.tmp 15) rfl B A' c' (L ++ f.take 2) [(v : Int) / 65536 % 256] _ (n + 2) 1 1 rfl rfl hlen.out rfl (hr.out.alloc _) (row_made wr B [(v : Int) / 65536 % 256] #[.int .u8 ((v : Int) / 65536 % 256)] rfl (by simp) (Nat.le_trans HB.out hb.out.size)).lies (by have := HB.out; have := hb.out.size; simp; omega) (by rw [hlen.out]; simp; omega) ?_; intro A1 c1 w1 r1 b1; have R1 := Lib.hid r1; have B1 := Lib.hid ((hb.out.alloc (Nat.le_trans HB.out hb.out.size) _).trans b1); clear r1 b1)
      go_roundw
      case rel => exact ⟨3, A1, c1, by omega, rfl, rfl, Lib.hid (by rw [HT.out]; exact R1.out), B1⟩
      case measure => decide
    · have HT : Hid (L ++ f.take 4 = L ++ f.take 3 ++ [(v : Int) / 16777216]) := Lib.hid (by
        have e : (v : Int) / 16777216 % 256 = (v : Int) / 16777216 := by omega
        rw [← HF.out, List.append_assoc, ← e]
        rfl)
      go_wp2_with (at_builtin; refine wpList_append_row _ rfl (.tmp 9) (.tmp 15) rfl B A' c' (L ++ f.take 3) [(v : Int) / 16777216] _ (n + 3) 1 1 rfl rfl hlen.out rfl (hr.out.alloc _) (row_made wr B [(v : Int) / 16777216] #[.int .u8 ((v : Int) / 16777216)] rfl (by simp) (Nat.le_trans HB.out hb.out.size)).lies (by have := HB.out; have := hb.out.size; simp; omega) (by rw [hlen.out]; simp; omega) ?_; intro A1 c1 w1 r1 b1; have R1 := Lib.hid r1; have B1 := Lib.hid ((hb.out.alloc (Nat.le_trans HB.out hb.out.size) _).trans b1); clear r1 b1)
      go_roundw
      case rel => exact ⟨4, A1, c1, by omega, rfl, rfl, Lib.hid (by rw [HT.out]; exact R1.out), B1⟩
      case measure => decide
    · have HL : Hid (L ++ f.take 4 = L ++ f) := Lib.hid (by rw [← HF.out]; rfl)
      go_wp2_with fail
      go_ret
      exact ⟨A', c', ret_slice6 (by rw [← hlen.out, HL.out]), by rw [← HL.out]; exact hr.out, hb.out⟩
/-- What Put answers. -/
def putF (p : List Int) : List Int × Int := if 2097152 < p.length then ([], 3) else (putL p, 0)
theorem putF_long {p : List Int} (h : 2097152 < p.length) : putF p = ([], 3) := by unfold putF; rw [if_pos h]
theorem putF_ok {p : List Int} (h : ¬ 2097152 < p.length) : putF p = (putL p, 0) := by unfold putF; rw [if_neg h]
def Wrote (w : World) (p : List Int × Int) (e : Ending) (w' : World) : Prop :=
  ∃ A c, e = .returned (.tuple #[.slice A p.1.length c, .int .i64 p.2]) ∧ Row w' w.heap.size A c p.1 ∧ Below w.heap.size w w'
/-- .. a slice that has grown to so many bytes. -/
def LongerN (w : World) (B : Nat) (L : List Int) (m : Nat) (e : Ending) (w' : World) : Prop := ∃ A c, e = .returned (.slice A m c) ∧ Row w' B A c L ∧ Below B w w'
theorem longer_n {f : FuncId} {args : Array Value} {w : World} {B : Nat} {L M : List Int} {m : Nat} (h : Calls Tryz.prog f args w (Longer w B L)) (hL : L = M) (hm : M.length = m) : Calls Tryz.prog f args w (LongerN w B M m) := by
  subst hL
  subst hm
  exact h
set_option maxRecDepth 100000 in
set_option maxHeartbeats 2000000 in
theorem putF_any (A : Option Addr) (L : List Int) (n c : Nat) (w : World) (h : In w A L n c) :
    Calls Tryz.prog 86 #[.slice A n c] w (Wrote w (putF L)) := by
  have HN := Lib.hid h.len
  by_cases hl : 2097152 < n
  · have hl' : (2097152 : Int) < n := by omega
    have HE := Lib.hid (putF_long (p := L) (by have := HN.out; omega))
    clear h
    go_enter Tryz.func86, Tryz.ntmps86
    go_wp2
    go_ret2
    rw [HE.out]
    exact ⟨none, 0, rfl, Row.nil _ _, Below.refl _ _⟩
  · have hl' : ¬ (2097152 : Int) < n := by omega
    have hl2 : (n : Int) ≤ 2097152 := by omega
    have HE := Lib.hid (putF_ok (p := L) (by have := HN.out; omega))
    have HI := Lib.hid h
    obtain ⟨F, hF⟩ : ∃ F, fourL (n : Int) = F := ⟨_, rfl⟩
    have HF := Lib.hid hF
    have F4 : Hid (F.length = 4) := Lib.hid (by rw [← hF]; rfl)
    have FB : Hid (Byt F) := Lib.hid (by rw [← hF]; exact fourL_byt _)
    obtain ⟨S, hS⟩ : ∃ S, sumL (F ++ L) = S := ⟨_, rfl⟩
    have HS := Lib.hid hS
    have S32 : Hid (S < 4294967296) := Lib.hid (by rw [← hS]; exact sumL_lt _ (FB.out.append HI.out.byt))
    clear h hF hS
    go_enter Tryz.func86, Tryz.ntmps86
    go_upto_region 4 with (at_make; refine wpList_make_mine _ rfl _ _ rfl (8 + n) rfl rfl (by omega) ?_; intro w1 m1 b1 s1; have R1 := Lib.hid m1.row; have B1 := Lib.hid b1; clear m1 b1 s1)
    have W1 := Lib.hid (longer_n (appendWord_any w.heap.size _ [] 0 (8 + n) n w1 rfl R1.out B1.out.size (by omega) (by omega)) (M := F) (by rw [HF.out]; rfl) F4.out)
    go_upto_region 5 with (go_at_call 102; refine W1.out.mono ?_; rintro e w2 ⟨A2, c2, rfl, r2, b2⟩; have R2 := Lib.hid r2; have B2 := Lib.hid (B1.out.trans b2); clear r2 b2)
    have hF4 := F4.out
    have S2 : Hid (Calls Tryz.prog 103 #[.slice (some ⟨w2.heap.size, 0, none⟩) 2 2] (w2.alloc (.cells #[.slice A2 4 c2, .slice A n c] 42)) fun e w' => e = .returned (.int .u32 (S : Nat)) ∧ w2.alloc (.cells #[.slice A2 4 c2, .slice A n c] 42) = w') := Lib.hid (by
      have := sumOf_any (some ⟨w2.heap.size, 0, none⟩) [⟨A2, c2, F⟩, ⟨A, c, L⟩] 2 2 (w2.alloc (.cells #[.slice A2 4 c2, .slice A n c] 42)) rfl (by decide) (lit_lies w2 _ _ (by simp [svals, Sl.val, hF4, HN.out]) _)
        (AllIn.cons ((R2.out.in_ FB.out).kept (below_new w2 _)) (AllIn.cons ((HI.out.kept B2.out).of_n.kept (below_new w2 _)) (AllIn.nil _)))
      have e : (byts [⟨A2, c2, F⟩, ⟨A, c, L⟩]).flatten = F ++ L := by simp [byts]
      rw [e, HS.out] at this
      exact this)
    have B2' := Lib.hid (B2.out.alloc B2.out.size (.cells #[.slice A2 4 c2, .slice A n c] 42))
    have W3 := Lib.hid (appendWord_any w.heap.size A2 F 4 c2 S _ hF4 (R2.out.alloc (.cells #[.slice A2 4 c2, .slice A n c] 42)) B2'.out.size (by omega) S32.out)
    have L8 : Hid ((F ++ fourL (S : Int)).length = 8) := Lib.hid (by rw [List.length_append, F4.out]; rfl)
    have W3 := Lib.hid (longer_n W3.out rfl L8.out)
    clear hF4
    go_upto_region 6 with (first
      | (go_at_call 103; refine S2.out.mono ?_; rintro e w3 ⟨rfl, hw⟩; subst hw)
      | (go_at_call 102; refine W3.out.mono ?_; rintro e w4 ⟨A4, c4, rfl, r4, b4⟩; have R4 := Lib.hid r4; have B4 := Lib.hid (B2'.out.trans b4); clear r4 b4))
    go_wp2_with (at_builtin; refine wpList_append_row _ rfl (.tmp 23) (.tmp 24) rfl w.heap.size A4 c4 (F ++ fourL (S : Int)) L A 8 n c rfl rfl L8.out HN.out R4.out (HI.out.bys.kept B4.out) B4.out.size (by rw [L8.out, HN.out]; omega) ?_; intro A5 c5 w5 r5 b5; have R5 := Lib.hid r5; have B5 := Lib.hid (B4.out.trans b5); clear r5 b5)
    go_ret2
    have HP : F ++ fourL (S : Int) ++ L = putL L := by
      unfold putL
      rw [HN.out, HF.out, HS.out, List.append_assoc]
    have HLn : (putL L).length = 8 + n := by rw [putL_len, HN.out]
    rw [HE.out]
    exact ⟨A5, c5, by show _ = Ending.returned (.tuple #[.slice A5 (putL L).length c5, .int .i64 0]); rw [HLn]; rfl, by rw [← HP]; exact R5.out, B5.out⟩
end Go.Proofs.YtmgggddnfeojmaaGreat
namespace Go.Proofs.YtmgggddnfeojmaaGreat
open Go.RowKit
set_option maxRecDepth 100000 in
theorem framed_any (A : Option Addr) (L : List Int) (n c : Nat) (w : World) (h : In w A L n c) (hl : n ≤ 2097152) :
    Calls Tryz.prog 62 #[.slice A n c] w (Longer w w.heap.size (putL L)) := by
  have HP := Lib.hid (putF_any A L n c w h)
  rw [putF_ok (by have := h.len; omega)] at HP
  clear h hl
  go_enter Tryz.func62, Tryz.ntmps62
  go_wp2_with (go_at_call 86; refine HP.out.mono ?_; rintro e w1 ⟨A1, c1, rfl, r1, b1⟩; have R1 := Lib.hid r1; have B1 := Lib.hid b1; clear r1 b1)
  go_ret
  exact ⟨A1, c1, by simp, R1.out, B1.out⟩
end Go.Proofs.YtmgggddnfeojmaaGreat
namespace Go.Proofs.YtmgggddnfeojmaaGreat
open Go.RowKit
/-- An entry that was made: both its slices are new memory. -/
def ECop (w : World) (x : En) (e : Ending) (w' : World) : Prop := ∃ x' : En, x'.rd = x.rd ∧ e = .returned x'.val ∧ Row w' w.heap.size x'.k.a x'.k.c x'.k.l ∧ Row w' w.heap.size x'.v.a x'.v.c x'.v.l ∧ Below w.heap.size w w'
theorem set_two {W : World} {z : Nat} {a s d b u v : Value} {t : TypeId} (h : W.heap[z]? = some (.cells #[a, s, d, b] t (0, 0))) : ((W.setCell ⟨z, 0, none⟩ u).setCell ⟨z, 3, none⟩ v).heap[z]? = some (.cells #[u, s, d, v] t (0, 0)) := by
  have h1 := heap_setCell_same W z 0 _ t u h
  exact heap_setCell_same _ z 3 _ t v h1
theorem set_two_other (W : World) (z j : Nat) (u v : Value) (hj : j ≠ z) : ((W.setCell ⟨z, 0, none⟩ u).setCell ⟨z, 3, none⟩ v).heap[j]? = W.heap[j]? := by
  rw [heap_setCell_other _ _ _ _ hj, heap_setCell_other _ _ _ _ hj]
theorem set_two_kp (W : World) (z B : Nat) (u v : Value) (hz : z < B) : Kp (fun j => B ≤ j) W ((W.setCell ⟨z, 0, none⟩ u).setCell ⟨z, 3, none⟩ v) :=
  ((Kp.refl _ W).set z 0 u (by omega)).set z 3 v (by omega)
theorem set_four {W : World} {z : Nat} {a b c d e f g h : Value} {t : TypeId} (hz : W.heap[z]? = some (.cells #[a, b, c, d] t (0, 0))) : ((((W.setCell ⟨z, 0, none⟩ e).setCell ⟨z, 1, none⟩ f).setCell ⟨z, 2, none⟩ g).setCell ⟨z, 3, none⟩ h).heap[z]? = some (.cells #[e, f, g, h] t (0, 0)) := by
  have h1 := heap_setCell_same W z 0 _ t e hz
  have h2 := heap_setCell_same _ z 1 _ t f h1
  have h3 := heap_setCell_same _ z 2 _ t g h2
  exact heap_setCell_same _ z 3 _ t h h3
theorem set_four_kp {S : Nat → Prop} {w W : World} (hk : Kp S w W) (z : Nat) (e f g h : Value) (hz : ¬ S z) : Kp S w ((((W.setCell ⟨z, 0, none⟩ e).setCell ⟨z, 1, none⟩ f).setCell ⟨z, 2, none⟩ g).setCell ⟨z, 3, none⟩ h) :=
  (((hk.set z 0 e hz).set z 1 f hz).set z 2 g hz).set z 3 h hz
theorem Kp.of_below {B : Nat} {w W : World} (h : Below B w W) : Kp (fun j => j < B) w W := ⟨h.os, h.tape, h.output, h.size, fun k hk => h.block k hk⟩
theorem set_two_below {w W : World} {B : Nat} (h : Below B w W) (z : Nat) (u v : Value) (hz : B ≤ z) : Below B w ((W.setCell ⟨z, 0, none⟩ u).setCell ⟨z, 3, none⟩ v) :=
  ⟨h.os, h.tape, h.output, by simpa using h.size, fun k hk => (set_two_other W z k u v (by omega)).trans (h.block k hk)⟩
set_option maxRecDepth 100000 in
set_option maxHeartbeats 8000000 in
theorem eclone_any (x : En) (w : World) (hx : EIn w x) (hk : x.k.l.length ≤ 140737488355328) (hv : x.v.l.length ≤ 140737488355328) : Calls Tryz.prog 46 #[x.val] w (ECop w x) := by
  have HX := Lib.hid (fun (W : World) (hb : Below w.heap.size w W) => hx.kept hb)
  rw [En.val_eq]
  obtain ⟨⟨ka, kc, k⟩, s, d, ⟨va, vc, v⟩⟩ := x
  simp only at hk hv ⊢
  obtain ⟨n, hn⟩ : ∃ n, k.length = n := ⟨_, rfl⟩
  obtain ⟨m, hm⟩ : ∃ m, v.length = m := ⟨_, rfl⟩
  have HCK : Hid (∀ W : World, Below w.heap.size w W → Calls Tryz.prog 42 #[.slice ka n kc] W (Longer W W.heap.size k)) := Lib.hid (fun W hb => clone_any ka k n kc W hn (HX.out W hb).1.bys hk)
  have HCV : Hid (∀ W : World, Below w.heap.size w W → Calls Tryz.prog 42 #[.slice va m vc] W (Longer W W.heap.size v)) := Lib.hid (fun W hb => clone_any va v m vc W hm (HX.out W hb).2.bys hv)
  have HN := Lib.hid hn
  have HM := Lib.hid hm
  rw [hn, hm]
  clear hn hm hk hv hx
  go_enter Tryz.func46, Tryz.ntmps46
  go_upto_region 1 with fail
  obtain ⟨w1, hw1⟩ : ∃ w1, ((w.alloc (.cells #[.slice ka n kc, .int .i64 s, .bool d, .slice va m vc] 48)).alloc (.cells #[.slice none 0 0, .int .i64 0, .bool false, .slice none 0 0] 48)) = w1 := ⟨_, rfl⟩
  have B1 : Hid (Below w.heap.size w w1) := Lib.hid (hw1 ▸ (below_new _ _).alloc (by simp) _)
  have hz : w1.heap.size = w.heap.size + 2 := by rw [← hw1]; simp
  have HH : Hid (∀ W : World, Below w1.heap.size w1 W → W.heap[w.heap.size]? = some (.cells #[.slice ka n kc, .int .i64 s, .bool d, .slice va m vc] 48 (0, 0))) := Lib.hid (fun W hb => by
    refine (hb.block w.heap.size (by omega)).trans ?_
    rw [← hw1, RowKit.Below.heap_alloc _ _ _ (by simp)]
    exact heap_alloc_new w _)
  have HR : Hid (∀ W : World, Below w1.heap.size w1 W → W.heap[w.heap.size + 1]? = some (.cells #[.slice none 0 0, .int .i64 0, .bool false, .slice none 0 0] 48 (0, 0))) := Lib.hid (fun W hb => by
    refine (hb.block (w.heap.size + 1) (by omega)).trans ?_
    have := heap_alloc_new (w.alloc (.cells #[.slice ka n kc, .int .i64 s, .bool d, .slice va m vc] 48)) (.cells #[.slice none 0 0, .int .i64 0, .bool false, .slice none 0 0] 48)
    rwa [hw1, show (w.alloc (.cells #[.slice ka n kc, .int .i64 s, .bool d, .slice va m vc] 48)).heap.size = w.heap.size + 1 by simp] at this)
  rw [hw1]
  clear hw1
  have HC : Hid (∀ W : World, Below w1.heap.size w1 W → W.cell? ⟨w.heap.size, 0, none⟩ = some (.slice ka n kc) ∧ W.cell? ⟨w.heap.size, 3, none⟩ = some (.slice va m vc) ∧ W.frozen? ⟨w.heap.size, 0, none⟩ = false ∧ W.frozen? ⟨w.heap.size, 3, none⟩ = false) := Lib.hid (fun W hb => by
    have h := HH.out W hb
    refine ⟨?_, ?_, ?_, ?_⟩ <;> simp [World.cell?, World.frozen?, h])
  have CB := Lib.hid (Below.refl w1.heap.size w1)
  obtain ⟨p1, p2, -, -⟩ := HC.out w1 CB.out
  go_region_with (go_at_call 42; first
    | (refine (HCK.out _ (B1.out.trans ((by repeat (first | exact Below.refl _ _ | exact CB.out | refine Below.drew ?_) : Below w1.heap.size w1 _).mono B1.out.size))).mono ?_; rintro e w2 ⟨A1, c1, rfl, r1, b1⟩; have R1 := Lib.hid (r1.mono (by repeat (first | exact Below.refl _ _ | exact CB.out | refine Below.drew ?_) : Below w1.heap.size w1 _).size); replace CB := Lib.hid (below_then (by repeat (first | exact Below.refl _ _ | exact CB.out | refine Below.drew ?_) : Below w1.heap.size w1 _) b1); obtain ⟨q1, q2, -, -⟩ := HC.out w2 CB.out; clear r1 b1)
    | (refine (HCV.out _ (B1.out.trans ((by repeat (first | exact Below.refl _ _ | exact CB.out | refine Below.drew ?_) : Below w1.heap.size w1 _).mono B1.out.size))).mono ?_; rintro e w3 ⟨A2, c2, rfl, r2, b2⟩; have R2 := Lib.hid (r2.mono (by repeat (first | exact Below.refl _ _ | exact CB.out | refine Below.drew ?_) : Below w1.heap.size w1 _).size); have B3 := Lib.hid (below_then (by repeat (first | exact Below.refl _ _ | refine Below.drew ?_) : Below w2.heap.size w2 _) b2); replace CB := Lib.hid (below_then (by repeat (first | exact Below.refl _ _ | exact CB.out | refine Below.drew ?_) : Below w1.heap.size w1 _) b2); obtain ⟨r1, r2, r3, r4⟩ := HC.out w3 CB.out; clear b2))
  all_goals
    have H4 := Lib.hid (set_two (u := .slice A1 k.length c1) (v := .slice A2 v.length c2) (HH.out w3 CB.out))
    have H5 := Lib.hid ((set_two_other w3 w.heap.size (w.heap.size + 1) (.slice A1 k.length c1) (.slice A2 v.length c2) (by omega)).trans (HR.out w3 CB.out))
    have K4 := Lib.hid (set_two_kp w3 w.heap.size w1.heap.size (.slice A1 k.length c1) (.slice A2 v.length c2) (by omega))
    have B4 := Lib.hid (set_two_below (B1.out.trans (CB.out.mono B1.out.size)) w.heap.size (.slice A1 k.length c1) (.slice A2 v.length c2) (Nat.le_refl _))
    clear r1 r2 r3 r4 q1 q2 p1 p2 HH HR HC HX HCK HCV
    generalize ((w3.setCell ⟨w.heap.size, 0, none⟩ (.slice A1 k.length c1)).setCell ⟨w.heap.size, 3, none⟩ (.slice A2 v.length c2)) = w4 at H4 H5 K4 B4 ⊢
    obtain ⟨x0, x1, x2, x3⟩ : w4.cell? ⟨w.heap.size, 0, none⟩ = some (.slice A1 k.length c1) ∧ w4.cell? ⟨w.heap.size, 1, none⟩ = some (.int .i64 s) ∧ w4.cell? ⟨w.heap.size, 2, none⟩ = some (.bool d) ∧ w4.cell? ⟨w.heap.size, 3, none⟩ = some (.slice A2 v.length c2) := by
      have h := H4.out
      refine ⟨?_, ?_, ?_, ?_⟩ <;> simp [World.cell?, h]
    obtain ⟨y0, y1, y2, y3, f0, f1, f2, f3⟩ : w4.cell? ⟨w.heap.size + 1, 0, none⟩ = some (.slice none 0 0) ∧ w4.cell? ⟨w.heap.size + 1, 1, none⟩ = some (.int .i64 0) ∧ w4.cell? ⟨w.heap.size + 1, 2, none⟩ = some (.bool false) ∧ w4.cell? ⟨w.heap.size + 1, 3, none⟩ = some (.slice none 0 0) ∧ w4.frozen? ⟨w.heap.size + 1, 0, none⟩ = false ∧ w4.frozen? ⟨w.heap.size + 1, 1, none⟩ = false ∧ w4.frozen? ⟨w.heap.size + 1, 2, none⟩ = false ∧ w4.frozen? ⟨w.heap.size + 1, 3, none⟩ = false := by
      have h := H5.out
      refine ⟨?_, ?_, ?_, ?_, ?_, ?_, ?_, ?_⟩ <;> simp [World.cell?, World.frozen?, h]
    go_wp2_with fail
    have H6 := Lib.hid (set_four (e := .slice A1 k.length c1) (f := .int .i64 s) (g := .bool d) (h := .slice A2 v.length c2) H5.out)
    have K5 := Lib.hid (set_four_kp K4.out (w.heap.size + 1) (.slice A1 k.length c1) (.int .i64 s) (.bool d) (.slice A2 v.length c2) (by omega))
    have B5 := Lib.hid ((set_four_kp (Kp.of_below B4.out) (w.heap.size + 1) (.slice A1 k.length c1) (.int .i64 s) (.bool d) (.slice A2 v.length c2) (by omega)).below (fun _ hk => hk))
    clear x0 x1 x2 x3 y0 y1 y2 y3 f0 f1 f2 f3 H4 H5 K4 B4
    generalize ((((w4.setCell ⟨w.heap.size + 1, 0, none⟩ (.slice A1 k.length c1)).setCell ⟨w.heap.size + 1, 1, none⟩ (.int .i64 s)).setCell ⟨w.heap.size + 1, 2, none⟩ (.bool d)).setCell ⟨w.heap.size + 1, 3, none⟩ (.slice A2 v.length c2)) = w5 at H6 K5 B5 ⊢
    obtain ⟨x0, x1, x2, x3⟩ : w5.cell? ⟨w.heap.size + 1, 0, none⟩ = some (.slice A1 k.length c1) ∧ w5.cell? ⟨w.heap.size + 1, 1, none⟩ = some (.int .i64 s) ∧ w5.cell? ⟨w.heap.size + 1, 2, none⟩ = some (.bool d) ∧ w5.cell? ⟨w.heap.size + 1, 3, none⟩ = some (.slice A2 v.length c2) := by
      have h := H6.out
      refine ⟨?_, ?_, ?_, ?_⟩ <;> simp [World.cell?, h]
    have R3 := own_kp (R1.out.kept B3.out (Nat.le_refl _)) K5.out (fun ad ha => (own_in (R1.out.kept B3.out (Nat.le_refl _)) ad ha).1)
    have R4 := own_kp R2.out K5.out (fun ad ha => (own_in R2.out ad ha).1)
    have Q3 := Lib.hid (own_mono R3 B1.out.size)
    have Q4 := Lib.hid (own_mono R4 B1.out.size)
    clear R3 R4
    try simp only [Exit.inBlock, Exit.then]
    refine bodyPost_ret (results_cell_row rfl _ _ (w.heap.size + 1) 48 #[.slice A1 k.length c1, .int .i64 s, .bool d, .slice A2 v.length c2] (0, 0) _ rfl H6.out Tryz.underlying48 rfl (by kernel_rfl)) rfl ?_
    exact ⟨⟨⟨A1, c1, k⟩, s, d, ⟨A2, c2, v⟩⟩, rfl, rfl, Q3.out, Q4.out, B5.out⟩
end Go.Proofs.YtmgggddnfeojmaaGreat
namespace Go.Proofs.YtmgggddnfeojmaaGreat
open Go.RowKit
theorem results_ctt {P : Program} {fn : Func} {p u v : Tmp} {ty : TypeId} (h : fn.results = #[.cell p ty, .tmp u, .tmp v]) (tmps : Array Value) (w : World) (g : Nat) (t : TypeId) (cs : Array Value) (fr : Nat × Nat) (d : TypeDesc)
    (hp : tmps.getD p undef = .pointer (some ⟨g, 0, none⟩)) (hg : w.heap[g]? = some (.cells cs t fr))
    (hu : P.underlying ty = some d) (hd : (match d with | .struct _ | .array _ _ => true | _ => false) = true) (hi : (P.info? ty).map (·.size) = some cs.size) :
    (results fn tmps).run P w = .ok (.tuple #[.agg cs, tmps.getD u undef, tmps.getD v undef]) w := by
  have hp' : tmps[p]?.getD undef = .pointer (some ⟨g, 0, none⟩) := by simpa using hp
  simp [results, h, hp', asAddr, run_loadVar_row w g t ty cs fr d hg hu hd hi]
/-- What a read of a version answers. -/
def GotE (w : World) (p : (Int × Bool × List Int) × Int × Int) (e : Ending) (w' : World) : Prop :=
  ∃ A c, e = .returned (.tuple #[.agg #[.slice none 0 0, .int .i64 p.1.1, .bool p.1.2.1, .slice A p.1.2.2.length c], .int .i64 p.2.1, .int .i64 p.2.2]) ∧ ((A = none ∧ p.1.2.2 = [] ∧ c = 0) ∨ ∃ g, A = some ⟨g, 0, none⟩ ∧ Mine w' w.heap.size g c p.1.2.2) ∧ Below w.heap.size w w'
set_option maxRecDepth 100000 in
set_option maxHeartbeats 8000000 in
theorem versionAt_any (A : Option Addr) (L : List Int) (n c : Nat) (at_ : Int) (w : World) (h : In w A L n c) (hl : n ≤ 281474976710656) : Calls Tryz.prog 109 #[.slice A n c, .int .i64 at_] w (GotE w (verP L at_)) := by
  have HU := Lib.hid (fun W (hb : Below w.heap.size w W) => uint_any A L n c at_ W (h.kept hb))
  have HB := Lib.hid (fun W (hb : Below w.heap.size w W) i => vbytes_any A L n c i 4096 W (h.kept hb) hl (by omega))
  obtain ⟨b0, b1, -, -, b5, b6⟩ := uintP_bd L at_ h.byt
  clear h hl
  unfold verP
  unfold Ans at HU
  generalize uintP L at_ = p at HU b0 b1 b5 b6 ⊢
  obtain ⟨v, i, e⟩ := p
  simp only at HU HB b0 b1 b5 b6 ⊢
  by_cases he : e = 0
  · have he' : (e != 0) = false := by simpa using he
    rw [if_neg (by simpa using he)]
    have HV := Lib.hid (fun W (hb : Below w.heap.size w W) => HB.out W hb i)
    generalize bytesP L i 4096 = q at HV ⊢
    obtain ⟨x, j, r⟩ := q
    unfold GotV at HV
    simp only at HV ⊢
    have e1 := and_one v b0 b1
    have e2 : IntKind.i64.wrap (v / 2) = v / 2 := by rw [IntKind.wrap_i64]; omega
    clear he HB
    go_enter Tryz.func109, Tryz.ntmps109
    go_wp2_with (first
      | (go_at_call 91; refine (HU.out _ (below_new _ _)).mono ?_; rintro e w1 ⟨rfl, rfl⟩)
      | (go_at_call 92; refine (HV.out _ (below_new _ _)).mono ?_; rintro e w2 ⟨A2, c2, rfl, m2, bb⟩; have M2 := Lib.hid m2; have H2 := Lib.hid ((bb.block w.heap.size (by simp)).trans (heap_alloc_new w _)); have B2 := Lib.hid (Below.trans (below_new w (.cells #[.slice none 0 0, .int .i64 0, .bool false, .slice none 0 0] 48)) (bb.mono (by simp))); obtain ⟨y0, y1, y2, y3, f0, f1, f2, f3⟩ : w2.cell? ⟨w.heap.size, 0, none⟩ = some (.slice none 0 0) ∧ w2.cell? ⟨w.heap.size, 1, none⟩ = some (.int .i64 0) ∧ w2.cell? ⟨w.heap.size, 2, none⟩ = some (.bool false) ∧ w2.cell? ⟨w.heap.size, 3, none⟩ = some (.slice none 0 0) ∧ w2.frozen? ⟨w.heap.size, 0, none⟩ = false ∧ w2.frozen? ⟨w.heap.size, 1, none⟩ = false ∧ w2.frozen? ⟨w.heap.size, 2, none⟩ = false ∧ w2.frozen? ⟨w.heap.size, 3, none⟩ = false := (by have h := H2.out; refine ⟨?_, ?_, ?_, ?_, ?_, ?_, ?_, ?_⟩ <;> simp [World.cell?, World.frozen?, h]); clear m2 bb))
    have H6 := Lib.hid (set_four (e := .slice none 0 0) (f := .int .i64 (v / 2)) (g := .bool (v % 2 == 1)) (h := .slice A2 x.length c2) H2.out)
    have B5 := Lib.hid ((set_four_kp (Kp.of_below B2.out) w.heap.size (.slice none 0 0) (.int .i64 (v / 2)) (.bool (v % 2 == 1)) (.slice A2 x.length c2) (by omega)).below (fun _ hk => hk))
    have K5 := Lib.hid (set_four_kp (Kp.refl (fun j => w.heap.size + 1 ≤ j) w2) w.heap.size (.slice none 0 0) (.int .i64 (v / 2)) (.bool (v % 2 == 1)) (.slice A2 x.length c2) (by omega))
    try simp only [Exit.inBlock, Exit.then]
    refine bodyPost_ret (results_ctt rfl _ _ w.heap.size 48 #[.slice none 0 0, .int .i64 (v / 2), .bool (v % 2 == 1), .slice A2 x.length c2] (0, 0) _ rfl H6.out Tryz.underlying48 rfl (by kernel_rfl)) rfl ?_
    refine ⟨A2, c2, ?_, ?_, B5.out⟩
    · have e9 : (v % 2 == 1) = decide (v % 2 = 1) := by rfl
      rw [e9]
      rfl
    · rcases M2.out with ⟨g1, g2⟩ | ⟨g, g1, g2⟩
      · exact .inl ⟨g1, g2⟩
      · refine .inr ⟨g, g1, ?_⟩
        have l := g2.lt
        have l1 : w.heap.size + 1 ≤ g := by simpa using l.1
        exact (g2.of_block (K5.out.block g l1)).mono (by simp)
  · have he' : (e != 0) = true := by simpa using he
    rw [if_pos (by simpa using he)]
    clear HB
    go_enter Tryz.func109, Tryz.ntmps109
    go_wp2_with (go_at_call 91; refine (HU.out _ (below_new _ _)).mono ?_; rintro e w1 ⟨rfl, rfl⟩)
    try simp only [Exit.inBlock, Exit.then]
    refine bodyPost_ret (results_ctt rfl _ _ w.heap.size 48 #[.slice none 0 0, .int .i64 0, .bool false, .slice none 0 0] (0, 0) _ rfl (heap_alloc_new w _) Tryz.underlying48 rfl (by kernel_rfl)) rfl ?_
    exact ⟨none, 0, rfl, .inl ⟨rfl, rfl, rfl⟩, below_new w _⟩
end Go.Proofs.YtmgggddnfeojmaaGreat
namespace Go.Proofs.YtmgggddnfeojmaaGreat
open Go.RowKit
/-- A slice of entries, as a value: its place, its room, its entries. -/
structure Gl where
  a : Option Addr
  c : Nat
  l : List En
def Gl.val (s : Gl) : Value := .slice s.a s.l.length s.c
def gvals (T : List Gl) : List Value := T.map Gl.val
theorem gvals_len (T : List Gl) : (gvals T).length = T.length := by simp [gvals]
theorem gvals_append (S T : List Gl) : gvals (S ++ T) = gvals S ++ gvals T := by simp [gvals]
theorem gvals_of {T : List Gl} {j : Nat} {s : Gl} (h : T[j]? = some s) : (gvals T)[j]? = some s.val := by simp [gvals, h]
theorem gvals_one {T : List Gl} : ∀ u ∈ gvals T, u.oneCell' = true := fun u hu => by
  obtain ⟨x, -, rfl⟩ := List.mem_map.1 hu
  rfl
theorem info22 : (Tryz.prog.info? 22).map (fun i => (i.zero, i.size, i.bytes)) = some (some (.slice none 0 0), 1, 24) := by kernel_rfl
/-- A row of slices of entries of the call's own, or nil. -/
def Grow (w : World) (B : Nat) (A : Option Addr) (c : Nat) (T : List Gl) : Prop := w.ownsRow B 22 1 (.slice A T.length c) T.length (gvals T)
theorem Grow.nil (w : World) (B : Nat) : Grow w B none 0 [] := World.ownsRow_nil w B _ _
theorem Grow.lies {w : World} {B : Nat} {A : Option Addr} {c : Nat} {T : List Gl} (h : Grow w B A c T) : Lies w A (gvals T) := by
  rcases h.2 with ⟨_, h⟩ | ⟨g, cap, cur, e, _⟩
  · exact .inl (by rw [List.eq_nil_of_length_eq_zero h]; rfl)
  · injection e with e1 e2 e3
    subst e1
    exact .inr ⟨_, rfl, fun j u hu => World.ownsRow.cells h (g := g) rfl j u hu⟩
theorem Grow.kept {w w' : World} {B C : Nat} {A : Option Addr} {c : Nat} {T : List Gl} (h : Grow w B A c T) (hb : Below C w w') (hC : w.heap.size ≤ C) : Grow w' B A c T := own_kept h hb hC
theorem Grow.mono {w : World} {B C : Nat} {A : Option Addr} {c : Nat} {T : List Gl} (h : Grow w B A c T) (hC : C ≤ B) : Grow w C A c T := own_mono h hC
theorem Grow.alloc {w : World} {B : Nat} {A : Option Addr} {c : Nat} {T : List Gl} (h : Grow w B A c T) (o : Obj) : Grow (w.alloc o) B A c T := h.kept (below_new w o) (Nat.le_refl _)
theorem wpList_append_grow (w : World) {ops : Array Oper} {rest : List Oper} {o : Oper} {a : Act} {Q : Exit → Act → World → Prop} (hgd : o.guard = none) (s x : Operand)
    (ho : o.op = .call { callee := .builtin .append, args := #[s, x], argTypes := #[116, 116] })
    (B : Nat) (A : Option Addr) (c : Nat) (T U : List Gl) (C : Option Addr) (n m cm : Nat) (hs : a.eval s = .slice A n c) (hx : a.eval x = .slice C m cm) (en : T.length = n) (em : U.length = m) (h : Grow w B A c T) (hm : Lies w C (gvals U)) (hB : B ≤ w.heap.size) (hr : (T.length + U.length) * 24 ≤ 140737488355328)
    (k : ∀ A' c' w', Grow w' B A' c' (T ++ U) → Below B w w' → w.grownBy w' (Value.slice A n c).ownBlock → wpList Tryz.prog ops Q rest (a.put o.dst (.slice A' (n + m) c')) w') : wpList Tryz.prog ops Q (o :: rest) a w := by
  subst en
  subst em
  obtain ⟨i, hi, hz0, hz1, hz2⟩ := info_parts info22
  refine wpList_plain hgd fun K hK => ?_
  obtain ⟨A', c', w', r, h2, h3, h4⟩ := run_append_grown w 116 o.type 22 i (.slice none 0 0) 1 24 Tryz.underlying116 hi hz0 hz1 hz2 rfl (by decide) B A T.length c (gvals T) h C U.length cm (gvals U) (by simp [gvals_len]) hm gvals_one (by unfold maxLen; omega) hr hB
  rw [← gvals_append] at h2
  have k' := k A' c' w' (by unfold Grow; rw [List.length_append]; exact h2) h3 h4
  unfold Oper.wp execOp
  simp only [ho, resolve, invoke, builtin, Sem.run_bind, Sem.run_pure, Result.andThen_ok, List.map_toArray, List.map_cons, List.map_nil, hs, hx, r]
  exact hK _ _ k'
end Go.Proofs.YtmgggddnfeojmaaGreat
namespace Go.Proofs.YtmgggddnfeojmaaGreat
open Go.RowKit
/-- What stands behind some of the pieces. -/
structure PcS (W : World) (m : Nat) (l : List En) (T : List Gl) (l' : List En) : Prop where
  eq : piecesE m (ers l) = T.map (fun g => ers g.l) ++ piecesE m (ers l')
  lies : ∀ g ∈ T, Lies W g.a (evals g.l)
  mem : ∀ g ∈ T, ∀ q ∈ g.l, q ∈ l
  rest : ∀ q ∈ l', q ∈ l
  cap : ∀ g ∈ T, g.l.length ≤ g.c ∧ (g.c : Int) ≤ 9223372036854775807
theorem PcS.kept {w w' : World} {m : Nat} {l l' : List En} {T : List Gl} (h : PcS w m l T l') (hb : Below w.heap.size w w') : PcS w' m l T l' := ⟨h.eq, fun g hg => (h.lies g hg).kept hb, h.mem, h.rest, h.cap⟩
theorem lies_take {w : World} {A : Option Addr} {l : List En} (h : Lies w A (evals l)) (k : Nat) : Lies w A (evals (l.take k)) := by
  have e : evals l = evals (l.take k) ++ evals (l.drop k) := by rw [← evals_append, List.take_append_drop]
  rcases h with h | ⟨ad, h1, h2⟩
  · rw [e] at h
    exact .inl (List.append_eq_nil_iff.1 h).1
  · refine .inr ⟨ad, h1, fun j u hu => h2 j u ?_⟩
    rw [e, List.getElem?_append_left (List.getElem?_eq_some_iff.1 hu).1]
    exact hu
theorem lies_drop {w : World} {A : Option Addr} {l : List En} (h : Lies w A (evals l)) (k c : Nat) (hc : l.length ≤ c) : Lies w (if c = k then A else A.map (·.add (k * 4))) (evals (l.drop k)) := by
  have := lies_part h k (l.drop k).length c hc
  rwa [List.take_length] at this
theorem PcS.step {w : World} {m k : Nat} {l L : List En} {T : List Gl} {x : En} {A : Option Addr} {c : Nat} (h : PcS w m l T (x :: L)) (hm : 1 ≤ m) (hk : fillN m (ers (x :: L)) = k) (hl : Lies w A (evals (x :: L))) (hc : (x :: L).length ≤ c) (hc9 : (c : Int) ≤ 9223372036854775807) :
    PcS w m l (T ++ [⟨A, c, (x :: L).take k⟩]) ((x :: L).drop k) := by
  refine ⟨?_, ?_, ?_, fun q hq => h.rest q (List.mem_of_mem_drop hq), ?_⟩
  · have e := piecesE_cons hm x.rd (ers L)
    rw [show x.rd :: ers L = ers (x :: L) from rfl, hk] at e
    rw [h.eq, e, List.map_append, List.append_assoc, ers_drop]
    simp [ers_take]
  · intro g hg
    rcases List.mem_append.1 hg with hg | hg
    · exact h.lies g hg
    · obtain rfl := List.mem_singleton.1 hg
      exact lies_take hl k
  · intro g hg q hq
    rcases List.mem_append.1 hg with hg | hg
    · exact h.mem g hg q hq
    · obtain rfl := List.mem_singleton.1 hg
      exact h.rest q (List.mem_of_mem_take hq)
  · intro g hg
    rcases List.mem_append.1 hg with hg | hg
    · exact h.cap g hg
    · obtain rfl := List.mem_singleton.1 hg
      exact ⟨by simp only [List.length_take]; omega, hc9⟩
set_option maxRecDepth 100000 in
set_option maxHeartbeats 8000000 in
theorem pieces_any (A : Option Addr) (l : List En) (n c m : Nat) (w : World) (hn : l.length = n) (h : Lies w A (evals l)) (hg : ∀ e ∈ ers l, GoodE e) (hl : n * 64 ≤ 140737488351232) (hc : n ≤ c) (hc9 : (c : Int) ≤ 9223372036854775807) (hm0 : 1 ≤ m) (hm : m ≤ 4611686018427387904) :
    Calls Tryz.prog 59 #[.slice A n c, .int .i64 m] w fun e w' => ∃ T A' c', e = .returned (.slice A' T.length c') ∧ Grow w' w.heap.size A' c' T ∧ PcS w' m l T [] ∧ Below w.heap.size w w' := by
  have HF : Hid (∀ (A0 : Option Addr) (l' : List En) (c0 : Nat) (W : World), Lies W A0 (evals l') → (∀ q ∈ l', q ∈ l) → l'.length ≤ n → Calls Tryz.prog 80 #[.slice A0 l'.length c0, .int .i64 m] W fun e w' => e = .returned (.int .i64 (fillN m (ers l') : Nat)) ∧ ∃ q, w' = W.drewN q) := Lib.hid (fun A0 l' c0 W h1 h2 h3 => fill_any A0 l' l'.length c0 m W rfl h1 (fun e he => by
    obtain ⟨q, hq, rfl⟩ := List.mem_map.1 he
    exact hg _ (List.mem_map_of_mem (h2 q hq))) (by omega) hm)
  have HA := Lib.hid h
  have HM := Lib.hid hm
  have HM0 := Lib.hid hm0
  have HL := Lib.hid hl
  subst hn
  clear hg h hl hm hm0
  go_enter Tryz.func59, Tryz.ntmps59
  go_wp2_with fail
  go_loopw [0, 5] (fun t0 t5 wr => ∃ (l' : List En) (A0 : Option Addr) (c0 : Nat) (T : List Gl) (A5 : Option Addr) (c5 : Nat), t0 = .slice A0 l'.length c0 ∧ t5 = .slice A5 T.length c5 ∧ l'.length ≤ c0 ∧ (c0 : Int) ≤ 9223372036854775807 ∧ l'.length + T.length ≤ l.length ∧ Hid (Lies w A0 (evals l')) ∧ Hid (Grow wr w.heap.size A5 c5 T) ∧ Hid (PcS w m l T l') ∧ Hid (Below w.heap.size w wr)) (fun t0 _ _ => (match t0 with | .slice _ k _ => k | _ => 0))
  case atStart => exact ⟨l, A, c, [], none, 0, rfl, rfl, hc, hc9, by simp, HA, Lib.hid (Grow.nil _ _), Lib.hid ⟨by simp, by simp, by simp, fun _ h => h, by simp⟩, Lib.hid (Below.refl _ _)⟩
  case round =>
    obtain ⟨l', A0, c0, T, A5, c5, rfl, rfl, k1, k2, k3, HL0, HG5, HP, HB⟩ := hrel
    cases l' with
    | nil =>
      have i0 : ¬ (0 : Int) > 0 := by omega
      simp only [List.length_nil] at *
      go_wp2_with fail
      go_ret
      exact ⟨T, A5, c5, rfl, HG5.out, HP.out.kept HB.out, HB.out⟩
    | cons x l' =>
      obtain ⟨k, hk⟩ : ∃ k, fillN m (ers (x :: l')) = k := ⟨_, rfl⟩
      have HK := Lib.hid hk
      have hk1 : 1 ≤ k := by rw [← hk]; exact fillN_pos HM0.out
      have hk2 : k ≤ (x :: l').length := by rw [← hk, ← ers_len]; exact (fillN_le _ _).2
      have HC := Lib.hid (HF.out A0 (x :: l') c0 wr (HL0.out.kept HB.out) HP.out.rest (by omega))
      rw [hk] at HC
      clear hk
      obtain ⟨z, hz⟩ : ∃ z, (x :: l').length = z := ⟨_, rfl⟩
      obtain ⟨t, ht⟩ : ∃ t, T.length = t := ⟨_, rfl⟩
      rw [hz] at k1 k3 hk2 HC ⊢
      rw [ht] at k3 ⊢
      have HZ := Lib.hid hz
      have HT := Lib.hid ht
      clear hz ht
      have i0 : (z : Int) > 0 := by omega
      have i1 : (k : Int) ≤ c0 := by omega
      have i2 : (k : Int) ≤ z := by omega
      have i3 : (0 : Int) ≤ k := by omega
      go_wp2_with (first
        | (go_at_call 80; refine HC.out.mono ?_; rintro e w1 ⟨rfl, q, hw1⟩; have HG6 : Hid (Grow w1 w.heap.size A5 c5 T) := Lib.hid (HG5.out.kept (hw1 ▸ below_drewN (Below.refl _ wr) q) (Nat.le_refl _)); have HB6 : Hid (Below w.heap.size w w1) := Lib.hid (HB.out.trans ((hw1 ▸ below_drewN (Below.refl _ wr) q : Below wr.heap.size wr w1).mono HB.out.size)); have HW1 := Lib.hid hw1; clear hw1)
        | (at_builtin; refine wpList_append_grow _ rfl (.tmp 13) (.tmp 17) rfl w.heap.size A5 c5 T [⟨A0, c0, (x :: l').take k⟩] _ t 1 1 rfl rfl HT.out rfl (HG6.out.alloc _) (lit_lies _ (gvals [⟨A0, c0, (x :: l').take k⟩]) _ (by simp [gvals, Gl.val, HZ.out, hk2]) _) (by have := HB6.out.size; simp; omega) (by have := HL.out; have := HT.out; simp only [List.length_cons, List.length_nil]; omega) ?_; intro A7 c7 w7 r7 b7 g7; have R7 := Lib.hid r7; have B7 := Lib.hid b7; have G7 := Lib.hid g7; clear r7 b7 g7))
      refine ⟨⟨(x :: l').drop k, _, c0 - k, T ++ [⟨A0, c0, (x :: l').take k⟩], A7, c7, by rw [List.length_drop, HZ.out], by rw [List.length_append, HT.out]; rfl, by rw [List.length_drop, HZ.out]; omega, by omega, by rw [List.length_drop, HZ.out, List.length_append, HT.out]; simp only [List.length_cons, List.length_nil]; omega, Lib.hid (lies_drop HL0.out k c0 (by rw [HZ.out]; exact k1)), R7, Lib.hid (HP.out.step HM0.out HK.out HL0.out (by rw [HZ.out]; exact k1) k2), Lib.hid ((HB6.out.alloc HB6.out.size _).trans B7.out)⟩, ?_⟩
      show z - k < z
      omega
end Go.Proofs.YtmgggddnfeojmaaGreat
