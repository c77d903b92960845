/-
  Walks: entries compared; whether they may stand; how many have a key; an entry copied. Walks: whether an entry may be, how many have a key, how many make a block. Walks: whether entries may stand in a table.
-/
import Derived.Deep.RegionHeld3
import Derived.StillTailTactics
import Derived.Test.YtcffpkflijpdjaaCJ01
set_option linter.unusedSimpArgs false
set_option linter.unusedVariables false
namespace Go.Proofs.Ytcffpkflijpdjaa
open Go.RowKit
theorem lit_at (w : World) (cs : Array Value) (t : TypeId) (j : Nat) : (w.alloc (.cells cs t)).cell? ⟨w.heap.size, j, none⟩ = cs[j]? := by
  have h := heap_alloc_new w (.cells cs t)
  unfold World.cell?
  simp only
  rw [h]
  simp
theorem isNaN_any (x : Int) (w : World) : Calls Try.prog 94 #[.int .i64 x] w fun e w' => e = .returned (.bool false) ∧ w' = w := by
  go_enter Try.func94, Try.ntmps94
  go_wp2_with fail
  go_ret
  exact ⟨by simp, rfl⟩
def cmpI (x y : Int) : Int := if x < y then -1 else if y < x then 1 else 0
theorem compareI_any (x y : Int) (w : World) : Calls Try.prog 76 #[.int .i64 x, .int .i64 y] w fun e w' => e = .returned (.int .i64 (cmpI x y)) ∧ w' = w := by
  rcases Int.lt_trichotomy x y with h | h | h
  · have e : cmpI x y = -1 := by unfold cmpI; rw [if_pos h]
    rw [e]
    go_enter Try.func76, Try.ntmps76
    go_wp2_with (go_at_call 94; refine (isNaN_any _ _).mono ?_; rintro e w' ⟨rfl, rfl⟩)
    go_ret
    exact ⟨rfl, rfl⟩
  · subst h
    have e : cmpI x x = 0 := by unfold cmpI; rw [if_neg (by omega), if_neg (by omega)]
    have h1 : ¬ x < x := by omega
    rw [e]
    go_enter Try.func76, Try.ntmps76
    go_wp2_with (go_at_call 94; refine (isNaN_any _ _).mono ?_; rintro e w' ⟨rfl, rfl⟩)
    go_ret
    exact ⟨rfl, rfl⟩
  · have e : cmpI x y = 1 := by unfold cmpI; rw [if_neg (by omega), if_pos h]
    have h1 : ¬ x < y := by omega
    rw [e]
    go_enter Try.func76, Try.ntmps76
    go_wp2_with (go_at_call 94; refine (isNaN_any _ _).mono ?_; rintro e w' ⟨rfl, rfl⟩)
    go_ret
    exact ⟨rfl, rfl⟩
theorem orI_any (g : Nat) (x y : Int) (w : World) (h0 : w.cell? ⟨g, 0, none⟩ = some (.int .i64 x)) (h1 : w.cell? ⟨g, 1, none⟩ = some (.int .i64 y)) : Calls Try.prog 74 #[.slice (some ⟨g, 0, none⟩) 2 2] w fun e w' => e = .returned (.int .i64 (if x ≠ 0 then x else y)) ∧ w' = w := by
  by_cases hx : x = 0
  · by_cases hy : y = 0
    · subst hx hy
      go_enter Try.func74, Try.ntmps74
      go_wp2_with fail
      go_loopw [8] (fun t8 wr => ∃ k : Nat, k ≤ 2 ∧ t8 = .int .i64 k ∧ wr = w) (fun t8 _ => 2 - (intOf t8).toNat)
      case atStart => exact ⟨0, by omega, rfl, rfl⟩
      case round =>
        obtain ⟨k, hk, rfl, rfl⟩ := hrel
        rcases (by omega : k = 0 ∨ k = 1 ∨ k = 2) with rfl | rfl | rfl
        · go_wp2_with fail
          go_roundw
          case rel => exact ⟨1, by omega, by go_num, by first | rfl | trivial⟩
          case measure => simp [intOf]
        · go_wp2_with fail
          go_roundw
          case rel => exact ⟨2, by omega, by go_num, by first | rfl | trivial⟩
          case measure => simp [intOf]
        · go_wp2_with fail
          go_ret
          exact ⟨by simp, rfl⟩
    · have hy' : (y != 0) = true := by simpa using hy
      subst hx
      go_enter Try.func74, Try.ntmps74
      go_wp2_with fail
      go_loopw [8] (fun t8 wr => ∃ k : Nat, k ≤ 1 ∧ t8 = .int .i64 k ∧ wr = w) (fun t8 _ => 2 - (intOf t8).toNat)
      case atStart => exact ⟨0, by omega, rfl, rfl⟩
      case round =>
        obtain ⟨k, hk, rfl, rfl⟩ := hrel
        rcases (by omega : k = 0 ∨ k = 1) with rfl | rfl
        · go_wp2_with fail
          go_roundw
          case rel => exact ⟨1, by omega, by go_num, by first | rfl | trivial⟩
          case measure => simp [intOf]
        · go_wp2_with fail
          go_ret
          exact ⟨by simp, rfl⟩
  · have hx' : (x != 0) = true := by simpa using hx
    go_enter Try.func74, Try.ntmps74
    go_wp2_with fail
    go_loopw [8] (fun t8 wr => t8 = .int .i64 0 ∧ wr = w) (fun _ _ => 1)
    case atStart => exact ⟨rfl, rfl⟩
    case round =>
      obtain ⟨rfl, rfl⟩ := hrel
      go_wp2_with fail
      go_ret
      exact ⟨by simp [hx], rfl⟩
theorem ordE_or (x y : Er) : ordE x y = if cmpL x.1 y.1 ≠ 0 then cmpL x.1 y.1 else cmpI y.2.1 x.2.1 := rfl
/-- An entry that can be read. -/
def EIn (w : World) (q : En) : Prop := In w q.k.a q.k.l q.k.l.length q.k.c ∧ In w q.v.a q.v.l q.v.l.length q.v.c
theorem EIn.kept {w w' : World} {q : En} (h : EIn w q) (hb : Below w.heap.size w w') : EIn w' q := ⟨h.1.kept hb, h.2.kept hb⟩
theorem En.val_eq (q : En) : q.val = .agg #[.slice q.k.a q.k.l.length q.k.c, .int .i64 q.s, .bool q.d, .slice q.v.a q.v.l.length q.v.c] := rfl
set_option maxRecDepth 100000 in
set_option maxHeartbeats 4000000 in
theorem order_any (x y : En) (w : World) (hx : EIn w x) (hy : EIn w y) : Calls Try.prog 53 #[x.val, y.val] w fun e w' => e = .returned (.int .i64 (ordE x.rd y.rd)) ∧ Below w.heap.size w w' := by
  have HE : Hid (ordE x.rd y.rd = if cmpL x.k.l y.k.l ≠ 0 then cmpL x.k.l y.k.l else cmpI y.s x.s) := Lib.hid (ordE_or x.rd y.rd)
  have HX := Lib.hid (fun (W : World) (hb : Below w.heap.size w W) => (hx.kept hb).1)
  have HY := Lib.hid (fun (W : World) (hb : Below w.heap.size w W) => (hy.kept hb).1)
  rw [En.val_eq, En.val_eq]
  generalize ordE x.rd y.rd = o at HE
  obtain ⟨⟨xa, xc, xk⟩, xs, xd, ⟨xva, xvc, xv⟩⟩ := x
  obtain ⟨⟨ya, yc, yk⟩, ys, yd, ⟨yva, yvc, yv⟩⟩ := y
  simp only at HE HX HY
  clear hx hy
  obtain ⟨n, hn⟩ : ∃ n, xk.length = n := ⟨_, rfl⟩
  obtain ⟨m, hm⟩ : ∃ m, yk.length = m := ⟨_, rfl⟩
  obtain ⟨nv, hnv⟩ : ∃ n, xv.length = n := ⟨_, rfl⟩
  obtain ⟨mv, hmv⟩ : ∃ m, yv.length = m := ⟨_, rfl⟩
  simp only [hn, hm, hnv, hmv] at HX HY ⊢
  clear hn hm hnv hmv
  go_enter Try.func53, Try.ntmps53
  go_upto_region 1 with fail
  obtain ⟨w2, hw2⟩ : ∃ w2, ((w.alloc (.cells #[.slice xa n xc, .int .i64 xs, .bool xd, .slice xva nv xvc] 26)).alloc (.cells #[.slice ya m yc, .int .i64 ys, .bool yd, .slice yva mv yvc] 26)) = w2 := ⟨_, rfl⟩
  have B2 : Hid (Below w.heap.size w w2) := Lib.hid (hw2 ▸ (below_new _ _).alloc (by simp) _)
  have HK : Hid (∀ W : World, Below w2.heap.size w2 W → (W.cell? ⟨w.heap.size, 0, none⟩ = some (.slice xa n xc) ∧ W.cell? ⟨w.heap.size, 1, none⟩ = some (.int .i64 xs)) ∧ W.cell? ⟨w.heap.size + 1, 0, none⟩ = some (.slice ya m yc) ∧ W.cell? ⟨w.heap.size + 1, 1, none⟩ = some (.int .i64 ys)) := Lib.hid (fun W hb => by
    have e0 : w2.heap[w.heap.size]? = some (.cells #[.slice xa n xc, .int .i64 xs, .bool xd, .slice xva nv xvc] 26 (0, 0)) := by
      rw [← hw2, RowKit.Below.heap_alloc _ _ _ (by simp)]
      exact heap_alloc_new w _
    have e1 : w2.heap[w.heap.size + 1]? = some (.cells #[.slice ya m yc, .int .i64 ys, .bool yd, .slice yva mv yvc] 26 (0, 0)) := by
      have := heap_alloc_new (w.alloc (.cells #[.slice xa n xc, .int .i64 xs, .bool xd, .slice xva nv xvc] 26)) (.cells #[.slice ya m yc, .int .i64 ys, .bool yd, .slice yva mv yvc] 26)
      rwa [hw2, show (w.alloc (.cells #[.slice xa n xc, .int .i64 xs, .bool xd, .slice xva nv xvc] 26)).heap.size = w.heap.size + 1 by simp] at this
    have hz : w2.heap.size = w.heap.size + 2 := by rw [← hw2]; simp
    have k0 := (hb.block w.heap.size (by omega)).trans e0
    have k1 := (hb.block (w.heap.size + 1) (by omega)).trans e1
    refine ⟨⟨?_, ?_⟩, ?_, ?_⟩ <;> simp [World.cell?, k0, k1])
  have CB := Lib.hid (Below.refl w2.heap.size w2)
  rw [hw2]
  clear hw2
  go_region_held3 (fun W => (W.cell? ⟨w.heap.size, 0, none⟩ = some (.slice xa n xc) ∧ W.cell? ⟨w.heap.size, 1, none⟩ = some (.int .i64 xs)) ∧ W.cell? ⟨w.heap.size + 1, 0, none⟩ = some (.slice ya m yc) ∧ W.cell? ⟨w.heap.size + 1, 1, none⟩ = some (.int .i64 ys)) (first | exact HK.out _ (by repeat (first | exact Below.refl _ _ | exact CB.out | refine Below.drew ?_ | refine Below.alloc ?_ (by first | exact Nat.le_refl _ | simp) _)) | go_keep) (first
    | (go_at_call 75; refine (compare_any _ _ xk yk _ _ _ _ _ (HX.out _ ?_) (HY.out _ ?_)).mono ?_; (exact B2.out.trans ((by repeat (first | exact Below.refl _ _ | refine Below.drew ?_) : Below w2.heap.size w2 _).mono B2.out.size)); (exact B2.out.trans ((by repeat (first | exact Below.refl _ _ | refine Below.drew ?_) : Below w2.heap.size w2 _).mono B2.out.size)); rintro e w3 ⟨rfl, rfl⟩)
    | (go_at_call 76; refine (compareI_any _ _ _).mono ?_; rintro e w4 ⟨rfl, rfl⟩)
    | (go_at_call 74; refine (orI_any _ (cmpL xk yk) (cmpI ys xs) _ (lit_at _ _ _ 0) (lit_at _ _ _ 1)).mono ?_; rw [← HE.out]; rintro e w5 ⟨rfl, rfl⟩))
  all_goals
    go_wp2_with fail
    go_ret
    exact ⟨rfl, B2.out.trans ((by repeat (first | exact Below.refl _ _ | refine Below.drew ?_ | refine Below.alloc ?_ (by first | exact Nat.le_refl _ | simp) _) : Below w2.heap.size w2 _).mono B2.out.size)⟩
end Go.Proofs.Ytcffpkflijpdjaa
namespace Go.Proofs.Ytcffpkflijpdjaa
open Go.RowKit
/-- A box of an entry, as a walk makes it. -/
theorem box_cells (w : World) (v0 v1 v2 v3 : Value) : Below w.heap.size w (w.alloc (.cells #[v0, v1, v2, v3] 26)) ∧ ∀ W, Below (w.alloc (.cells #[v0, v1, v2, v3] 26)).heap.size (w.alloc (.cells #[v0, v1, v2, v3] 26)) W → W.cell? ⟨w.heap.size, 0, none⟩ = some v0 ∧ W.cell? ⟨w.heap.size, 1, none⟩ = some v1 ∧ W.cell? ⟨w.heap.size, 2, none⟩ = some v2 ∧ W.cell? ⟨w.heap.size, 3, none⟩ = some v3 := by
  refine ⟨below_new _ _, fun W hb => ?_⟩
  have e : W.heap[w.heap.size]? = some (.cells #[v0, v1, v2, v3] 26 (0, 0)) := (hb.block _ (by simp)).trans (heap_alloc_new w _)
  refine ⟨?_, ?_, ?_, ?_⟩ <;> simp [World.cell?, e]
set_option maxRecDepth 100000 in
theorem mayBe_any (q : En) (w : World) (hs : -9223372036854775808 ≤ q.s ∧ q.s ≤ 9223372036854775807) (hk : q.k.l.length ≤ 9223372036854775807) (hv : q.v.l.length ≤ 9223372036854775807) : Calls Try.prog 50 #[q.val] w fun e w' => e = .returned (.bool (decide (GoodE q.rd))) ∧ Below w.heap.size w w' := by
  obtain ⟨b, hb⟩ : ∃ b, decide (GoodE q.rd) = b := ⟨_, rfl⟩
  rw [hb, En.val_eq]
  obtain ⟨⟨ka, kc, k⟩, s, d, ⟨va, vc, v⟩⟩ := q
  have HB : Hid (decide (((1 ≤ k.length ∧ k.length ≤ 200) ∧ (1 ≤ s ∧ s ≤ 1099511627776) ∧ v.length ≤ 4096 ∧ (d = true → v = []))) = b) := Lib.hid hb
  have HV : Hid (v = [] ↔ v.length = 0) := Lib.hid List.length_eq_zero_iff.symm
  simp only at hs hk hv ⊢
  obtain ⟨n, hn⟩ : ∃ n, k.length = n := ⟨_, rfl⟩
  obtain ⟨m, hm⟩ : ∃ m, v.length = m := ⟨_, rfl⟩
  simp only [hn, hm] at hk hv ⊢
  have HB2 : Hid (decide (((1 ≤ n ∧ n ≤ 200) ∧ (1 ≤ s ∧ s ≤ 1099511627776) ∧ m ≤ 4096 ∧ (d = true → m = 0))) = b) := Lib.hid (by rw [← HB.out, hn, hm]; congr 1; rw [HV.out, hm])
  clear hb HB HV hn hm
  obtain ⟨B1, C1⟩ := box_cells w (.slice ka n kc) (.int .i64 s) (.bool d) (.slice va m vc)
  obtain ⟨x0, x1, x2, x3⟩ := C1 _ (Below.refl _ _)
  have HB1 := Lib.hid B1
  clear C1 B1
  by_cases h1 : n = 0
  · subst h1
    obtain rfl : b = false := by rw [← HB2.out]; simp
    clear HB2
    go_enter Try.func50, Try.ntmps50
    go_wp2_with fail
    go_ret
    exact ⟨by simp, HB1.out⟩
  · have h1' : ¬ (n : Int) = 0 := by omega
    by_cases h2 : n ≤ 200
    · have h2' : ¬ 200 < (n : Int) := by omega
      by_cases h3 : 1 ≤ s
      · have h3' : ¬ s < 1 := by omega
        by_cases h4 : s ≤ 1099511627776
        · have h4' : ¬ 1099511627776 < s := by omega
          cases d
          · have HR : Hid (b = decide (m ≤ 4096)) := Lib.hid (by rw [← HB2.out]; congr 1; apply propext; constructor <;> intro h <;> (try omega); exact ⟨⟨by omega, h2⟩, ⟨h3, h4⟩, h, fun e => by cases e⟩)
            clear HB2
            go_enter Try.func50, Try.ntmps50
            go_wp2_with fail
            go_ret
            exact ⟨by rw [HR.out]; congr 2; simp; omega, HB1.out⟩
          · have HR : Hid (b = decide (m = 0)) := Lib.hid (by rw [← HB2.out]; congr 1; apply propext; constructor <;> intro h; (exact h.2.2.2 rfl); exact ⟨⟨by omega, h2⟩, ⟨h3, h4⟩, by omega, fun _ => h⟩)
            clear HB2
            go_enter Try.func50, Try.ntmps50
            go_wp2_with fail
            go_ret
            exact ⟨by rw [HR.out]; simp; rw [Bool.eq_iff_iff]; simp, HB1.out⟩
        · obtain rfl : b = false := by rw [← HB2.out]; simp; omega
          have h4' : 1099511627776 < s := by omega
          clear HB2
          go_enter Try.func50, Try.ntmps50
          go_wp2_with fail
          go_ret
          exact ⟨by simp, HB1.out⟩
      · obtain rfl : b = false := by rw [← HB2.out]; simp; omega
        have h3' : s < 1 := by omega
        clear HB2
        go_enter Try.func50, Try.ntmps50
        go_wp2_with fail
        go_ret
        exact ⟨by simp, HB1.out⟩
    · obtain rfl : b = false := by rw [← HB2.out]; simp; omega
      have h2' : 200 < (n : Int) := by omega
      clear HB2
      go_enter Try.func50, Try.ntmps50
      go_wp2_with fail
      go_ret
      exact ⟨by simp, HB1.out⟩
end Go.Proofs.Ytcffpkflijpdjaa
namespace Go.Proofs.Ytcffpkflijpdjaa
open Go.RowKit
/-- An entry whose numbers are a machine's. -/
def EFit (q : En) : Prop := -9223372036854775808 ≤ q.s ∧ q.s ≤ 9223372036854775807
theorem en_val (ka va : Option Addr) (kc vc : Nat) (k v : List Int) (s : Int) (d : Bool) (n m : Nat) (hn : k.length = n) (hm : v.length = m) : (⟨⟨ka, kc, k⟩, s, d, ⟨va, vc, v⟩⟩ : En).val = .agg #[.slice ka n kc, .int .i64 s, .bool d, .slice va m vc] := by
  subst hn hm
  rfl
theorem In.len9 {w : World} {A : Option Addr} {L : List Int} {n c : Nat} (h : In w A L n c) : L.length ≤ 9223372036854775807 := by
  have := h.len
  have := h.cap
  have := h.top
  omega
theorem ord_false {l : List Er} {k : Nat} {x : Er} (hx : l[k]? = some x) (h : ¬ GoodE x) : ¬ OrdL l := fun ho => h (ho.good x (List.mem_of_getElem? hx))
set_option maxRecDepth 100000 in
set_option maxHeartbeats 8000000 in
theorem mayStand_any (A : Option Addr) (l : List En) (n c : Nat) (w : World) (hn : l.length = n) (h : Lies w A (evals l)) (hi : EIns w l) (hs : ∀ q ∈ l, EFit q) (hl : n * 64 ≤ 140737488351232) :
    Calls Try.prog 58 #[.slice A n c] w fun e w' => e = .returned (.bool (decide (OrdL (ers l)))) ∧ Below w.heap.size w w' := by
  obtain ⟨b, hb⟩ : ∃ b, decide (OrdL (ers l)) = b := ⟨_, rfl⟩
  rw [hb]
  have HB := Lib.hid hb
  have HP := Lib.hid (fun (w' : World) (hb : Below w.heap.size w w') => h.kept hb)
  have HI := Lib.hid (fun (w' : World) (hb : Below w.heap.size w w') => hi.kept hb)
  have HS := Lib.hid hs
  have HN := Lib.hid hn
  have HR := Lib.hid (ers_len l)
  have hn9 : Hid ((n : Int) ≤ 9223372036854775807) := Lib.hid (by omega)
  clear h hi hs hn hb hl
  go_enter Try.func58, Try.ntmps58
  go_wp2_with fail
  go_loopw [7] (fun t7 wr => ∃ k : Nat, k ≤ n ∧ t7 = .int .i64 k ∧ Hid (OrdL ((ers l).take k)) ∧ Hid (Below w.heap.size w wr)) (fun t7 _ => n - (intOf t7).toNat)
  case atStart => exact ⟨0, by omega, rfl, Lib.hid trivial, Lib.hid (Below.refl _ _)⟩
  case round =>
    obtain ⟨k, hk, rfl, ho, hbl⟩ := hrel
    have CW : Hid (w.heap.size ≤ wr.heap.size) := Lib.hid hbl.out.size
    by_cases hlt : k < n
    · have hq := List.getElem?_eq_getElem (l := l) (i := k) (by have := HN.out; omega)
      generalize l[k]'(by have := HN.out; omega) = x at hq
      have HQ := Lib.hid hq
      have HX := Lib.hid (fun (W : World) (hb : Below w.heap.size w W) => HI.out W hb x (List.mem_of_getElem? hq))
      have HFX := Lib.hid (HS.out x (List.mem_of_getElem? hq))
      obtain ⟨ad, rfl, a0, a1, a2, a3⟩ := lies_entry (HP.out _ hbl.out) hq
      clear hq
      obtain ⟨⟨ka, kc, kl⟩, s, d, ⟨va, vc, vl⟩⟩ := x
      simp only at a0 a1 a2 a3
      obtain ⟨m, hm⟩ : ∃ m, kl.length = m := ⟨_, rfl⟩
      obtain ⟨z, hz⟩ : ∃ m, vl.length = m := ⟨_, rfl⟩
      have HV := Lib.hid (en_val ka va kc vc kl vl s d m z hm hz)
      rw [hm] at a0
      rw [hz] at a3
      have HMB := Lib.hid (fun (W : World) => mayBe_any ⟨⟨ka, kc, kl⟩, s, d, ⟨va, vc, vl⟩⟩ W HFX.out (HX.out w (Below.refl _ _)).1.len9 (HX.out w (Below.refl _ _)).2.len9)
      rw [HV.out] at HMB
      have i0 : (k : Int) < n := by omega
      obtain ⟨B1, C1⟩ := box_cells wr (.slice ka m kc) (.int .i64 s) (.bool d) (.slice va z vc)
      have HB1 := Lib.hid B1
      have HC1 := Lib.hid C1
      obtain ⟨w1, hw1⟩ : ∃ w1, wr.alloc (.cells #[.slice ka m kc, .int .i64 s, .bool d, .slice va z vc] 26) = w1 := ⟨_, rfl⟩
      rw [hw1] at HB1 HC1
      have D1 : Hid (Below w.heap.size w w1) := Lib.hid (hbl.out.trans (HB1.out.mono CW.out))
      clear B1 C1 hm hz
      obtain ⟨gd, hgd⟩ : ∃ g, decide (GoodE (⟨⟨ka, kc, kl⟩, s, d, ⟨va, vc, vl⟩⟩ : En).rd) = g := ⟨_, rfl⟩
      rw [hgd] at HMB
      have HG := Lib.hid hgd
      clear hgd
      cases gd
      · have HBF : Hid (b = false) := Lib.hid (by rw [← HB.out]; simp only [decide_eq_false_iff_not]; exact ord_false (ers_get HQ.out) (by simpa using HG.out))
        go_upto_region 4 with fail
        try rw [hw1]
        refine wp_region_held (S := fun W => W.cell? ⟨wr.heap.size, 0, none⟩ = some (.slice ka m kc) ∧ W.cell? ⟨wr.heap.size, 1, none⟩ = some (.int .i64 s) ∧ W.cell? ⟨wr.heap.size, 2, none⟩ = some (.bool d) ∧ W.cell? ⟨wr.heap.size, 3, none⟩ = some (.slice va z vc)) (by kernel_rfl) ?_
        change wpAnyH _ _ _ _ _ _ _ _ (World.drew _)
        have s0 := HC1.out _ (Below.refl _ _).drew
        refine wpAnyH_take (i := 0) (v := .agg #[.slice ka m kc, .int .i64 s, .bool d, .slice va z vc]) rfl (by kernel_rfl) (by kernel_rfl) (by kernel_rfl) (fun _ _ _ h => h) (Or.inl ⟨by first | kernel_rfl | rfl, fun _ hS => by obtain ⟨k1, k2, k3, k4⟩ := hS; go_simp⟩) s0 ?_
        try simp only [Act.put, List.getElem_toArray, List.getElem_cons_zero, List.getElem_cons_succ, List.setIfInBounds_toArray, List.set_cons_zero, List.set_cons_succ]
        refine wpAnyH_ready (rs := [1]) (by kernel_rfl) (by simp) ?_
        refine AllReadyH.cons rfl (fun K hK => ?_) AllReadyH.nil
        go_simp
        go_at_call 50
        refine (HMB.out _).mono ?_
        rintro e w2 ⟨rfl, hb2⟩
        have CB : Hid (Below w1.heap.size w1 w2) := Lib.hid ((Below.refl _ _).drew.trans hb2)
        clear hb2
        refine hK.out _ _ (HC1.out _ CB.out) (fun _ => ?_)
        clear hK K
        try simp only [Act.put, List.getElem_toArray, List.getElem_cons_zero, List.getElem_cons_succ, List.setIfInBounds_toArray, List.set_cons_zero, List.set_cons_succ]
        have s1 := HC1.out _ CB.out
        refine wpAnyH_take (i := 2) (v := .bool true) rfl (by kernel_rfl) (by kernel_rfl) (by kernel_rfl) (fun _ _ _ h => h) (Or.inl ⟨by first | kernel_rfl | rfl, fun _ hS => by go_simp⟩) s1 ?_
        try simp only [Act.put, List.getElem_toArray, List.getElem_cons_zero, List.getElem_cons_succ, List.setIfInBounds_toArray, List.set_cons_zero, List.set_cons_succ]
        refine wpAnyH_take (i := 3) (v := .bool true) rfl (by kernel_rfl) (by kernel_rfl) (by kernel_rfl) (fun _ _ _ h => h) (Or.inl ⟨by first | kernel_rfl | rfl, fun _ hS => by go_simp⟩) s1 ?_
        try simp only [Act.put, List.getElem_toArray, List.getElem_cons_zero, List.getElem_cons_succ, List.setIfInBounds_toArray, List.set_cons_zero, List.set_cons_succ]
        refine wpAnyH_take (i := 4) (v := undef) rfl (by kernel_rfl) (by kernel_rfl) (by kernel_rfl) (fun _ _ _ h => h) (Or.inr ⟨by first | kernel_rfl | rfl, rfl⟩) s1 ?_
        try simp only [Act.put, List.getElem_toArray, List.getElem_cons_zero, List.getElem_cons_succ, List.setIfInBounds_toArray, List.set_cons_zero, List.set_cons_succ]
        refine wpAnyH_take (i := 5) (v := undef) rfl (by kernel_rfl) (by kernel_rfl) (by kernel_rfl) (fun _ _ _ h => h) (Or.inr ⟨by first | kernel_rfl | rfl, rfl⟩) s1 ?_
        try simp only [Act.put, List.getElem_toArray, List.getElem_cons_zero, List.getElem_cons_succ, List.setIfInBounds_toArray, List.set_cons_zero, List.set_cons_succ]
        refine wpAnyH_take (i := 6) (v := undef) rfl (by kernel_rfl) (by kernel_rfl) (by kernel_rfl) (fun _ _ _ h => h) (Or.inr ⟨by first | kernel_rfl | rfl, rfl⟩) s1 ?_
        try simp only [Act.put, List.getElem_toArray, List.getElem_cons_zero, List.getElem_cons_succ, List.setIfInBounds_toArray, List.set_cons_zero, List.set_cons_succ]
        refine wpAnyH_take (i := 7) (v := undef) rfl (by kernel_rfl) (by kernel_rfl) (by kernel_rfl) (fun _ _ _ h => h) (Or.inr ⟨by first | kernel_rfl | rfl, rfl⟩) s1 ?_
        try simp only [Act.put, List.getElem_toArray, List.getElem_cons_zero, List.getElem_cons_succ, List.setIfInBounds_toArray, List.set_cons_zero, List.set_cons_succ]
        refine wpAnyH_take (i := 8) (v := undef) rfl (by kernel_rfl) (by kernel_rfl) (by kernel_rfl) (fun _ _ _ h => h) (Or.inr ⟨by first | kernel_rfl | rfl, rfl⟩) s1 ?_
        try simp only [Act.put, List.getElem_toArray, List.getElem_cons_zero, List.getElem_cons_succ, List.setIfInBounds_toArray, List.set_cons_zero, List.set_cons_succ]
        refine wpAnyH_take (i := 9) (v := undef) rfl (by kernel_rfl) (by kernel_rfl) (by kernel_rfl) (fun _ _ _ h => h) (Or.inr ⟨by first | kernel_rfl | rfl, rfl⟩) s1 ?_
        try simp only [Act.put, List.getElem_toArray, List.getElem_cons_zero, List.getElem_cons_succ, List.setIfInBounds_toArray, List.set_cons_zero, List.set_cons_succ]
        refine wpAnyH_take (i := 10) (v := undef) rfl (by kernel_rfl) (by kernel_rfl) (by kernel_rfl) (fun _ _ _ h => h) (Or.inr ⟨by first | kernel_rfl | rfl, rfl⟩) s1 ?_
        try simp only [Act.put, List.getElem_toArray, List.getElem_cons_zero, List.getElem_cons_succ, List.setIfInBounds_toArray, List.set_cons_zero, List.set_cons_succ]
        refine wpAnyH_take (i := 11) (v := undef) rfl (by kernel_rfl) (by kernel_rfl) (by kernel_rfl) (fun _ _ _ h => h) (Or.inr ⟨by first | kernel_rfl | rfl, rfl⟩) s1 ?_
        try simp only [Act.put, List.getElem_toArray, List.getElem_cons_zero, List.getElem_cons_succ, List.setIfInBounds_toArray, List.set_cons_zero, List.set_cons_succ]
        refine wpAnyH_take (i := 12) (v := undef) rfl (by kernel_rfl) (by kernel_rfl) (by kernel_rfl) (fun _ _ _ h => h) (Or.inr ⟨by first | kernel_rfl | rfl, rfl⟩) s1 ?_
        try simp only [Act.put, List.getElem_toArray, List.getElem_cons_zero, List.getElem_cons_succ, List.setIfInBounds_toArray, List.set_cons_zero, List.set_cons_succ]
        refine wpAnyH_take (i := 13) (v := undef) rfl (by kernel_rfl) (by kernel_rfl) (by kernel_rfl) (fun _ _ _ h => h) (Or.inr ⟨by first | kernel_rfl | rfl, rfl⟩) s1 ?_
        try simp only [Act.put, List.getElem_toArray, List.getElem_cons_zero, List.getElem_cons_succ, List.setIfInBounds_toArray, List.set_cons_zero, List.set_cons_succ]
        refine wpAnyH_take (i := 14) (v := undef) rfl (by kernel_rfl) (by kernel_rfl) (by kernel_rfl) (fun _ _ _ h => h) (Or.inr ⟨by first | kernel_rfl | rfl, rfl⟩) s1 ?_
        try simp only [Act.put, List.getElem_toArray, List.getElem_cons_zero, List.getElem_cons_succ, List.setIfInBounds_toArray, List.set_cons_zero, List.set_cons_succ]
        refine wpAnyH_take (i := 15) (v := undef) rfl (by kernel_rfl) (by kernel_rfl) (by kernel_rfl) (fun _ _ _ h => h) (Or.inr ⟨by first | kernel_rfl | rfl, rfl⟩) s1 ?_
        try simp only [Act.put, List.getElem_toArray, List.getElem_cons_zero, List.getElem_cons_succ, List.setIfInBounds_toArray, List.set_cons_zero, List.set_cons_succ]
        refine wpAnyH_take (i := 16) (v := .bool true) rfl (by kernel_rfl) (by kernel_rfl) (by kernel_rfl) (fun _ _ _ h => h) (Or.inl ⟨by first | kernel_rfl | rfl, fun _ hS => by go_simp⟩) s1 ?_
        try simp only [Act.put, List.getElem_toArray, List.getElem_cons_zero, List.getElem_cons_succ, List.setIfInBounds_toArray, List.set_cons_zero, List.set_cons_succ]
        refine wpAnyH_done (by kernel_rfl) ?_ _
        try simp only [Act.put, List.getElem_toArray, List.getElem_cons_zero, List.getElem_cons_succ, List.setIfInBounds_toArray, List.set_cons_zero, List.set_cons_succ]
        go_wp2_with fail
        go_ret
        exact ⟨by rw [HBF.out]; rfl, D1.out.trans (CB.out.mono D1.out.size)⟩
      · have HGE : Hid (GoodE (⟨⟨ka, kc, kl⟩, s, d, ⟨va, vc, vl⟩⟩ : En).rd) := Lib.hid (by simpa using HG.out)
        obtain h0 | ⟨j, rfl⟩ : k = 0 ∨ ∃ j, k = j + 1 := by
          cases k with
          | zero => exact .inl rfl
          | succ j => exact .inr ⟨j, rfl⟩
        · have HO : Hid (OrdL ((ers l).take (k + 1))) := Lib.hid ((ordL_step (ers_get HQ.out)).2 ⟨ho.out, HGE.out, fun p hp => by omega⟩)
          have hk0 : ¬ (0 : Int) < k := by omega
          have hn10 := hn9.out
          have HK0 := Lib.hid h0
          clear h0
          go_upto_region 4 with fail
          try rw [hw1]
          refine wp_region_held (S := fun W => W.cell? ⟨wr.heap.size, 0, none⟩ = some (.slice ka m kc) ∧ W.cell? ⟨wr.heap.size, 1, none⟩ = some (.int .i64 s) ∧ W.cell? ⟨wr.heap.size, 2, none⟩ = some (.bool d) ∧ W.cell? ⟨wr.heap.size, 3, none⟩ = some (.slice va z vc)) (by kernel_rfl) ?_
          change wpAnyH _ _ _ _ _ _ _ _ (World.drew _)
          have s0 := HC1.out _ (Below.refl _ _).drew
          refine wpAnyH_take (i := 0) (v := .agg #[.slice ka m kc, .int .i64 s, .bool d, .slice va z vc]) rfl (by kernel_rfl) (by kernel_rfl) (by kernel_rfl) (fun _ _ _ h => h) (Or.inl ⟨by first | kernel_rfl | rfl, fun _ hS => by obtain ⟨k1, k2, k3, k4⟩ := hS; go_simp⟩) s0 ?_
          try simp only [Act.put, List.getElem_toArray, List.getElem_cons_zero, List.getElem_cons_succ, List.setIfInBounds_toArray, List.set_cons_zero, List.set_cons_succ]
          refine wpAnyH_ready (rs := [1]) (by kernel_rfl) (by simp) ?_
          refine AllReadyH.cons rfl (fun K hK => ?_) AllReadyH.nil
          go_simp
          go_at_call 50
          refine (HMB.out _).mono ?_
          rintro e w2 ⟨rfl, hb2⟩
          have CB : Hid (Below w1.heap.size w1 w2) := Lib.hid ((Below.refl _ _).drew.trans hb2)
          clear hb2
          refine hK.out _ _ (HC1.out _ CB.out) (fun _ => ?_)
          clear hK K
          try simp only [Act.put, List.getElem_toArray, List.getElem_cons_zero, List.getElem_cons_succ, List.setIfInBounds_toArray, List.set_cons_zero, List.set_cons_succ]
          have s1 := HC1.out _ CB.out
          refine wpAnyH_take (i := 2) (v := .bool false) rfl (by kernel_rfl) (by kernel_rfl) (by kernel_rfl) (fun _ _ _ h => h) (Or.inl ⟨by first | kernel_rfl | rfl, fun _ hS => by go_simp⟩) s1 ?_
          try simp only [Act.put, List.getElem_toArray, List.getElem_cons_zero, List.getElem_cons_succ, List.setIfInBounds_toArray, List.set_cons_zero, List.set_cons_succ]
          refine wpAnyH_take (i := 3) (v := .bool false) rfl (by kernel_rfl) (by kernel_rfl) (by kernel_rfl) (fun _ _ _ h => h) (Or.inl ⟨by first | kernel_rfl | rfl, fun _ hS => by go_simp⟩) s1 ?_
          try simp only [Act.put, List.getElem_toArray, List.getElem_cons_zero, List.getElem_cons_succ, List.setIfInBounds_toArray, List.set_cons_zero, List.set_cons_succ]
          refine wpAnyH_take (i := 4) (v := .int .i64 (k : Int)) rfl (by kernel_rfl) (by kernel_rfl) (by kernel_rfl) (fun _ _ _ h => h) (Or.inl ⟨by first | kernel_rfl | rfl, fun _ hS => by go_simp⟩) s1 ?_
          try simp only [Act.put, List.getElem_toArray, List.getElem_cons_zero, List.getElem_cons_succ, List.setIfInBounds_toArray, List.set_cons_zero, List.set_cons_succ]
          refine wpAnyH_take (i := 5) (v := .bool false) rfl (by kernel_rfl) (by kernel_rfl) (by kernel_rfl) (fun _ _ _ h => h) (Or.inl ⟨by first | kernel_rfl | rfl, fun _ hS => by go_simp; exact HK0.out⟩) s1 ?_
          try simp only [Act.put, List.getElem_toArray, List.getElem_cons_zero, List.getElem_cons_succ, List.setIfInBounds_toArray, List.set_cons_zero, List.set_cons_succ]
          refine wpAnyH_take (i := 6) (v := .bool false) rfl (by kernel_rfl) (by kernel_rfl) (by kernel_rfl) (fun _ _ _ h => h) (Or.inl ⟨by first | kernel_rfl | rfl, fun _ hS => by go_simp⟩) s1 ?_
          try simp only [Act.put, List.getElem_toArray, List.getElem_cons_zero, List.getElem_cons_succ, List.setIfInBounds_toArray, List.set_cons_zero, List.set_cons_succ]
          refine wpAnyH_take (i := 7) (v := undef) rfl (by kernel_rfl) (by kernel_rfl) (by kernel_rfl) (fun _ _ _ h => h) (Or.inr ⟨by first | kernel_rfl | rfl, rfl⟩) s1 ?_
          try simp only [Act.put, List.getElem_toArray, List.getElem_cons_zero, List.getElem_cons_succ, List.setIfInBounds_toArray, List.set_cons_zero, List.set_cons_succ]
          refine wpAnyH_take (i := 8) (v := undef) rfl (by kernel_rfl) (by kernel_rfl) (by kernel_rfl) (fun _ _ _ h => h) (Or.inr ⟨by first | kernel_rfl | rfl, rfl⟩) s1 ?_
          try simp only [Act.put, List.getElem_toArray, List.getElem_cons_zero, List.getElem_cons_succ, List.setIfInBounds_toArray, List.set_cons_zero, List.set_cons_succ]
          refine wpAnyH_take (i := 9) (v := undef) rfl (by kernel_rfl) (by kernel_rfl) (by kernel_rfl) (fun _ _ _ h => h) (Or.inr ⟨by first | kernel_rfl | rfl, rfl⟩) s1 ?_
          try simp only [Act.put, List.getElem_toArray, List.getElem_cons_zero, List.getElem_cons_succ, List.setIfInBounds_toArray, List.set_cons_zero, List.set_cons_succ]
          refine wpAnyH_take (i := 10) (v := undef) rfl (by kernel_rfl) (by kernel_rfl) (by kernel_rfl) (fun _ _ _ h => h) (Or.inr ⟨by first | kernel_rfl | rfl, rfl⟩) s1 ?_
          try simp only [Act.put, List.getElem_toArray, List.getElem_cons_zero, List.getElem_cons_succ, List.setIfInBounds_toArray, List.set_cons_zero, List.set_cons_succ]
          refine wpAnyH_take (i := 11) (v := undef) rfl (by kernel_rfl) (by kernel_rfl) (by kernel_rfl) (fun _ _ _ h => h) (Or.inr ⟨by first | kernel_rfl | rfl, rfl⟩) s1 ?_
          try simp only [Act.put, List.getElem_toArray, List.getElem_cons_zero, List.getElem_cons_succ, List.setIfInBounds_toArray, List.set_cons_zero, List.set_cons_succ]
          refine wpAnyH_take (i := 12) (v := undef) rfl (by kernel_rfl) (by kernel_rfl) (by kernel_rfl) (fun _ _ _ h => h) (Or.inr ⟨by first | kernel_rfl | rfl, rfl⟩) s1 ?_
          try simp only [Act.put, List.getElem_toArray, List.getElem_cons_zero, List.getElem_cons_succ, List.setIfInBounds_toArray, List.set_cons_zero, List.set_cons_succ]
          refine wpAnyH_take (i := 13) (v := undef) rfl (by kernel_rfl) (by kernel_rfl) (by kernel_rfl) (fun _ _ _ h => h) (Or.inr ⟨by first | kernel_rfl | rfl, rfl⟩) s1 ?_
          try simp only [Act.put, List.getElem_toArray, List.getElem_cons_zero, List.getElem_cons_succ, List.setIfInBounds_toArray, List.set_cons_zero, List.set_cons_succ]
          refine wpAnyH_take (i := 14) (v := undef) rfl (by kernel_rfl) (by kernel_rfl) (by kernel_rfl) (fun _ _ _ h => h) (Or.inr ⟨by first | kernel_rfl | rfl, rfl⟩) s1 ?_
          try simp only [Act.put, List.getElem_toArray, List.getElem_cons_zero, List.getElem_cons_succ, List.setIfInBounds_toArray, List.set_cons_zero, List.set_cons_succ]
          refine wpAnyH_take (i := 15) (v := .bool false) rfl (by kernel_rfl) (by kernel_rfl) (by kernel_rfl) (fun _ _ _ h => h) (Or.inl ⟨by first | kernel_rfl | rfl, fun _ hS => by go_simp⟩) s1 ?_
          try simp only [Act.put, List.getElem_toArray, List.getElem_cons_zero, List.getElem_cons_succ, List.setIfInBounds_toArray, List.set_cons_zero, List.set_cons_succ]
          refine wpAnyH_take (i := 16) (v := .bool false) rfl (by kernel_rfl) (by kernel_rfl) (by kernel_rfl) (fun _ _ _ h => h) (Or.inl ⟨by first | kernel_rfl | rfl, fun _ hS => by go_simp⟩) s1 ?_
          try simp only [Act.put, List.getElem_toArray, List.getElem_cons_zero, List.getElem_cons_succ, List.setIfInBounds_toArray, List.set_cons_zero, List.set_cons_succ]
          refine wpAnyH_done (by kernel_rfl) ?_ _
          try simp only [Act.put, List.getElem_toArray, List.getElem_cons_zero, List.getElem_cons_succ, List.setIfInBounds_toArray, List.set_cons_zero, List.set_cons_succ]
          go_wp2_with fail
          go_roundw
          case rel => exact ⟨k + 1, by omega, by go_num, HO, Lib.hid (D1.out.trans (CB.out.mono D1.out.size))⟩
          case measure => simp [intOf]; omega
        · have hp := List.getElem?_eq_getElem (l := l) (i := j) (by have := HN.out; omega)
          generalize l[j]'(by have := HN.out; omega) = p at hp
          have HPQ := Lib.hid hp
          have HPX := Lib.hid (fun (W : World) (hb : Below w.heap.size w W) => HI.out W hb p (List.mem_of_getElem? hp))
          have HPA := Lib.hid (fun (W : World) (hb : Below w.heap.size w W) => lies_entry_at (HP.out W hb) hp)
          clear hp
          obtain ⟨⟨pka, pkc, pkl⟩, ps, pd, ⟨pva, pvc, pvl⟩⟩ := p
          obtain ⟨pm, hpm⟩ : ∃ m, pkl.length = m := ⟨_, rfl⟩
          obtain ⟨pz, hpz⟩ : ∃ m, pvl.length = m := ⟨_, rfl⟩
          have HPV := Lib.hid (en_val pka pva pkc pvc pkl pvl ps pd pm pz hpm hpz)
          have HPC : Hid (∀ W : World, Below w.heap.size w W → (W.cell? (ad.add (j * 4)) = some (.slice pka pm pkc) ∧ W.cell? ⟨(ad.add (j * 4)).block, (ad.add (j * 4)).off + 1, none⟩ = some (.int .i64 ps) ∧ W.cell? ⟨(ad.add (j * 4)).block, (ad.add (j * 4)).off + 2, none⟩ = some (.bool pd) ∧ W.cell? ⟨(ad.add (j * 4)).block, (ad.add (j * 4)).off + 3, none⟩ = some (.slice pva pz pvc))) := Lib.hid (fun W hb => by
            have := HPA.out W hb
            unfold AtE at this
            simpa only [hpm, hpz] using this)
          clear hpm hpz HPA
          have HOR := Lib.hid (fun (W : World) (hb : Below w.heap.size w W) => order_any ⟨⟨pka, pkc, pkl⟩, ps, pd, ⟨pva, pvc, pvl⟩⟩ ⟨⟨ka, kc, kl⟩, s, d, ⟨va, vc, vl⟩⟩ W (HPX.out W hb) (HX.out W hb))
          rw [HPV.out, HV.out] at HOR
          have HBC := Lib.hid (fun (W : World) (hb : Below w1.heap.size w1 W) => And.intro (HC1.out W hb) (HPC.out W (D1.out.trans (hb.mono D1.out.size))))
          obtain ⟨o, hor⟩ : ∃ o, ordE (⟨⟨pka, pkc, pkl⟩, ps, pd, ⟨pva, pvc, pvl⟩⟩ : En).rd (⟨⟨ka, kc, kl⟩, s, d, ⟨va, vc, vl⟩⟩ : En).rd = o := ⟨_, rfl⟩
          rw [hor] at HOR
          have HOE := Lib.hid hor
          clear hor
          have hk1 : (0 : Int) < ((j + 1 : Nat) : Int) := by omega
          have hj1 : wrap64 (((j + 1 : Nat) : Int) - 1) = (j : Int) := by have := hn9.out; unfold wrap64; omega
          have HJ2 : Hid (IntKind.i64.wrap (j : Int) = j) := Lib.hid (by have := hn9.out; rw [IntKind.wrap_i64]; omega)
          have j0 : (j : Int) < n := by omega
          have hn10 := hn9.out
          by_cases ho0 : o < 0
          · have HO : Hid (OrdL ((ers l).take (j + 1 + 1))) := Lib.hid ((ordL_step (ers_get HQ.out)).2 ⟨ho.out, HGE.out, fun p _ hp => by
              have e := ers_get HPQ.out
              rw [Nat.add_sub_cancel, e] at hp
              rw [← Option.some.inj hp, HOE.out]
              exact ho0⟩)
            have ho1 : ¬ (0 : Int) ≤ o := by omega
            clear ho0
            go_upto_region 4 with fail
            try rw [hw1]
            refine wp_region_held (S := fun W => (W.cell? ⟨wr.heap.size, 0, none⟩ = some (.slice ka m kc) ∧ W.cell? ⟨wr.heap.size, 1, none⟩ = some (.int .i64 s) ∧ W.cell? ⟨wr.heap.size, 2, none⟩ = some (.bool d) ∧ W.cell? ⟨wr.heap.size, 3, none⟩ = some (.slice va z vc)) ∧ (W.cell? (ad.add (j * 4)) = some (.slice pka pm pkc) ∧ W.cell? ⟨(ad.add (j * 4)).block, (ad.add (j * 4)).off + 1, none⟩ = some (.int .i64 ps) ∧ W.cell? ⟨(ad.add (j * 4)).block, (ad.add (j * 4)).off + 2, none⟩ = some (.bool pd) ∧ W.cell? ⟨(ad.add (j * 4)).block, (ad.add (j * 4)).off + 3, none⟩ = some (.slice pva pz pvc))) (by kernel_rfl) ?_
            change wpAnyH _ _ _ _ _ _ _ _ (World.drew _)
            have s0 := HBC.out _ (Below.refl _ _).drew
            refine wpAnyH_take (i := 0) (v := .agg #[.slice ka m kc, .int .i64 s, .bool d, .slice va z vc]) rfl (by kernel_rfl) (by kernel_rfl) (by kernel_rfl) (fun _ _ _ h => h) (Or.inl ⟨by first | kernel_rfl | rfl, fun _ hS => by obtain ⟨⟨k1, k2, k3, k4⟩, k5, k6, k7, k8⟩ := hS; go_simp⟩) s0 ?_
            try simp only [Act.put, List.getElem_toArray, List.getElem_cons_zero, List.getElem_cons_succ, List.setIfInBounds_toArray, List.set_cons_zero, List.set_cons_succ]
            refine wpAnyH_ready (rs := [1]) (by kernel_rfl) (by simp) ?_
            refine AllReadyH.cons rfl (fun K hK => ?_) AllReadyH.nil
            go_simp
            go_at_call 50
            refine (HMB.out _).mono ?_
            rintro e w2 ⟨rfl, hb2⟩
            have CB : Hid (Below w1.heap.size w1 w2) := Lib.hid ((Below.refl _ _).drew.trans hb2)
            clear hb2
            refine hK.out _ _ (HBC.out _ CB.out) (fun _ => ?_)
            clear hK K
            try simp only [Act.put, List.getElem_toArray, List.getElem_cons_zero, List.getElem_cons_succ, List.setIfInBounds_toArray, List.set_cons_zero, List.set_cons_succ]
            have s1 := HBC.out _ CB.out
            refine wpAnyH_take (i := 2) (v := .bool false) rfl (by kernel_rfl) (by kernel_rfl) (by kernel_rfl) (fun _ _ _ h => h) (Or.inl ⟨by first | kernel_rfl | rfl, fun _ hS => by go_simp⟩) s1 ?_
            try simp only [Act.put, List.getElem_toArray, List.getElem_cons_zero, List.getElem_cons_succ, List.setIfInBounds_toArray, List.set_cons_zero, List.set_cons_succ]
            refine wpAnyH_take (i := 3) (v := .bool false) rfl (by kernel_rfl) (by kernel_rfl) (by kernel_rfl) (fun _ _ _ h => h) (Or.inl ⟨by first | kernel_rfl | rfl, fun _ hS => by go_simp⟩) s1 ?_
            try simp only [Act.put, List.getElem_toArray, List.getElem_cons_zero, List.getElem_cons_succ, List.setIfInBounds_toArray, List.set_cons_zero, List.set_cons_succ]
            refine wpAnyH_take (i := 4) (v := .int .i64 ((j + 1 : Nat) : Int)) rfl (by kernel_rfl) (by kernel_rfl) (by kernel_rfl) (fun _ _ _ h => h) (Or.inl ⟨by first | kernel_rfl | rfl, fun _ hS => by go_simp⟩) s1 ?_
            try simp only [Act.put, List.getElem_toArray, List.getElem_cons_zero, List.getElem_cons_succ, List.setIfInBounds_toArray, List.set_cons_zero, List.set_cons_succ]
            refine wpAnyH_take (i := 5) (v := .bool true) rfl (by kernel_rfl) (by kernel_rfl) (by kernel_rfl) (fun _ _ _ h => h) (Or.inl ⟨by first | kernel_rfl | rfl, fun _ hS => by go_simp⟩) s1 ?_
            try simp only [Act.put, List.getElem_toArray, List.getElem_cons_zero, List.getElem_cons_succ, List.setIfInBounds_toArray, List.set_cons_zero, List.set_cons_succ]
            refine wpAnyH_take (i := 6) (v := .bool true) rfl (by kernel_rfl) (by kernel_rfl) (by kernel_rfl) (fun _ _ _ h => h) (Or.inl ⟨by first | kernel_rfl | rfl, fun _ hS => by go_simp⟩) s1 ?_
            try simp only [Act.put, List.getElem_toArray, List.getElem_cons_zero, List.getElem_cons_succ, List.setIfInBounds_toArray, List.set_cons_zero, List.set_cons_succ]
            refine wpAnyH_take (i := 7) (v := .slice (some ad) n c) rfl (by kernel_rfl) (by kernel_rfl) (by kernel_rfl) (fun _ _ _ h => h) (Or.inl ⟨by first | kernel_rfl | rfl, fun _ hS => by go_simp⟩) s1 ?_
            try simp only [Act.put, List.getElem_toArray, List.getElem_cons_zero, List.getElem_cons_succ, List.setIfInBounds_toArray, List.set_cons_zero, List.set_cons_succ]
            refine wpAnyH_take (i := 8) (v := .int .i64 ((j + 1 : Nat) : Int)) rfl (by kernel_rfl) (by kernel_rfl) (by kernel_rfl) (fun _ _ _ h => h) (Or.inl ⟨by first | kernel_rfl | rfl, fun _ hS => by go_simp⟩) s1 ?_
            try simp only [Act.put, List.getElem_toArray, List.getElem_cons_zero, List.getElem_cons_succ, List.setIfInBounds_toArray, List.set_cons_zero, List.set_cons_succ]
            refine wpAnyH_take (i := 9) (v := .int .i64 (j : Int)) rfl (by kernel_rfl) (by kernel_rfl) (by kernel_rfl) (fun _ _ _ h => h) (Or.inl ⟨by first | kernel_rfl | rfl, fun _ hS => by go_simp; exact HJ2.out⟩) s1 ?_
            try simp only [Act.put, List.getElem_toArray, List.getElem_cons_zero, List.getElem_cons_succ, List.setIfInBounds_toArray, List.set_cons_zero, List.set_cons_succ]
            refine wpAnyH_take (i := 10) (v := .pointer (some (ad.add (j * 4)))) rfl (by kernel_rfl) (by kernel_rfl) (by kernel_rfl) (fun _ _ _ h => h) (Or.inl ⟨by first | kernel_rfl | rfl, fun _ hS => by go_simp⟩) s1 ?_
            try simp only [Act.put, List.getElem_toArray, List.getElem_cons_zero, List.getElem_cons_succ, List.setIfInBounds_toArray, List.set_cons_zero, List.set_cons_succ]
            refine wpAnyH_take (i := 11) (v := .agg #[.slice pka pm pkc, .int .i64 ps, .bool pd, .slice pva pz pvc]) rfl (by kernel_rfl) (by kernel_rfl) (by kernel_rfl) (fun _ _ _ h => h) (Or.inl ⟨by first | kernel_rfl | rfl, fun _ hS => by obtain ⟨⟨k1, k2, k3, k4⟩, k5, k6, k7, k8⟩ := hS; go_simp⟩) s1 ?_
            try simp only [Act.put, List.getElem_toArray, List.getElem_cons_zero, List.getElem_cons_succ, List.setIfInBounds_toArray, List.set_cons_zero, List.set_cons_succ]
            refine wpAnyH_take (i := 12) (v := .agg #[.slice ka m kc, .int .i64 s, .bool d, .slice va z vc]) rfl (by kernel_rfl) (by kernel_rfl) (by kernel_rfl) (fun _ _ _ h => h) (Or.inl ⟨by first | kernel_rfl | rfl, fun _ hS => by obtain ⟨⟨k1, k2, k3, k4⟩, k5, k6, k7, k8⟩ := hS; go_simp⟩) s1 ?_
            try simp only [Act.put, List.getElem_toArray, List.getElem_cons_zero, List.getElem_cons_succ, List.setIfInBounds_toArray, List.set_cons_zero, List.set_cons_succ]
            refine wpAnyH_ready (rs := [13]) (by kernel_rfl) (by simp) ?_
            refine AllReadyH.cons rfl (fun K hK => ?_) AllReadyH.nil
            go_simp
            go_at_call 53
            refine (HOR.out _ (D1.out.trans (CB.out.mono D1.out.size))).mono ?_
            rintro e w3 ⟨rfl, hb3⟩
            have CC : Hid (Below w1.heap.size w1 w3) := Lib.hid (below_then CB.out hb3)
            clear hb3
            refine hK.out _ _ (HBC.out _ CC.out) (fun _ => ?_)
            clear hK K
            try simp only [Act.put, List.getElem_toArray, List.getElem_cons_zero, List.getElem_cons_succ, List.setIfInBounds_toArray, List.set_cons_zero, List.set_cons_succ]
            have s2 := HBC.out _ CC.out
            refine wpAnyH_take (i := 14) (v := .bool false) rfl (by kernel_rfl) (by kernel_rfl) (by kernel_rfl) (fun _ _ _ h => h) (Or.inl ⟨by first | kernel_rfl | rfl, fun _ hS => by go_simp⟩) s2 ?_
            try simp only [Act.put, List.getElem_toArray, List.getElem_cons_zero, List.getElem_cons_succ, List.setIfInBounds_toArray, List.set_cons_zero, List.set_cons_succ]
            refine wpAnyH_take (i := 15) (v := .bool false) rfl (by kernel_rfl) (by kernel_rfl) (by kernel_rfl) (fun _ _ _ h => h) (Or.inl ⟨by first | kernel_rfl | rfl, fun _ hS => by go_simp⟩) s2 ?_
            try simp only [Act.put, List.getElem_toArray, List.getElem_cons_zero, List.getElem_cons_succ, List.setIfInBounds_toArray, List.set_cons_zero, List.set_cons_succ]
            refine wpAnyH_take (i := 16) (v := .bool false) rfl (by kernel_rfl) (by kernel_rfl) (by kernel_rfl) (fun _ _ _ h => h) (Or.inl ⟨by first | kernel_rfl | rfl, fun _ hS => by go_simp⟩) s2 ?_
            try simp only [Act.put, List.getElem_toArray, List.getElem_cons_zero, List.getElem_cons_succ, List.setIfInBounds_toArray, List.set_cons_zero, List.set_cons_succ]
            refine wpAnyH_done (by kernel_rfl) ?_ _
            try simp only [Act.put, List.getElem_toArray, List.getElem_cons_zero, List.getElem_cons_succ, List.setIfInBounds_toArray, List.set_cons_zero, List.set_cons_succ]
            go_wp2_with fail
            go_roundw
            case rel => exact ⟨j + 1 + 1, by omega, by go_num, HO, Lib.hid (D1.out.trans (CC.out.mono D1.out.size))⟩
            case measure => simp [intOf]; omega
          · have HBF : Hid (b = false) := Lib.hid (by
              rw [← HB.out]
              simp only [decide_eq_false_iff_not]
              intro hf
              have := ordL_sorted hf (i := j) (j := j + 1) (by omega) (ers_get HPQ.out) (ers_get HQ.out)
              rw [HOE.out] at this
              exact ho0 this)
            have ho1 : (0 : Int) ≤ o := by omega
            clear ho0
            go_upto_region 4 with fail
            try rw [hw1]
            refine wp_region_held (S := fun W => (W.cell? ⟨wr.heap.size, 0, none⟩ = some (.slice ka m kc) ∧ W.cell? ⟨wr.heap.size, 1, none⟩ = some (.int .i64 s) ∧ W.cell? ⟨wr.heap.size, 2, none⟩ = some (.bool d) ∧ W.cell? ⟨wr.heap.size, 3, none⟩ = some (.slice va z vc)) ∧ (W.cell? (ad.add (j * 4)) = some (.slice pka pm pkc) ∧ W.cell? ⟨(ad.add (j * 4)).block, (ad.add (j * 4)).off + 1, none⟩ = some (.int .i64 ps) ∧ W.cell? ⟨(ad.add (j * 4)).block, (ad.add (j * 4)).off + 2, none⟩ = some (.bool pd) ∧ W.cell? ⟨(ad.add (j * 4)).block, (ad.add (j * 4)).off + 3, none⟩ = some (.slice pva pz pvc))) (by kernel_rfl) ?_
            change wpAnyH _ _ _ _ _ _ _ _ (World.drew _)
            have s0 := HBC.out _ (Below.refl _ _).drew
            refine wpAnyH_take (i := 0) (v := .agg #[.slice ka m kc, .int .i64 s, .bool d, .slice va z vc]) rfl (by kernel_rfl) (by kernel_rfl) (by kernel_rfl) (fun _ _ _ h => h) (Or.inl ⟨by first | kernel_rfl | rfl, fun _ hS => by obtain ⟨⟨k1, k2, k3, k4⟩, k5, k6, k7, k8⟩ := hS; go_simp⟩) s0 ?_
            try simp only [Act.put, List.getElem_toArray, List.getElem_cons_zero, List.getElem_cons_succ, List.setIfInBounds_toArray, List.set_cons_zero, List.set_cons_succ]
            refine wpAnyH_ready (rs := [1]) (by kernel_rfl) (by simp) ?_
            refine AllReadyH.cons rfl (fun K hK => ?_) AllReadyH.nil
            go_simp
            go_at_call 50
            refine (HMB.out _).mono ?_
            rintro e w2 ⟨rfl, hb2⟩
            have CB : Hid (Below w1.heap.size w1 w2) := Lib.hid ((Below.refl _ _).drew.trans hb2)
            clear hb2
            refine hK.out _ _ (HBC.out _ CB.out) (fun _ => ?_)
            clear hK K
            try simp only [Act.put, List.getElem_toArray, List.getElem_cons_zero, List.getElem_cons_succ, List.setIfInBounds_toArray, List.set_cons_zero, List.set_cons_succ]
            have s1 := HBC.out _ CB.out
            refine wpAnyH_take (i := 2) (v := .bool false) rfl (by kernel_rfl) (by kernel_rfl) (by kernel_rfl) (fun _ _ _ h => h) (Or.inl ⟨by first | kernel_rfl | rfl, fun _ hS => by go_simp⟩) s1 ?_
            try simp only [Act.put, List.getElem_toArray, List.getElem_cons_zero, List.getElem_cons_succ, List.setIfInBounds_toArray, List.set_cons_zero, List.set_cons_succ]
            refine wpAnyH_take (i := 3) (v := .bool false) rfl (by kernel_rfl) (by kernel_rfl) (by kernel_rfl) (fun _ _ _ h => h) (Or.inl ⟨by first | kernel_rfl | rfl, fun _ hS => by go_simp⟩) s1 ?_
            try simp only [Act.put, List.getElem_toArray, List.getElem_cons_zero, List.getElem_cons_succ, List.setIfInBounds_toArray, List.set_cons_zero, List.set_cons_succ]
            refine wpAnyH_take (i := 4) (v := .int .i64 ((j + 1 : Nat) : Int)) rfl (by kernel_rfl) (by kernel_rfl) (by kernel_rfl) (fun _ _ _ h => h) (Or.inl ⟨by first | kernel_rfl | rfl, fun _ hS => by go_simp⟩) s1 ?_
            try simp only [Act.put, List.getElem_toArray, List.getElem_cons_zero, List.getElem_cons_succ, List.setIfInBounds_toArray, List.set_cons_zero, List.set_cons_succ]
            refine wpAnyH_take (i := 5) (v := .bool true) rfl (by kernel_rfl) (by kernel_rfl) (by kernel_rfl) (fun _ _ _ h => h) (Or.inl ⟨by first | kernel_rfl | rfl, fun _ hS => by go_simp⟩) s1 ?_
            try simp only [Act.put, List.getElem_toArray, List.getElem_cons_zero, List.getElem_cons_succ, List.setIfInBounds_toArray, List.set_cons_zero, List.set_cons_succ]
            refine wpAnyH_take (i := 6) (v := .bool true) rfl (by kernel_rfl) (by kernel_rfl) (by kernel_rfl) (fun _ _ _ h => h) (Or.inl ⟨by first | kernel_rfl | rfl, fun _ hS => by go_simp⟩) s1 ?_
            try simp only [Act.put, List.getElem_toArray, List.getElem_cons_zero, List.getElem_cons_succ, List.setIfInBounds_toArray, List.set_cons_zero, List.set_cons_succ]
            refine wpAnyH_take (i := 7) (v := .slice (some ad) n c) rfl (by kernel_rfl) (by kernel_rfl) (by kernel_rfl) (fun _ _ _ h => h) (Or.inl ⟨by first | kernel_rfl | rfl, fun _ hS => by go_simp⟩) s1 ?_
            try simp only [Act.put, List.getElem_toArray, List.getElem_cons_zero, List.getElem_cons_succ, List.setIfInBounds_toArray, List.set_cons_zero, List.set_cons_succ]
            refine wpAnyH_take (i := 8) (v := .int .i64 ((j + 1 : Nat) : Int)) rfl (by kernel_rfl) (by kernel_rfl) (by kernel_rfl) (fun _ _ _ h => h) (Or.inl ⟨by first | kernel_rfl | rfl, fun _ hS => by go_simp⟩) s1 ?_
            try simp only [Act.put, List.getElem_toArray, List.getElem_cons_zero, List.getElem_cons_succ, List.setIfInBounds_toArray, List.set_cons_zero, List.set_cons_succ]
            refine wpAnyH_take (i := 9) (v := .int .i64 (j : Int)) rfl (by kernel_rfl) (by kernel_rfl) (by kernel_rfl) (fun _ _ _ h => h) (Or.inl ⟨by first | kernel_rfl | rfl, fun _ hS => by go_simp; exact HJ2.out⟩) s1 ?_
            try simp only [Act.put, List.getElem_toArray, List.getElem_cons_zero, List.getElem_cons_succ, List.setIfInBounds_toArray, List.set_cons_zero, List.set_cons_succ]
            refine wpAnyH_take (i := 10) (v := .pointer (some (ad.add (j * 4)))) rfl (by kernel_rfl) (by kernel_rfl) (by kernel_rfl) (fun _ _ _ h => h) (Or.inl ⟨by first | kernel_rfl | rfl, fun _ hS => by go_simp⟩) s1 ?_
            try simp only [Act.put, List.getElem_toArray, List.getElem_cons_zero, List.getElem_cons_succ, List.setIfInBounds_toArray, List.set_cons_zero, List.set_cons_succ]
            refine wpAnyH_take (i := 11) (v := .agg #[.slice pka pm pkc, .int .i64 ps, .bool pd, .slice pva pz pvc]) rfl (by kernel_rfl) (by kernel_rfl) (by kernel_rfl) (fun _ _ _ h => h) (Or.inl ⟨by first | kernel_rfl | rfl, fun _ hS => by obtain ⟨⟨k1, k2, k3, k4⟩, k5, k6, k7, k8⟩ := hS; go_simp⟩) s1 ?_
            try simp only [Act.put, List.getElem_toArray, List.getElem_cons_zero, List.getElem_cons_succ, List.setIfInBounds_toArray, List.set_cons_zero, List.set_cons_succ]
            refine wpAnyH_take (i := 12) (v := .agg #[.slice ka m kc, .int .i64 s, .bool d, .slice va z vc]) rfl (by kernel_rfl) (by kernel_rfl) (by kernel_rfl) (fun _ _ _ h => h) (Or.inl ⟨by first | kernel_rfl | rfl, fun _ hS => by obtain ⟨⟨k1, k2, k3, k4⟩, k5, k6, k7, k8⟩ := hS; go_simp⟩) s1 ?_
            try simp only [Act.put, List.getElem_toArray, List.getElem_cons_zero, List.getElem_cons_succ, List.setIfInBounds_toArray, List.set_cons_zero, List.set_cons_succ]
            refine wpAnyH_ready (rs := [13]) (by kernel_rfl) (by simp) ?_
            refine AllReadyH.cons rfl (fun K hK => ?_) AllReadyH.nil
            go_simp
            go_at_call 53
            refine (HOR.out _ (D1.out.trans (CB.out.mono D1.out.size))).mono ?_
            rintro e w3 ⟨rfl, hb3⟩
            have CC : Hid (Below w1.heap.size w1 w3) := Lib.hid (below_then CB.out hb3)
            clear hb3
            refine hK.out _ _ (HBC.out _ CC.out) (fun _ => ?_)
            clear hK K
            try simp only [Act.put, List.getElem_toArray, List.getElem_cons_zero, List.getElem_cons_succ, List.setIfInBounds_toArray, List.set_cons_zero, List.set_cons_succ]
            have s2 := HBC.out _ CC.out
            refine wpAnyH_take (i := 14) (v := .bool true) rfl (by kernel_rfl) (by kernel_rfl) (by kernel_rfl) (fun _ _ _ h => h) (Or.inl ⟨by first | kernel_rfl | rfl, fun _ hS => by go_simp⟩) s2 ?_
            try simp only [Act.put, List.getElem_toArray, List.getElem_cons_zero, List.getElem_cons_succ, List.setIfInBounds_toArray, List.set_cons_zero, List.set_cons_succ]
            refine wpAnyH_take (i := 15) (v := .bool true) rfl (by kernel_rfl) (by kernel_rfl) (by kernel_rfl) (fun _ _ _ h => h) (Or.inl ⟨by first | kernel_rfl | rfl, fun _ hS => by go_simp⟩) s2 ?_
            try simp only [Act.put, List.getElem_toArray, List.getElem_cons_zero, List.getElem_cons_succ, List.setIfInBounds_toArray, List.set_cons_zero, List.set_cons_succ]
            refine wpAnyH_take (i := 16) (v := .bool true) rfl (by kernel_rfl) (by kernel_rfl) (by kernel_rfl) (fun _ _ _ h => h) (Or.inl ⟨by first | kernel_rfl | rfl, fun _ hS => by go_simp⟩) s2 ?_
            try simp only [Act.put, List.getElem_toArray, List.getElem_cons_zero, List.getElem_cons_succ, List.setIfInBounds_toArray, List.set_cons_zero, List.set_cons_succ]
            refine wpAnyH_done (by kernel_rfl) ?_ _
            try simp only [Act.put, List.getElem_toArray, List.getElem_cons_zero, List.getElem_cons_succ, List.setIfInBounds_toArray, List.set_cons_zero, List.set_cons_succ]
            go_wp2_with fail
            go_ret
            exact ⟨by rw [HBF.out]; rfl, D1.out.trans (CC.out.mono D1.out.size)⟩
    · obtain rfl : n = k := by omega
      have ho' := ho.out
      rw [List.take_of_length_le (by rw [HR.out, HN.out]; omega)] at ho'
      have HBT : Hid (b = true) := Lib.hid (by rw [← HB.out]; simpa using ho')
      go_wp2_with fail
      go_ret
      exact ⟨by rw [HBT.out]; rfl, hbl.out⟩
end Go.Proofs.Ytcffpkflijpdjaa
