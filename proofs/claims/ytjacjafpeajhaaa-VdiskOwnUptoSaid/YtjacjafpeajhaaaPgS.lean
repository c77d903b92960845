/-
  Walks: it wakes.
-/
import Derived.Test.YtjacjafpeajhaaaPgR
namespace Go.Proofs.Ytjacjafpeajhaaa
open Go.RowKit
open Go.Maps

/-- An append of bytes by an operation that is wanted only where its guard says so, and is wanted here. -/
theorem wpList_append_row_if (w : World) {ops : Array Oper} {rest : List Oper} {o : Oper} {a : Act} {Q : Exit → Act → World → Prop} (hw : Region.wanted o (yielded ops a.tmps) = true) (s x : Operand)
    (ho : o.op = .call { callee := .builtin .append, args := #[s, x], argTypes := #[38, 38] })
    (B : Nat) (A : Option Addr) (c : Nat) (L M : List Int) (C : Option Addr) (n m cm : Nat) (hs : a.eval s = .slice A n c) (hx : a.eval x = .slice C m cm) (en : L.length = n) (em : M.length = m) (h : Row w B A c L) (hm : Bys w C M) (hB : B ≤ w.heap.size) (hr : L.length + M.length ≤ 140737488355328)
    (k : ∀ A' c' w', Row w' B A' c' (L ++ M) → Below B w w' → wpList Try.prog ops Q rest (a.put o.dst (.slice A' (n + m) c')) w') : wpList Try.prog ops Q (o :: rest) a w := by
  subst en
  subst em
  obtain ⟨i, hi, hz0, hz1, hz2⟩ := info_parts info5
  refine wpList_step fun K hK => ?_
  rw [if_pos hw]
  obtain ⟨A', c', w', r, h2, h3⟩ := run_append_lies w 38 o.type 5 i (.int .u8 0) 1 1 Try.underlying38 hi hz0 hz1 hz2 rfl (by decide) B A L.length c (vals L) h C M.length cm (vals M) (by simp [vals_len]) hm.lies vals_one (by unfold maxLen; omega) (by omega) hB
  rw [← vals_append] at h2
  have k' := k A' c' w' (by unfold Row; rw [List.length_append]; exact h2) h3
  unfold Oper.wp execOp
  simp only [ho, resolve, invoke, builtin, Sem.run_bind, Sem.run_pure, Result.andThen_ok, List.map_toArray, List.map_cons, List.map_nil, hs, hx, r]
  exact hK _ _ k'

def sA : ByteArray := ⟨#[97]⟩
def vm0 : Vm := ⟨[], -1, 3, [1], false⟩
def vm1 : Vm := ⟨[(sA, [1, 2, 3], 0)], -1, 2, [1], false⟩
def vm2 : Vm := ⟨[(sA, [1, 2, 3], 3)], -1, 1, [1], false⟩
def vm3 : Vm := ⟨[(sA, [1, 2, 3, 4, 5], 3)], -1, 0, [1], false⟩
def vm4 : Vm := ⟨[(sA, [1, 2, 3, 4, 5], 3)], -1, 0, [1], true⟩
def vm5 : Vm := ⟨[(sA, [1, 2, 3, 4], 4)], -1, -1, [], false⟩
theorem vm01 : vm0.append sA [1, 2, 3] = (vm1, 0) := by kernel_rfl
theorem vm12 : vm1.sync sA = (vm2, 0) := by kernel_rfl
theorem vm23 : vm2.append sA [4, 5] = (vm3, 0) := by kernel_rfl
theorem vm34 : vm3.delete sA = (vm4, 20) := by kernel_rfl
theorem vm45 : vm4.revive (-1) (-1) [] = vm5 := by kernel_rfl
theorem vm5r : vm5.read sA = ([1, 2, 3, 4], 0) := by kernel_rfl
theorem fit0 (n : Nat) (_h : n ≤ 100) : Fits vm0 n := ⟨by decide, fun x hx => (List.not_mem_nil hx).elim, fun x hx => (List.not_mem_nil hx).elim⟩
theorem fit_one {s : ByteArray} {L : List Int} {y a b : Int} {k : List Int} {c : Bool} {n : Nat} (hs : s.size ≤ 140737488355328) (h : L.length + n ≤ 140737488355328) : Fits ⟨[(s, L, y)], a, b, k, c⟩ n := ⟨by show 1 * 48 ≤ _; omega, fun x hx => by rw [List.mem_singleton] at hx; subst hx; exact h, fun x hx => by rw [List.mem_singleton] at hx; subst hx; exact hs⟩
theorem own_new {w : World} {B g : Nat} {p : Pk} (h : PSt w B g p) (ad : Addr) (e : some (⟨w.heap.size, 0, none⟩ : Addr) = some ad) (o : Obj) : ¬ p.own g ad.block ∧ ad.block < (w.alloc o).heap.size := by
  injection e with e
  subst e
  exact ⟨fun hk => by have := (h.owned _ hk).2; simp only at this; omega, by simp⟩
theorem bys_new (w : World) (L : List Int) (cs : Array Value) (e : cs = (vals L).toArray) (hl : L.length ≤ 9) : Bys (w.alloc (.cells cs 5)) (some ⟨w.heap.size, 0, none⟩) L := (row_made w w.heap.size L cs e hl (Nat.le_refl _)).lies
theorem str4 : strOfNums [1, 2, 3, 4] = ⟨#[1, 2, 3, 4]⟩ := rfl

set_option maxRecDepth 100000 in
set_option maxHeartbeats 4000000 in
theorem wakes_any (w : World) :
    Calls Try.prog 9 #[] w fun e w' => e = .returned (.bool true) ∧ Below w.heap.size w w' := by
  have B0 := Lib.hid (below_new w (.cells #[.int .i64 1] 3))
  have HN := Lib.hid (new_any 3 (-1) (some ⟨w.heap.size, 0, none⟩) [1] 1 1 (w.alloc (.cells #[.int .i64 1] 3)) rfl (lit_lies w [.int .i64 1] _ rfl _) (by decide) (fun x hx => by rw [List.mem_singleton] at hx; subst hx; decide) (by decide) (by decide))
  have hA : (⟨#[97]⟩ : ByteArray) = sA := rfl
  have HA := Lib.hid hA
  clear hA
  have hsz : sA.size ≤ 140737488355328 := by decide
  have HSZ := Lib.hid hsz
  clear hsz
  go_enter Try.func9, Try.ntmps9
  go_upto_region 8 with (first
    | (go_at_call 20; refine HN.out.mono ?_; rintro e w1 ⟨g, p0, rfl, h0, v0, b0⟩; have S0 := Lib.hid (And.intro h0 v0); have B1 := Lib.hid (B0.out.trans (b0.mono B0.out.size)); have L0 : Hid (w.heap.size ≤ (w.alloc (.cells #[.int .i64 1] 3)).heap.size) := Lib.hid B0.out.size; clear h0 v0 b0)
    | (go_at_call 19; have P0 := Lib.hid S0.out; clear S0; rw [HA.out]; refine (append_vm _ g p0 vm0 vm1 0 sA (some ⟨w1.heap.size, 0, none⟩) [1, 2, 3] 3 3 (w1.alloc (.cells #[.int .u8 1, .int .u8 2, .int .u8 3] 5)) (P0.out.1.kept (below_new _ _)) P0.out.2 HSZ.out rfl (by unfold Byt; decide) (bys_new w1 [1, 2, 3] _ rfl (by decide)) (fun ad e => own_new P0.out.1 ad e _) (fit0 3 (by decide)) (by decide) (by decide) vm01).mono ?_; rintro e w2 ⟨rfl, p1, h1, v1, d1⟩; have S1 := Lib.hid (And.intro h1 v1); have B2 : Hid (Below w.heap.size w w2) := Lib.hid ((B1.out.alloc B1.out.size _).trans ((Rest.below (P0.out.1.kept (below_new _ _)) ⟨p1, h1, v1, d1⟩).mono L0.out)); clear h1 v1 d1)
    | (go_at_call 21; rw [HA.out]; refine (sync_vm _ g p1 vm1 vm2 0 sA w2 S1.out.1 S1.out.2 HSZ.out vm12).mono ?_; rintro e w3 ⟨rfl, p2, h1, v1, d1⟩; have S2 := Lib.hid (And.intro h1 v1); have B3 : Hid (Below w.heap.size w w3) := Lib.hid (B2.out.trans ((Rest.below S1.out.1 ⟨p2, h1, v1, d1⟩).mono L0.out)); clear h1 v1 d1)
    | (go_at_call 19; rw [HA.out]; refine (append_vm _ g p2 vm2 vm3 0 sA (some ⟨w3.heap.size, 0, none⟩) [4, 5] 2 2 (w3.alloc (.cells #[.int .u8 4, .int .u8 5] 5)) (S2.out.1.kept (below_new _ _)) S2.out.2 HSZ.out rfl (by unfold Byt; decide) (bys_new w3 [4, 5] _ rfl (by decide)) (fun ad e => own_new S2.out.1 ad e _) (fit_one HSZ.out (by decide)) (by decide) (by decide) vm23).mono ?_; rintro e w4 ⟨rfl, p3, h1, v1, d1⟩; have S3 := Lib.hid (And.intro h1 v1); have B4 : Hid (Below w.heap.size w w4) := Lib.hid ((B3.out.alloc B3.out.size _).trans ((Rest.below (S2.out.1.kept (below_new _ _)) ⟨p3, h1, v1, d1⟩).mono L0.out)); clear h1 v1 d1)
    | (go_at_call 23; rw [HA.out]; refine (delete_vm _ g p3 vm3 vm4 20 sA w4 S3.out.1 S3.out.2 HSZ.out vm34).mono ?_; rintro e w5 ⟨rfl, p4, h1, v1, d1⟩; have S4 := Lib.hid (And.intro h1 v1); have B5 : Hid (Below w.heap.size w w5) := Lib.hid (B4.out.trans ((Rest.below S3.out.1 ⟨p4, h1, v1, d1⟩).mono L0.out)); clear h1 v1 d1)
    | (go_at_call 17; refine (revive_vm _ g p4 vm4 vm5 (-1) (-1) none [] 0 0 w5 S4.out.1 S4.out.2 (fun x hx => by rw [show vm4.fs = [(sA, [1, 2, 3, 4, 5], 3)] from rfl, List.mem_singleton] at hx; subst hx; decide) (fit_one HSZ.out (by decide)) rfl (.inl rfl) (fun ad e => by cases e) (by decide) (fun x hx => (List.not_mem_nil hx).elim) (by decide) (by decide) vm45).mono ?_; rintro e w6 ⟨rfl, p5, h1, v1, d1⟩; have S5 := Lib.hid (And.intro h1 v1); have B6 : Hid (Below w.heap.size w w6) := Lib.hid (B5.out.trans ((Rest.below S4.out.1 ⟨p5, h1, v1, d1⟩).mono L0.out)); clear h1 v1 d1)
    | (go_at_call 24; rw [HA.out]; refine (read_vm _ g p5 vm5 sA w6 _ S5.out.1 S5.out.2 HSZ.out (fit_one HSZ.out (by decide)) vm5r).mono ?_; rintro e w7 ⟨A7, c7, rfl, r7, b7⟩; have S7 := Lib.hid (S5.out.1.kept b7); have B7 : Hid (Below w.heap.size w w7) := Lib.hid (B6.out.trans (b7.mono B6.out.size)); have R7 := Lib.hid r7.lies; clear r7 b7))
  have k7 := conv_any R7.out 4 c7 rfl
  rw [str4] at k7
  have HD : Hid (Calls Try.prog 16 #[.pointer (some ⟨g, 0, none⟩)] w7 fun e w' => ∃ A c, e = .returned (.slice A 1 c) ∧ Below w7.heap.size w7 w') := Lib.hid (by
    refine (dump_vm _ g p5 vm5 w7 S7.out S5.out.2 (fit_one HSZ.out (by decide))).mono ?_
    rintro e w' ⟨l', e1, -, A, c, rfl, -, b⟩
    have e2 : l'.length = 1 := by
      have := congrArg List.length e1
      rw [List.length_map] at this
      exact this
    rw [e2]
    exact ⟨A, c, rfl, b⟩)
  go_wp2_with (go_at_call 16; refine HD.out.mono ?_; rintro e w8 ⟨A8, c8, rfl, b8⟩; have B8 : Hid (Below w.heap.size w w8) := Lib.hid (B7.out.trans (b8.mono B7.out.size)); clear b8)
  go_ret
  exact ⟨rfl, B8.out⟩

end Go.Proofs.Ytjacjafpeajhaaa
