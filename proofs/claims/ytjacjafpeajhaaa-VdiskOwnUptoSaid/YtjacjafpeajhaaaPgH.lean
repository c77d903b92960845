/-
  Walks: a new beginning; how many bytes survive; a new disk.
-/
import Derived.Test.YtjacjafpeajhaaaPgG
namespace Go.Proofs.Ytjacjafpeajhaaa
open Go.RowKit
open Go.Maps

theorem BelowX.set {B g i : Nat} {a b : World} {v : Value} (h : BelowX B g a b) : BelowX B g a (b.setCell ⟨g, i, none⟩ v) :=
  ⟨h.os, h.tape, h.output, by simpa using h.size, fun k hk hn => (Below.heap_setCell b ⟨g, i, none⟩ v k hn).trans (h.block k hk hn)⟩
/-- A plan that is taken. -/
def beginP (p : Pk) (ops room : Int) (A : Option Addr) (c : Nat) (keep : List Int) : Pk := { p with room := room, left := ops, K := A, keep := keep, kc := c, down := false }
theorem lit_cell (w : World) (cs : Array Value) (t : TypeId) (j : Nat) : (w.alloc (.cells cs t)).cell? ⟨w.heap.size, j, none⟩ = cs[j]? := by
  have h := heap_alloc_new w (.cells cs t)
  unfold World.cell?
  simp only
  rw [h]
  simp
theorem BelowX.drew {B g : Nat} {a b : World} (h : BelowX B g a b) : BelowX B g a b.drew := ⟨h.os, h.tape, h.output, h.size, h.block⟩
theorem Irow.of_x {w1 W : World} {B g : Nat} {p : Pk} {A : Option Addr} {c : Nat} {L : List Int} (h : Irow w1 B A c L) (hp : PkAt w1 g p) (hb : BelowX w1.heap.size g w1 W) : Irow W B A c L :=
  own_block h (fun ad ha => hb.block ad.block (own_in h ad ha).2 (fun e => by
    obtain ⟨cur, hc⟩ := own_type h ha
    unfold PkAt at hp
    rw [e, hp] at hc
    injection hc with hc
    injection hc with _ hc
    exact absurd hc (by decide)))
/-- The disk's own block has turned, and a new row of numbers is kept. -/
theorem PSt.begun {w w1 W : World} {B g : Nat} {p : Pk} {ops room : Int} {A : Option Addr} {c : Nat} {keep : List Int} (h : PSt w B g p) (hb : Below w.heap.size w w1) (hx : BelowX w1.heap.size g w1 W) (hr : Irow w1 w.heap.size A c keep) (hk : PkAt W g (beginP p ops room A c keep))
    (hi : ∀ x ∈ keep, -9223372036854775808 ≤ x ∧ x ≤ 9223372036854775807) (hl : -9223372036854775808 ≤ ops ∧ ops ≤ 9223372036854775807) (hm : -9223372036854775808 ≤ room ∧ room ≤ 9223372036854775807) :
    PSt W B g (beginP p ops room A c keep) ∧ Does (p.own g) ((beginP p ops room A c keep).own g) w W := by
  have hBw : B ≤ w.heap.size := by have := h.low; have := h.at_.lt; omega
  have hbl : ∀ k, k < w.heap.size → k ≠ g → W.heap[k]? = w.heap[k]? := fun k hk1 hn => (hx.block k (by have := hb.size; omega) hn).trans (hb.block k hk1)
  have hi7 : In7 W B p := h.inn.of (fun k hk1 => hbl k (h.inn.owned k hk1).2 (fun e => h.not_inner (e ▸ hk1)))
  have hrow : Irow W w.heap.size A c keep := hr.of_x (pk_block h.at_ (hb.block g h.at_.lt)) hx
  refine ⟨⟨hk, h.low, ⟨hi7.map, hi7.mlow, hi7.file, hi7.apart, hi7.srt, own_mono hrow hBw, hi⟩, h.size, hl, hm⟩, ?_⟩
  refine ⟨hx.os.trans hb.os, hx.tape.trans hb.tape, hx.output.trans hb.output, Nat.le_trans hb.size hx.size, fun k hk1 hn => hbl k hk1 (fun e => hn (.inl e)), fun k hk1 => ?_⟩
  rcases hk1 with e | e | ⟨ad, ha, e⟩ | ⟨q, hq, e⟩
  · exact .inl (.inl e)
  · exact .inl (.inr (.inl e))
  · exact .inr (e ▸ (own_in hrow ad ha).1)
  · exact .inl (.inr (.inr (.inr ⟨q, hq, e⟩)))

set_option maxRecDepth 100000 in
set_option maxHeartbeats 4000000 in
theorem begin_any (B g : Nat) (p : Pk) (ops room : Int) (A : Option Addr) (keep : List Int) (n c : Nat) (w : World) (h : PSt w B g p) (hn : keep.length = n) (hk : Ints w A keep) (hl : n * 8 ≤ 140737488355328)
    (hi : ∀ x ∈ keep, -9223372036854775808 ≤ x ∧ x ≤ 9223372036854775807) (ho : -9223372036854775808 ≤ ops ∧ ops ≤ 9223372036854775807) (hm : -9223372036854775808 ≤ room ∧ room ≤ 9223372036854775807) :
    Calls Try.prog 46 #[.pointer (some ⟨g, 0, none⟩), .agg #[.int .i64 ops, .int .i64 room, .slice A n c]] w fun e w' => e = .returned (.tuple #[]) ∧ ∃ A' c', PSt w' B g (beginP p ops room A' c' keep) ∧ Does (p.own g) ((beginP p ops room A' c' keep).own g) w w' := by
  have H := Lib.hid h
  have HI := Lib.hid (And.intro hi (And.intro ho hm))
  obtain ⟨w1, hw1⟩ : ∃ w1, w.alloc (.cells #[.int .i64 ops, .int .i64 room, .slice A n c] 25) = w1 := ⟨_, rfl⟩
  have B1 : Hid (Below w.heap.size w w1) := Lib.hid (hw1 ▸ below_new _ _)
  have HN := Lib.hid hn
  have HC := Lib.hid (fun (W : World) (hb : Below w.heap.size w W) => cloneI_any A keep n c W hn (Lies.kept hk hb) hl)
  have H2 := Lib.hid (H.out.kept B1.out)
  have h0 : w1.cell? ⟨w.heap.size, 0, none⟩ = some (.int .i64 ops) ∧ w1.cell? ⟨w.heap.size, 1, none⟩ = some (.int .i64 room) ∧ w1.cell? ⟨w.heap.size, 2, none⟩ = some (.slice A n c) := by
    rw [← hw1]
    exact ⟨lit_cell w _ _ 0, lit_cell w _ _ 1, lit_cell w _ _ 2⟩
  have hs1 : w1.heap.size = w.heap.size + 1 := by rw [← hw1]; simp
  have HS := Lib.hid hs1
  have HK := Lib.hid (fun (W : World) (hb : BelowX w1.heap.size g w1 W) => (show W.cell? ⟨w.heap.size, 0, none⟩ = some (.int .i64 ops) ∧ W.cell? ⟨w.heap.size, 1, none⟩ = some (.int .i64 room) ∧ W.cell? ⟨w.heap.size, 2, none⟩ = some (.slice A n c) from by
    have hgl := H.out.at_.lt
    have e : W.heap[w.heap.size]? = w1.heap[w.heap.size]? := hb.block _ (by omega) (by omega)
    exact ⟨(World.cell?_of_block e).trans h0.1, (World.cell?_of_block e).trans h0.2.1, (World.cell?_of_block e).trans h0.2.2⟩))
  obtain ⟨z0, z1, z2⟩ := h0
  clear h hn hk hi ho hm hs1
  have hw1' := Lib.hid hw1
  have f2 := H2.out.at_.frozen 2
  have f3 := H2.out.at_.frozen 3
  have f4 := H2.out.at_.frozen 4
  go_enter Try.func46, Try.ntmps46
  go_upto_region 1 with fail
  have HP : Hid (∀ W, Below w1.heap.size w1 W → PkAt W g p) := Lib.hid (fun W hb => (H2.out.kept hb).at_)
  go_region_held3 (fun W => W.cell? ⟨w.heap.size, 0, none⟩ = some (.int .i64 ops) ∧ W.cell? ⟨w.heap.size, 1, none⟩ = some (.int .i64 room) ∧ W.cell? ⟨w.heap.size, 2, none⟩ = some (.slice A n c)) (first | exact HK.out _ (by repeat (first | exact BelowX.refl _ _ _ | exact X2.out | refine BelowX.drew ?_ | refine BelowX.set ?_)) | go_keep) (first
    | (go_at_call 69; refine (HC.out _ (B1.out.trans ((by repeat (first | exact Below.refl _ _ | refine Below.drew ?_) : Below w1.heap.size w1 _).mono B1.out.size))).mono ?_; rintro e w2 ⟨A', c', rfl, hr, hb⟩; have X0 : Hid (Below w1.heap.size w1 w2) := Lib.hid ((by repeat (first | exact Below.refl _ _ | refine Below.drew ?_) : Below w1.heap.size w1 _).trans hb); have R2 := Lib.hid hr; have X2 := Lib.hid (below_x (g := g) X0.out); obtain ⟨-, -, k2, k3, k4, k5⟩ := (HP.out _ X0.out).cell; have y2 := (HP.out _ X0.out).frozen 2; have y3 := (HP.out _ X0.out).frozen 3; have y4 := (HP.out _ X0.out).frozen 4; have y5 := (HP.out _ X0.out).frozen 5; clear hr hb))
  all_goals
    go_wp2_with fail
    go_end0
    have hn := HN.out
    subst hn
    have k0 := HP.out _ X0.out
    have hb2 : Below w.heap.size w w2 := B1.out.trans (X0.out.mono B1.out.size)
    have hk5 := PkAt.set (p' := beginP p ops room A' c' keep) (PkAt.set (p' := { p with room := room, left := ops, K := A', keep := keep, kc := c' }) (PkAt.set (p' := { p with room := room, left := ops }) (PkAt.set (p' := { p with room := room }) k0 2 (.int .i64 room) rfl) 3 (.int .i64 ops) rfl) 4 (.slice A' keep.length c') rfl) 5 (.bool false) rfl
    exact ⟨rfl, A', c', H.out.begun hb2 ((((BelowX.refl _ _ _).set).set).set).set (own_mono (C := w.heap.size) R2.out B1.out.size) hk5 HI.out.1 HI.out.2.1 HI.out.2.2⟩

/-- How many survive, of so many. -/
theorem survive_eq (x u : Int) (hu : 0 < u) : Int.tmod (Int.tmod x (u + 1) + (u + 1)) (u + 1) = if x.tmod (u + 1) < 0 then x.tmod (u + 1) + (u + 1) else x.tmod (u + 1) := by
  have h1 := Int.tmod_lt_of_pos x (b := u + 1) (by omega)
  have h2 : -(u + 1) < x.tmod (u + 1) := by
    have := Int.lt_tmod_of_pos x (b := u + 1) (by omega)
    omega
  split
  · rw [Int.tmod_eq_of_lt (by omega) (by omega)]
  · next h =>
    have e : x.tmod (u + 1) + (u + 1) = x.tmod (u + 1) + 1 * (u + 1) := by omega
    rw [Int.tmod_eq_emod_of_nonneg (by omega), e, Int.add_mul_emod_self_right]
    exact Int.emod_eq_of_lt (by omega) h1

set_option maxHeartbeats 2000000 in
theorem survive_any (B g : Nat) (p : Pk) (i : Nat) (u : Int) (w : World) (h : PSt w B g p) (hu : 0 < u) (hb : u ≤ 281474976710656) (_hi : i ≤ 281474976710656) :
    Calls Try.prog 45 #[.pointer (some ⟨g, 0, none⟩), .int .i64 i, .int .i64 u] w fun e w' => e = .returned (.int .i64 (keptM p.keep i u)) ∧ w = w' := by
  obtain ⟨r, hr⟩ : ∃ r, keptM p.keep i u = r := ⟨_, rfl⟩
  rw [hr]
  have HR := Lib.hid hr
  obtain ⟨-, -, -, -, c4, -⟩ := h.at_.cell
  have HK := Lib.hid h.inn.keep.lies
  have HI := Lib.hid h.inn.ki
  clear hr h
  obtain ⟨b, l, size, room, left, K, keep, kc, down⟩ := p
  simp only at c4 HR HK HI
  obtain ⟨n, hn⟩ : ∃ n, keep.length = n := ⟨_, rfl⟩
  rw [hn] at c4
  have HN := Lib.hid hn
  clear hn
  by_cases hlt : i < n
  · have hq := List.getElem?_eq_getElem (l := keep) (i := i) (by have := HN.out; omega)
    generalize keep[i]'(by have := HN.out; omega) = x at hq
    obtain ⟨ad, rfl, a0⟩ := ints_at HK.out hq
    have hx := HI.out x (List.mem_of_getElem? hq)
    have hd : decide ((n : Int) ≤ i) = false := by simp; omega
    have h1 := Int.tmod_lt_of_pos x (b := u + 1) (by omega)
    have h2 : -(u + 1) < x.tmod (u + 1) := by
      have := Int.lt_tmod_of_pos x (b := u + 1) (by omega)
      omega
    have HV : Hid (r = (Int.tmod x (u + 1) + (u + 1)) % (u + 1)) := Lib.hid (by
      rw [← HR.out, ← Int.tmod_eq_emod_of_nonneg (by omega), survive_eq x u hu]
      unfold keptM
      rw [hq])
    obtain ⟨hx0, hx1⟩ := hx
    clear hq
    go_enter Try.func45, Try.ntmps45
    go_wp2_with fail
    go_ret
    rw [HV.out]
    exact ⟨rfl, rfl⟩
  · have HV : Hid (r = 0) := Lib.hid (by
      rw [← HR.out]
      unfold keptM
      rw [List.getElem?_eq_none (by have := HN.out; omega)])
    have hd : decide ((n : Int) ≤ i) = true := by simp; omega
    go_enter Try.func45, Try.ntmps45
    go_wp2_with fail
    go_ret
    rw [HV.out]
    exact ⟨rfl, rfl⟩

end Go.Proofs.Ytjacjafpeajhaaa
