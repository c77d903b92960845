/-
  Walks: the stable sort (fewer than 20 places), greatestFirst.
-/
import Derived.Test.YtefkabkncmflpaaDoorWkS
import Derived.Test.YtefkabkncmflpaaDoorStable
namespace Go.Proofs.YtefkabkncmflpaaDoor
open Go.RowKit Go.Sort Go.Shelf

variable {m : Nat}
def encP (i : Pl m) : Value := .int .i64 (i.val : Int)
theorem encP_one : OneCell (encP (m := m)) := fun _ => rfl

theorem row_block {B : Nat} {w w' : World} (h : Below B w w') {b : Nat} (hb : b < B) : w'.heap[b]? = w.heap[b]? := h.block b hb
theorem putRow_below {B : Nat} (w : World) (blk : Nat) (d : Array (Pl m)) (h : B ≤ blk) : Below B w (putRow encP w blk 0 d) := by
  refine ⟨rfl, rfl, rfl, by simp, fun k hk => ?_⟩
  show ((w.heap.modify blk _)[k]?) = _
  rw [Array.getElem?_modify, if_neg (by omega)]

set_option maxHeartbeats 400000 in
theorem stable_small (r : Pl m → Int) (cf : Pl m → Pl m → Int) (hcf : ∀ x y, ltOf cf x y = decide (r y < r x)) (g : Nat) (cb : Array Value) (blk cap M : Nat) (hM : m + 1 = M) (d : Array (Pl m)) (w : World) (hm : M < 20)
    (eg : ∀ args w, (callFunc g args).run Tryd.prog w = .ok (.enter g args) w) (hcmp : CmpReads Tryd.prog g cb encP cf blk 0 M w) (hH : Holds encP w blk 0 d) (hs : d.size = M) (hid : ∀ p, p < M → d[p]!.val = p) :
    Calls Tryd.prog 69 #[.slice (some ⟨blk, 0, none⟩) M cap, .int .i64 (M : Int), .func (.func g) #[] cb] w fun e w' =>
      e = .returned (.tuple #[]) ∧ ∃ (d' : Array (Pl m)) (n : Nat), w' = (putRow encP w blk 0 d').drewN n ∧ d'.size = M ∧ Blk d' 0 M ∧ Srt r d' 0 M := by
  have hins := Tryd.insertionSortCmpFunc_one encP encP_one cf g cb blk 0 cap 0 M d w eg (by rw [hs]; exact hcmp) hH (by omega) (by omega) (by omega)
  have hso := insertion_sorts r (ltOf cf) hcf 0 M d (by omega) (by omega) (fun p _ h => hid p h)
  rw [hs] at hins
  have HI := Lib.hid hins
  have HS := Lib.hid hso
  have n0 : 1 ≤ M := by omega
  have HM := Lib.hid hM
  have HZ := Lib.hid hs
  clear hins hso hH hcmp hid hM hs
  go_enter Tryd.func69, Tryd.ntmps69
  go_wp2_with fail
  refine wp_loop_rounds 1 ?_
  rw [rounds_succ]
  go_wp2_with (go_at_call 80; refine HI.out.mono ?_; rintro e w' ⟨rfl, n, hw⟩; have HW := Lib.hid hw; clear hw)
  refine wp_loop_rounds 1 ?_
  rw [rounds_succ]
  go_wp2_with fail
  go_end0
  exact ⟨rfl, _, n, HW.out, by rw [HS.out.2.2.1]; exact HZ.out, HS.out.1, HS.out.2.1⟩

set_option maxHeartbeats 400000 in
theorem sortStable_small (r : Pl m → Int) (cf : Pl m → Pl m → Int) (hcf : ∀ x y, ltOf cf x y = decide (r y < r x)) (g : Nat) (cb : Array Value) (blk cap M : Nat) (hM : m + 1 = M) (d : Array (Pl m)) (w : World) (hm : M < 20)
    (eg : ∀ args w, (callFunc g args).run Tryd.prog w = .ok (.enter g args) w) (hcmp : CmpReads Tryd.prog g cb encP cf blk 0 M w) (hH : Holds encP w blk 0 d) (hs : d.size = M) (hid : ∀ p, p < M → d[p]!.val = p) :
    Calls Tryd.prog 59 #[.slice (some ⟨blk, 0, none⟩) M cap, .func (.func g) #[] cb] w fun e w' =>
      e = .returned (.tuple #[]) ∧ ∃ (d' : Array (Pl m)) (n : Nat), w' = (putRow encP w blk 0 d').drewN n ∧ d'.size = M ∧ Blk d' 0 M ∧ Srt r d' 0 M := by
  have HS := Lib.hid (stable_small r cf hcf g cb blk cap M hM d w hm eg hcmp hH hs hid)
  have HM := Lib.hid hM
  clear hcmp hH hid hM hs
  go_enter Tryd.func59, Tryd.ntmps59
  go_wp2_with (go_at_call 69; refine HS.out.mono ?_; rintro e w' ⟨rfl, d', n, hw, h1, h2, h3⟩; have HW := Lib.hid (And.intro hw (And.intro h1 (And.intro h2 h3))); clear hw h1 h2 h3)
  go_end0
  exact ⟨rfl, d', n, HW.out⟩

theorem row_putRow {W : World} {gp t M : Nat} {f : Nat → Value} {d' : Array (Pl m)} (h : W.rowIs gp t M f) (hd : d'.size = M) (n : Nat) : ((putRow encP W gp 0 d').drewN n).rowIs gp t M (fun i => encP d'[i]!) := by
  obtain ⟨c, hb, hn, hc⟩ := h
  refine ⟨putCells encP 0 d' c, ?_, by simp [putCells, hn], fun i hi => ?_⟩
  · show (W.heap.modify gp (onCells (putCells encP 0 d')))[gp]? = _
    simp [Array.getElem?_modify, hb, onCells]
  · simp [putCells, Array.getElem?_mapIdx, hc i hi, hd, hi]

/-- The places as they stand at first. -/
def ids (m : Nat) : Array (Pl m) := Array.ofFn (n := m + 1) fun i => i
theorem ids_size : (ids m).size = m + 1 := by simp [ids]
theorem ids_get (p : Nat) (h : p < m + 1) : (ids m)[p]!.val = p := by
  rw [getElem!_pos _ p (by rw [ids_size]; exact h)]
  simp [ids]

theorem info3 : (Tryd.prog.info? 3).map (fun i => (i.zero, i.size, i.bytes)) = some (some (.int .i64 0), 1, 8) := by kernel_rfl
theorem enters_closure : ∀ args w, (callFunc 60 args).run Tryd.prog w = .ok (.enter 60 args) w := enters_of Tryd.func60 (by kernel_rfl) rfl

def cfR (r : Pl m → Int) (x y : Pl m) : Int := cmp3 (r y) (r x)
theorem cfR_lt (r : Pl m → Int) (x y : Pl m) : ltOf (cfR r) x y = decide (r y < r x) := by
  unfold ltOf cfR cmp3
  apply decide_eq_decide.2
  split
  · omega
  · split <;> omega

theorem holds_ids {W : World} {gp t M : Nat} (hM : m + 1 = M) (h : W.rowIs gp t M (fun i => .int .i64 (if i < M then (i : Int) else 0))) : Holds encP W gp 0 (ids m) := fun j hj => by
  rw [ids_size] at hj
  refine ⟨?_, by rw [Nat.zero_add]; exact h.frozen j⟩
  rw [Nat.zero_add, h.cell (by omega), if_pos (by omega), encP, ids_get j hj]

theorem reads_places (r : Pl m → Int) (gb gr cap gp : Nat) (W : World) (M : Nat) (hM : m + 1 = M) (hm : M ≤ 1024) (hgb : gb < W.heap.size) (hgr : gr < W.heap.size) (h1 : gb ≠ gp) (h2 : gr ≠ gp)
    (hb : W.cell? ⟨gb, 0, none⟩ = some (.slice (some ⟨gr, 0, none⟩) M cap)) (hr : ∀ i : Pl m, W.cell? ⟨gr, i.val, none⟩ = some (.int .u64 (r i))) :
    CmpReads Tryd.prog 60 #[.pointer (some ⟨gb, 0, none⟩)] encP (cfR r) gp 0 M W := by
  intro k os dk hdk x y
  have key : ∀ (a : Addr), a.block < W.heap.size → a.block ≠ gp → (sortWorld encP W gp 0 k dk os).cell? a = W.cell? a := fun a ha hne => by
    unfold sortWorld
    rw [cell?_grow _ _ _ (by simpa using ha), cell?_putRow_other _ _ _ _ _ _ (Or.inl hne)]
    rfl
  exact closure_any x.val y.val M gb gr cap (r x) (r y) _ (by have := x.isLt; omega) (by have := y.isLt; omega) hm (by rw [key _ hgb h1]; exact hb) (by rw [key _ hgr h2]; exact hr x) (by rw [key _ hgr h2]; exact hr y)

set_option maxRecDepth 100000 in
set_option maxHeartbeats 1000000 in
theorem greatest_small (r : Pl m → Int) (gr cap M : Nat) (hM : m + 1 = M) (w : World) (hm : M < 20) (hgr : gr < w.heap.size) (hr : ∀ i : Pl m, w.cell? ⟨gr, i.val, none⟩ = some (.int .u64 (r i))) :
    Calls Tryd.prog 53 #[.slice (some ⟨gr, 0, none⟩) M cap] w fun e w' => ∃ (gp : Nat) (p : Array (Pl m)), e = .returned (.slice (some ⟨gp, 0, none⟩) M M) ∧ Below w.heap.size w w' ∧ w.heap.size ≤ gp ∧
      w'.rowIs gp 3 M (fun i => encP p[i]!) ∧ p.size = M ∧ Blk p 0 M ∧ Srt r p 0 M := by
  obtain ⟨i0, hi, hz0, hz1, hz2⟩ := info_parts info3
  have HM := Lib.hid hM
  have HR := Lib.hid hr
  have M0 : 1 ≤ M := by omega
  clear hM hr
  go_enter Tryd.func53, Tryd.ntmps53
  go_wp2_with (at_make; refine wpList_make_row _ rfl _ _ 85 rfl 3 i0 (.int .i64 0) Tryd.underlying85 hi hz0 hz1 rfl .i64 .i64 M rfl rfl (by rw [hz2]; omega) (by omega) ?_)
  go_loopw [10] (fun t10 wr => ∃ k : Nat, k ≤ M ∧ t10 = .int .i64 k ∧ wr.rowIs (w.heap.size + 1) 3 M (fun i => .int .i64 (if i < k then (i : Int) else 0)) ∧ wr.cell? ⟨w.heap.size, 0, none⟩ = some (.slice (some ⟨gr, 0, none⟩) M cap) ∧ w.heap.size + 1 < wr.heap.size ∧ Below w.heap.size w wr) (fun t10 _ => M - (intOf t10).toNat)
  case atStart =>
    refine ⟨0, by omega, rfl, ?_, ?_, ?_, ?_⟩
    · have := World.rowIs_made (w.alloc (.cells #[.slice (some ⟨gr, 0, none⟩) M cap] 84)) (.int .i64 0) M 3
      simp only [World.size_alloc] at this
      exact this.congr fun i _ => by simp
    · simp [go_sem]
    · simp
    · exact ((Below.refl _ _).alloc (Nat.le_refl _) _).alloc (by simp) _
  case round =>
    obtain ⟨k, hk, rfl, r1, hc, hsz, hbl⟩ := hrel
    by_cases hlt : k < M
    · have c1 := r1.cell hlt
      have f1 := r1.frozen k
      have R1 := Lib.hid r1
      have HC := Lib.hid hc
      clear r1 hc
      go_wp2
      go_roundw
      case rel =>
        refine ⟨k + 1, by omega, by go_num, ?_, ?_, ?_, ?_⟩
        · refine (R1.out.set k _).congr fun i hi => ?_
          by_cases h1 : i = k
          · subst h1; simp
          · simp only [if_neg h1]
            by_cases h2 : i < k
            · rw [if_pos h2, if_pos (by omega)]
            · rw [if_neg h2, if_neg (by omega)]
        · rw [World.cell?_setCell_other _ _ _ _ (by simp)]; exact HC.out
        · simpa [World.setCell] using hsz
        · exact hbl.setCell (by simp) _
      case measure => simp [intOf]; omega
    · obtain rfl : k = M := by omega
      have HL := Lib.hid (holds_ids HM.out r1)
      have HRD := Lib.hid (reads_places r w.heap.size gr cap (w.heap.size + 1) wr k HM.out (by omega) (by omega) (by have := hbl.size; omega) (by omega) (by omega) hc (fun i => by rw [hbl.cell (p := ⟨gr, i.val, none⟩) hgr]; exact HR.out i))
      have R1 := Lib.hid r1
      clear r1 hc
      go_wp2_with (go_at_call 59; refine (sortStable_small r (cfR r) (cfR_lt r) 60 _ (w.heap.size + 1) k k HM.out (ids m) _ hm enters_closure HRD.out HL.out (by rw [ids_size]; exact HM.out) (fun p hp => ids_get p (by have := HM.out; omega))).mono ?_; rintro e w' ⟨rfl, d', n, hw, h1, h2, h3⟩; have HW := Lib.hid (And.intro hw (And.intro h1 (And.intro h2 h3))); clear hw h1 h2 h3)
      go_ret
      refine ⟨w.heap.size + 1, d', rfl, ?_, by omega, ?_, HW.out.2⟩
      · rw [HW.out.1]; exact (hbl.trans ((putRow_below _ _ _ (by omega)).trans (drewN_below _ _ _)))
      · rw [HW.out.1]; exact row_putRow R1.out HW.out.2.1 n

end Go.Proofs.YtefkabkncmflpaaDoor
