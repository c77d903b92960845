/-
  Walks: the stable sort at any length up to 1024 places.
-/
import Derived.Test.YtefkabkncmflpaaDoorWkY
import Derived.Shelf.GgSortFunc.Compose
namespace Go.Proofs.YtefkabkncmflpaaDoor
open Go.RowKit Go.Sort Go.Shelf

variable {m : Nat}

theorem sym_all (r : Pl m → Int) (cf : Pl m → Pl m → Int) (hcf : ∀ x y, ltOf cf x y = decide (r y < r x)) (g : Nat) (cb : Array Value) (blk cap M : Nat) (hM : m + 1 = M) (hm : M ≤ 1024) (d0 : Array (Pl m)) (w : World)
    (eg : ∀ args w, (callFunc g args).run Tryd.prog w = .ok (.enter g args) w) (hcmp : CmpReads Tryd.prog g cb encP cf blk 0 M w) (hH : Holds encP w blk 0 d0) (h0 : d0.size = M) :
    ∀ (sz a q b k : Nat) (d : Array (Pl m)), b - a ≤ sz → a < q → q < b → b ≤ M → d.size = M → Two r d a q b →
      Calls Tryd.prog 81 #[.slice (some ⟨blk, 0, none⟩) M cap, .int .i64 a, .int .i64 q, .int .i64 b, .func (.func g) #[] cb] ((putRow encP w blk 0 d).drewN k) (Merged r w blk d a b) := by
  intro sz
  induction sz with
  | zero => intro a q b k d h h1 h2; omega
  | succ sz ih =>
    intro a q b k d h h1 h2 h3 hs tw
    by_cases e1 : q = a + 1
    · subst e1
      rw [show ((a + 1 : Nat) : Int) = (a : Int) + 1 by omega]
      exact sym_left r cf hcf g cb blk cap M a b k hM hm d0 d w eg hcmp hH h0 hs h2 h3 tw
    · by_cases e2 : b = q + 1
      · subst e2
        rw [show ((q + 1 : Nat) : Int) = (q : Int) + 1 by omega]
        exact sym_right r cf hcf g cb blk cap M a q k hM hm d0 d w eg hcmp hH h0 hs (by omega) h3 tw
      · exact sym_step r cf hcf g cb blk cap M a q b k hM hm d0 d w eg hcmp hH h0 hs (by omega) (by omega) h3 tw (fun a' q' b' k' d' hlt g1 g2 g3 g4 g5 => ih a' q' b' k' d' (by omega) g1 g2 g3 g4 g5)

theorem cmp_at {g : Nat} {cb : Array Value} {cf : Pl m → Pl m → Int} {blk M : Nat} {w : World} (h : CmpReads Tryd.prog g cb encP cf blk 0 M w) (hb : blk < w.heap.size) (dk : Array (Pl m)) (hs : dk.size = M) (k : Nat) :
    CmpReads Tryd.prog g cb encP cf blk 0 M ((putRow encP w blk 0 dk).drewN k) := fun j os X hX x y => by
  have := h (k + j) (#[] ++ os) X hX x y
  rw [← sortWorld_on encP w blk 0 k j dk X #[] os hb (by rw [hX, hs]), sortWorld_none] at this
  exact this
theorem put_put {blk : Nat} {w : World} (hb : blk < w.heap.size) (dk X : Array (Pl m)) (hs : X.size = dk.size) (k n : Nat) :
    (putRow encP ((putRow encP w blk 0 dk).drewN k) blk 0 X).drewN n = (putRow encP w blk 0 X).drewN (k + n) := by
  rw [← sortWorld_none, ← sortWorld_none, ← sortWorld_none, sortWorld_on encP w blk 0 k n dk X #[] #[] hb hs]
  simp

/-- A stretch is sorted by insertion. -/
def Inserted (r : Pl m → Int) (w : World) (blk : Nat) (d : Array (Pl m)) (a b : Nat) (e : Ending) (w' : World) : Prop :=
  e = .returned (.tuple #[]) ∧ ∃ (d' : Array (Pl m)) (k : Nat), w' = (putRow encP w blk 0 d').drewN k ∧ Else d d' a b ∧ Blk d' a b ∧ Srt r d' a b
theorem ins_any (r : Pl m → Int) (cf : Pl m → Pl m → Int) (hcf : ∀ x y, ltOf cf x y = decide (r y < r x)) (g : Nat) (cb : Array Value) (blk cap M a b k : Nat) (hm : M ≤ 1024) (d0 d : Array (Pl m)) (w : World) (hblk : blk < w.heap.size)
    (eg : ∀ args w, (callFunc g args).run Tryd.prog w = .ok (.enter g args) w) (hcmp : CmpReads Tryd.prog g cb encP cf blk 0 M w) (hH : Holds encP w blk 0 d0) (h0 : d0.size = M) (hs : d.size = M) (hab : a ≤ b) (hb : b ≤ M) (hid : ∀ p, a ≤ p → p < b → d[p]!.val = p) :
    Calls Tryd.prog 80 #[.slice (some ⟨blk, 0, none⟩) M cap, .int .i64 a, .int .i64 b, .func (.func g) #[] cb] ((putRow encP w blk 0 d).drewN k) (Inserted r w blk d a b) := by
  have hC := cmp_at hcmp hblk d hs k
  have hHo : Holds encP ((putRow encP w blk 0 d).drewN k) blk 0 d := holds_putRow encP w blk 0 d0 d hH (by rw [hs, h0])
  have hins := Tryd.insertionSortCmpFunc_one encP encP_one cf g cb blk 0 cap a b d ((putRow encP w blk 0 d).drewN k) eg (by rw [hs]; exact hC) hHo hab (by rw [hs]; exact hb) (by rw [hs]; omega)
  have hso := insertion_sorts r (ltOf cf) hcf a b d hab (by rw [hs]; exact hb) hid
  rw [hs] at hins
  refine hins.mono ?_
  rintro e w' ⟨rfl, n, rfl⟩
  exact ⟨rfl, _, k + n, put_put hblk d _ hso.2.2.1 k n, hso.2.2, hso.1, hso.2.1⟩

/-- A block of so many places, as far as the row goes. -/
def Bl (r : Pl m → Int) (d : Array (Pl m)) (M s x : Nat) : Prop := Blk d x (min (x + s) M) ∧ Srt r d x (min (x + s) M)
/-- All blocks of that size. -/
def Qs (r : Pl m → Int) (d : Array (Pl m)) (M s : Nat) : Prop := ∀ t, t * s < M → Bl r d M s (t * s)
theorem Bl.else {r : Pl m → Int} {d d' : Array (Pl m)} {M s x a b : Nat} (h : Bl r d M s x) (e : Else d d' a b) (hx : x + s ≤ a ∨ b ≤ x) : Bl r d' M s x := by
  refine ⟨⟨fun i i1 i2 => ?_, fun v v1 v2 => ?_⟩, h.2.else e (by omega)⟩
  · rw [e.2 i (by omega)]; exact h.1.into i i1 i2
  · obtain ⟨i, i1, i2, hi⟩ := h.1.onto v v1 v2
    exact ⟨i, i1, i2, by rw [e.2 i (by omega)]; exact hi⟩
theorem Blk.join {d : Array (Pl m)} {a q b : Nat} (h : Blk d a q) (k : Blk d q b) (h1 : a ≤ q) (h2 : q ≤ b) : Blk d a b := by
  refine ⟨fun i i1 i2 => ?_, fun v v1 v2 => ?_⟩
  · by_cases e : i < q
    · have := h.into i i1 e; omega
    · have := k.into i (by omega) i2; omega
  · by_cases e : v < q
    · obtain ⟨i, i1, i2, hi⟩ := h.onto v v1 e; exact ⟨i, i1, by omega, hi⟩
    · obtain ⟨i, i1, i2, hi⟩ := k.onto v (by omega) v2; exact ⟨i, by omega, i2, hi⟩
theorem Two.of {r : Pl m → Int} {d : Array (Pl m)} {a q b : Nat} (h : Blk d a q) (k : Blk d q b) (s : Srt r d a q) (t : Srt r d q b) : Two r d a q b :=
  ⟨s, t, fun i j i1 i2 j1 j2 => by have := h.into i i1 i2; have := k.into j j1 j2; omega⟩

/-- What the passes over blocks of size s know: ahead of the t-th pair all is merged, behind it nothing has turned. -/
def Ps (r : Pl m → Int) (d : Array (Pl m)) (M s t : Nat) : Prop := (∀ u, u < t → u * (2 * s) < M → Bl r d M (2 * s) (u * (2 * s))) ∧ (∀ v, 2 * t ≤ v → v * s < M → Bl r d M s (v * s))
theorem pair_at (s t : Nat) : 2 * t * s = t * (2 * s) := by rw [Nat.mul_comm 2 t, Nat.mul_assoc]
theorem pair_at1 (s t : Nat) : (2 * t + 1) * s = t * (2 * s) + s := by rw [Nat.succ_mul, pair_at]
theorem Ps.start {r : Pl m → Int} {d : Array (Pl m)} {M s : Nat} (h : Qs r d M s) : Ps r d M s 0 := ⟨fun u hu => by omega, fun v _ hv => h v hv⟩
/-- The pair of blocks that comes next. -/
theorem Ps.two {r : Pl m → Int} {d : Array (Pl m)} {M s t b : Nat} (h : Ps r d M s t) (h1 : t * (2 * s) + s < M) (hb : b = min (t * (2 * s) + 2 * s) M) :
    Two r d (t * (2 * s)) (t * (2 * s) + s) b ∧ Blk d (t * (2 * s)) b := by
  have p := h.2 (2 * t) (Nat.le_refl _) (by rw [pair_at]; omega)
  have q := h.2 (2 * t + 1) (by omega) (by rw [pair_at1]; omega)
  rw [pair_at] at p
  rw [pair_at1] at q
  unfold Bl at p q
  rw [show min (t * (2 * s) + s) M = t * (2 * s) + s by omega] at p
  rw [show min (t * (2 * s) + s + s) M = b by omega] at q
  exact ⟨Two.of p.1 q.1 p.2 q.2, p.1.join q.1 (by omega) (by omega)⟩
theorem Ps.next {r : Pl m → Int} {d d' : Array (Pl m)} {M s t b : Nat} (h : Ps r d M s t) (h1 : t * (2 * s) + s < M) (hb : b = min (t * (2 * s) + 2 * s) M) (hm : Mix d d' (t * (2 * s)) b) (hs : Srt r d' (t * (2 * s)) b) : Ps r d' M s (t + 1) := by
  refine ⟨fun u hu hM => ?_, fun v hv hM => ?_⟩
  · by_cases e : u = t
    · subst e
      unfold Bl
      rw [← hb]
      exact ⟨hm.blk (h.two h1 hb).2, hs⟩
    · refine (h.1 u (by omega) hM).else hm.els (Or.inl ?_)
      have := Nat.mul_le_mul_right (2 * s) (show u + 1 ≤ t by omega)
      rw [Nat.succ_mul] at this
      omega
  · refine (h.2 v (by omega) hM).else hm.els (Or.inr ?_)
    have := Nat.mul_le_mul_right s (show 2 * t + 2 ≤ v by omega)
    rw [Nat.succ_mul, pair_at1] at this
    omega
/-- Behind the last pair: blocks of twice the size. -/
theorem Ps.done {r : Pl m → Int} {d : Array (Pl m)} {M s t : Nat} (h : Ps r d M s t) (h1 : M ≤ t * (2 * s) + s) : Qs r d M (2 * s) := fun u hu => by
  by_cases e : u < t
  · exact h.1 u e hu
  · by_cases e2 : u = t
    · subst e2
      have := h.2 (2 * u) (Nat.le_refl _) (by rw [pair_at]; exact hu)
      rw [pair_at] at this
      unfold Bl at this ⊢
      rw [show min (u * (2 * s) + 2 * s) M = min (u * (2 * s) + s) M by omega]
      exact this
    · have := Nat.mul_le_mul_right (2 * s) (show t + 1 ≤ u by omega)
      rw [Nat.succ_mul] at this
      omega

end Go.Proofs.YtefkabkncmflpaaDoor
