/-
  Memory: what the law lays at its start, in whatever order: copies, bytes, a plan.
-/
import Derived.Test.YtjacjafpeajhaaaOwA
namespace Go.Proofs.Ytjacjafpeajhaaa
open Go.RowKit
open Go.Maps

/-- Copies of files, in blocks from S to E. -/
structure Cop (W : World) (B S E : Nat) (A : Option Addr) (c : Nat) (l : List Fl) : Prop where
  low : B ≤ S
  up : E ≤ W.heap.size
  row : Frow W S A c l
  rowE : ∀ ad, A = some ad → ad.block < E
  data : Mades W S l
  dataE : ∀ q ∈ l, ∀ ad, q.d.a = some ad → ad.block < E
theorem Cop.of {W W' : World} {B S E c : Nat} {A : Option Addr} {l : List Fl} (h : Cop W B S E A c l) (hz : W.heap.size ≤ W'.heap.size) (hb : ∀ k, S ≤ k → k < E → W'.heap[k]? = W.heap[k]?) : Cop W' B S E A c l :=
  ⟨h.low, Nat.le_trans h.up hz, own_block h.row (fun ad ha => hb _ (own_in h.row ad ha).1 (h.rowE ad ha)), h.rowE, fun q hq => own_block (h.data q hq) (fun ad ha => hb _ (own_in (h.data q hq) ad ha).1 (h.dataE q hq ad ha)), h.dataE⟩
theorem Cop.kept {W W' : World} {B S E c : Nat} {A : Option Addr} {l : List Fl} (h : Cop W B S E A c l) (hb : Below W.heap.size W W') : Cop W' B S E A c l := h.of hb.size (fun k _ hk => hb.block k (by have := h.up; omega))
theorem Cop.mf {W : World} {B S E c : Nat} {A : Option Addr} {l : List Fl} (h : Cop W B S E A c l) : Mf S E W A c l W :=
  ⟨h.row, fun q hq => by
    have := (h.data q hq).spot
    rcases this with e | ⟨g, cur, e, h1, h2, h3⟩
    · exact .inl e
    · exact .inr ⟨g, cur, e, h1, h.dataE q hq _ e, h3⟩, Kp.refl _ _⟩
/-- A plan's box, as it is made; as it is filled. -/
def BoxP (W : World) (g : Nat) (a b : Int) (A : Option Addr) (n c : Nat) : Prop := W.heap[g]? = some (.cells #[.int .i64 a, .int .i64 b, .slice A n c] 25 (0, 0))
theorem BoxP.lt {W : World} {g : Nat} {a b : Int} {A : Option Addr} {n c : Nat} (h : BoxP W g a b A n c) : g < W.heap.size := (Array.getElem?_eq_some_iff.1 h).1
theorem BoxP.of {W W' : World} {g : Nat} {a b : Int} {A : Option Addr} {n c : Nat} (h : BoxP W g a b A n c) (e : W'.heap[g]? = W.heap[g]?) : BoxP W' g a b A n c := e.trans h
theorem BoxP.cell {W : World} {g : Nat} {a b : Int} {A : Option Addr} {n c : Nat} (h : BoxP W g a b A n c) : W.cell? ⟨g, 0, none⟩ = some (.int .i64 a) ∧ W.cell? ⟨g, 1, none⟩ = some (.int .i64 b) ∧ W.cell? ⟨g, 2, none⟩ = some (.slice A n c) := by
  unfold BoxP at h
  refine ⟨?_, ?_, ?_⟩ <;> simp [World.cell?, h]
theorem BoxP.frozen {W : World} {g : Nat} {a b : Int} {A : Option Addr} {n c : Nat} (h : BoxP W g a b A n c) (i : Nat) : W.frozen? ⟨g, i, none⟩ = false := by
  unfold BoxP at h
  simp [World.frozen?, h]
theorem BoxP.fill {W : World} {g : Nat} {a b a' b' : Int} {A A' : Option Addr} {n c n' c' : Nat} (h : BoxP W g a b A n c) : BoxP (((W.setCell ⟨g, 0, none⟩ (.int .i64 a')).setCell ⟨g, 1, none⟩ (.int .i64 b')).setCell ⟨g, 2, none⟩ (.slice A' n' c')) g a' b' A' n' c' := by
  unfold BoxP at h ⊢
  simp [World.setCell, Array.getElem?_modify, h]
/-- A row of bytes' block is no box. -/
theorem Row.not_box {W : World} {B g c : Nat} {a b : Int} {A A' : Option Addr} {n m : Nat} {L : List Int} (h : Row W B A c L) (k : BoxP W g a b A' n m) : ∀ ad, A = some ad → ad.block ≠ g := fun ad ha e => by
  obtain ⟨cur, e2⟩ := own_type h ha
  unfold BoxP at k
  rw [e, k] at e2
  injection e2 with e2
  injection e2 with _ e2
  exact absurd e2 (by decide)
theorem Irow.not_box {W : World} {B g c : Nat} {a b : Int} {A A' : Option Addr} {n m : Nat} {L : List Int} (h : Irow W B A c L) (k : BoxP W g a b A' n m) : ∀ ad, A = some ad → ad.block ≠ g := fun ad ha e => by
  obtain ⟨cur, e2⟩ := own_type h ha
  unfold BoxP at k
  rw [e, k] at e2
  injection e2 with e2
  injection e2 with _ e2
  exact absurd e2 (by decide)
theorem Irow.not_row {W : World} {B B' c c' : Nat} {A A' : Option Addr} {L M : List Int} (h : Irow W B A c L) (k : Row W B' A' c' M) : ∀ ad ad', A = some ad → A' = some ad' → ad.block ≠ ad'.block := fun ad ad' ha ha' e => by
  obtain ⟨cur, e2⟩ := own_type h ha
  obtain ⟨cur', e3⟩ := own_type k ha'
  rw [e, e3] at e2
  injection e2 with e2
  injection e2 with _ e2
  exact absurd e2 (by decide)

/-- Off: a block that is not from S to E. -/
def Off (S E : Nat) (A : Option Addr) : Prop := ∀ ad, A = some ad → ad.block < S ∨ E ≤ ad.block
/-- What has been laid when so many of the calls, and these of the literals and the box, have come up. -/
structure F3 (w1 : World) (l : List Fl) (L : List Int) (n m : Nat) (ops room : Int) (keep : List Int) (kn : Nat) (cN : Nat) (z s b : Bool)
    (S E : Nat) (A5 A7 A8 A6 : Option Addr) (c5 c7 c8 c6 g0 g7 gb : Nat) (l5 : List Fl) (v29 v30 v32 v33 v34 v36 v9 : Value) (W : World) : Prop where
  bel : Below w1.heap.size w1 W
  f1 : 1 ≤ cN → v29 = .slice A5 n c5 ∧ l5.map Fl.rd = l.map Fl.rd ∧ Cop W w1.heap.size S E A5 c5 l5
  fz : z = true → v30 = .slice (some ⟨g0, 0, none⟩) 0 0 ∧ (cN ≤ 1 → Lit0 W g0) ∧ w1.heap.size ≤ g0 ∧ (1 ≤ cN → g0 < S ∨ E ≤ g0) ∧ g0 < W.heap.size
  f2 : cN = 2 → v32 = .slice A7 m c7 ∧ Row W w1.heap.size A7 c7 L ∧ Off S E A7
  fs : s = true → v33 = .slice (some ⟨g7, 0, none⟩) 1 1 ∧ (cN ≤ 2 → Bys W (some ⟨g7, 0, none⟩) [7])
  f3 : 3 ≤ cN → v34 = .slice A8 (m + 1) c8 ∧ Row W w1.heap.size A8 c8 (L ++ [7]) ∧ Off S E A8
  f4 : 4 ≤ cN → v36 = .agg #[.int .i64 ops, .int .i64 room, .slice A6 kn c6] ∧ Irow W w1.heap.size A6 c6 keep ∧ Off S E A6
  fb : b = true → v9 = .pointer (some ⟨gb, 0, none⟩) ∧ w1.heap.size ≤ gb ∧ BoxP W gb 0 0 none 0 0 ∧ (1 ≤ cN → gb < S ∨ E ≤ gb)

/-- All of it has been laid. -/
structure G3 (w1 : World) (l : List Fl) (L : List Int) (n m : Nat) (ops room : Int) (keep : List Int) (kn S E : Nat) (A5 A8 A6 : Option Addr) (c5 c8 c6 gb : Nat) (l5 : List Fl) (W : World) : Prop where
  bel : Below w1.heap.size w1 W
  rd : l5.map Fl.rd = l.map Fl.rd
  cop : Cop W w1.heap.size S E A5 c5 l5
  byr : Row W w1.heap.size A8 c8 (L ++ [7])
  byo : Off S E A8
  kr : Irow W w1.heap.size A6 c6 keep
  ko : Off S E A6
  box : BoxP W gb ops room A6 kn c6
  low : w1.heap.size ≤ gb
  boxo : gb < S ∨ E ≤ gb

section
variable {w1 W W' : World} {l : List Fl} {L : List Int} {n m : Nat} {ops room : Int} {keep : List Int} {kn cN : Nat} {z s b : Bool}
  {S E : Nat} {A5 A7 A8 A6 : Option Addr} {c5 c7 c8 c6 g0 g7 gb : Nat} {l5 : List Fl} {v29 v30 v32 v33 v34 v36 v9 : Value}
theorem F3.kept (h : F3 w1 l L n m ops room keep kn cN z s b S E A5 A7 A8 A6 c5 c7 c8 c6 g0 g7 gb l5 v29 v30 v32 v33 v34 v36 v9 W) (hb : Below W.heap.size W W') :
    F3 w1 l L n m ops room keep kn cN z s b S E A5 A7 A8 A6 c5 c7 c8 c6 g0 g7 gb l5 v29 v30 v32 v33 v34 v36 v9 W' :=
  ⟨h.bel.trans (hb.mono h.bel.size), fun hc => ⟨(h.f1 hc).1, (h.f1 hc).2.1, (h.f1 hc).2.2.kept hb⟩,
    fun hz => ⟨(h.fz hz).1, fun hc => ((h.fz hz).2.1 hc).kept hb, (h.fz hz).2.2.1, (h.fz hz).2.2.2.1, by have := (h.fz hz).2.2.2.2; have := hb.size; omega⟩,
    fun hc => ⟨(h.f2 hc).1, (h.f2 hc).2.1.kept hb (Nat.le_refl _), (h.f2 hc).2.2⟩,
    fun hs => ⟨(h.fs hs).1, fun hc => ((h.fs hs).2 hc).kept hb⟩,
    fun hc => ⟨(h.f3 hc).1, (h.f3 hc).2.1.kept hb (Nat.le_refl _), (h.f3 hc).2.2⟩,
    fun hc => ⟨(h.f4 hc).1, own_kept (h.f4 hc).2.1 hb (Nat.le_refl _), (h.f4 hc).2.2⟩,
    fun hb' => ⟨(h.fb hb').1, (h.fb hb').2.1, (h.fb hb').2.2.1.of (hb.block _ (h.fb hb').2.2.1.lt), (h.fb hb').2.2.2⟩⟩
theorem F3.copied (h : F3 w1 l L n m ops room keep kn 0 z s b S E A5 A7 A8 A6 c5 c7 c8 c6 g0 g7 gb l5 v29 v30 v32 v33 v34 v36 v9 W) {A : Option Addr} {c : Nat} {l' : List Fl} (h1 : l'.map Fl.rd = l.map Fl.rd) (h2 : Mades W' W.heap.size l') (h3 : Frow W' W.heap.size A c l') (hb : Below W.heap.size W W') :
    F3 w1 l L n m ops room keep kn 1 z s b W.heap.size W'.heap.size A A7 A8 A6 c c7 c8 c6 g0 g7 gb l' (.slice A n c) v30 v32 v33 v34 v36 v9 W' := by
  have k := h.kept hb
  refine ⟨k.bel, fun _ => ⟨rfl, h1, ⟨h.bel.size, Nat.le_refl _, h3, fun ad ha => (own_in h3 ad ha).2, h2, fun q hq ad ha => (own_in (h2 q hq) ad ha).2⟩⟩, fun hz => ?_, fun hc => absurd hc (by decide), fun hs => ⟨(k.fs hs).1, fun _ => (k.fs hs).2 (by decide)⟩, fun hc => absurd hc (by decide), fun hc => absurd hc (by decide), fun hb' => ?_⟩
  · obtain ⟨k1, k2, k3, k4, k5⟩ := k.fz hz
    exact ⟨k1, fun _ => k2 (by decide), k3, fun _ => .inl (h.fz hz).2.2.2.2, k5⟩
  · obtain ⟨k1, k2, k3, k4⟩ := k.fb hb'
    exact ⟨k1, k2, k3, fun _ => .inl (h.fb hb').2.2.1.lt⟩
theorem F3.lit0 (h : F3 w1 l L n m ops room keep kn cN false s b S E A5 A7 A8 A6 c5 c7 c8 c6 g0 g7 gb l5 v29 v30 v32 v33 v34 v36 v9 W) :
    F3 w1 l L n m ops room keep kn cN true s b S E A5 A7 A8 A6 c5 c7 c8 c6 W.heap.size g7 gb l5 v29 (.slice (some ⟨W.heap.size, 0, none⟩) 0 0) v32 v33 v34 v36 v9 (W.alloc (.cells #[] 5)) := by
  have k := h.kept (below_new W (.cells #[] 5))
  exact ⟨k.bel, k.f1, fun _ => ⟨rfl, fun _ => heap_alloc_new W _, h.bel.size, fun hc => .inr (h.f1 hc).2.2.up, by simp⟩, k.f2, k.fs, k.f3, k.f4, k.fb⟩
theorem F3.lit7 (h : F3 w1 l L n m ops room keep kn cN z false b S E A5 A7 A8 A6 c5 c7 c8 c6 g0 g7 gb l5 v29 v30 v32 v33 v34 v36 v9 W) :
    F3 w1 l L n m ops room keep kn cN z true b S E A5 A7 A8 A6 c5 c7 c8 c6 g0 W.heap.size gb l5 v29 v30 v32 (.slice (some ⟨W.heap.size, 0, none⟩) 1 1) v34 v36 v9 (W.alloc (.cells #[.int .u8 7] 5)) := by
  have k := h.kept (below_new W (.cells #[.int .u8 7] 5))
  exact ⟨k.bel, k.f1, k.fz, k.f2, fun _ => ⟨rfl, fun _ => (row_made W W.heap.size [7] _ rfl (by simp) (Nat.le_refl _)).lies⟩, k.f3, k.f4, k.fb⟩
theorem F3.box (h : F3 w1 l L n m ops room keep kn cN z s false S E A5 A7 A8 A6 c5 c7 c8 c6 g0 g7 gb l5 v29 v30 v32 v33 v34 v36 v9 W) :
    F3 w1 l L n m ops room keep kn cN z s true S E A5 A7 A8 A6 c5 c7 c8 c6 g0 g7 W.heap.size l5 v29 v30 v32 v33 v34 v36 (.pointer (some ⟨W.heap.size, 0, none⟩)) (W.alloc (.cells #[.int .i64 0, .int .i64 0, .slice none 0 0] 25)) := by
  have k := h.kept (below_new W (.cells #[.int .i64 0, .int .i64 0, .slice none 0 0] 25))
  exact ⟨k.bel, k.f1, k.fz, k.f2, k.fs, k.f3, k.f4, fun _ => ⟨rfl, h.bel.size, heap_alloc_new W _, fun hc => .inr (h.f1 hc).2.2.up⟩⟩
theorem F3.app1 (h : F3 w1 l L n m ops room keep kn 1 true s b S E A5 A7 A8 A6 c5 c7 c8 c6 g0 g7 gb l5 v29 v30 v32 v33 v34 v36 v9 W) {A : Option Addr} {c : Nat} (hr : Row W' g0 A c L) (hb : Below W.heap.size W W') (hp : ∀ ad, A = some ad → ad.block = g0 ∨ W.heap.size ≤ ad.block) :
    F3 w1 l L n m ops room keep kn 2 true s b S E A5 A A8 A6 c5 c c8 c6 g0 g7 gb l5 v29 v30 (.slice A m c) v33 v34 v36 v9 W' := by
  have k := h.kept hb
  obtain ⟨z1, z2, z3, z4, z5⟩ := h.fz rfl
  refine ⟨k.bel, fun _ => k.f1 (by decide), fun _ => ⟨z1, fun hc => absurd hc (by decide), z3, fun _ => z4 (by decide), by have := hb.size; omega⟩, fun _ => ⟨rfl, hr.mono z3, fun ad ha => ?_⟩, fun hs => ⟨(k.fs hs).1, fun _ => (k.fs hs).2 (by decide)⟩, fun hc => absurd hc (by decide), fun hc => absurd hc (by decide), fun hb' => ⟨(k.fb hb').1, (k.fb hb').2.1, (k.fb hb').2.2.1, fun _ => (k.fb hb').2.2.2 (by decide)⟩⟩
  rcases hp ad ha with e | e
  · rw [e]; exact z4 (by decide)
  · have := (h.f1 (by decide)).2.2.up
    exact .inr (by omega)
theorem F3.app2 (h : F3 w1 l L n m ops room keep kn 2 true true b S E A5 A7 A8 A6 c5 c7 c8 c6 g0 g7 gb l5 v29 v30 v32 v33 v34 v36 v9 W) {A : Option Addr} {c : Nat} (hr : Row W' w1.heap.size A c (L ++ [7])) (hg : W.grownBy W' (Value.slice A7 m c7).ownBlock) (hp : ∀ ad, A = some ad → (∃ a0, A7 = some a0 ∧ ad.block = a0.block) ∨ W.heap.size ≤ ad.block) :
    F3 w1 l L n m ops room keep kn 3 true true b S E A5 A7 A A6 c5 c7 c c6 g0 g7 gb l5 v29 v30 v32 v33 (.slice A (m + 1) c) v36 v9 W' := by
  obtain ⟨f21, f22, f23⟩ := h.f2 rfl
  have hof : ∀ r, (Value.slice A7 m c7).ownBlock = some r → ∃ a0, A7 = some a0 ∧ r = a0.block := fun r e => by
    cases A7 with
    | none => simp [Value.ownBlock] at e
    | some a0 => exact ⟨a0, rfl, by simpa [Value.ownBlock] using e.symm⟩
  refine ⟨h.bel.trans ⟨hg.os, hg.tape, hg.output, hg.size, fun k hk => hg.block k (by have := h.bel.size; omega) (fun e => ?_)⟩, fun _ => ⟨(h.f1 (by decide)).1, (h.f1 (by decide)).2.1, (h.f1 (by decide)).2.2.of hg.size (fun k h1 h2 => hg.block k (by have := (h.f1 (by decide)).2.2.up; omega) (fun e => ?_))⟩, fun _ => ⟨(h.fz rfl).1, fun hc => absurd hc (by decide), (h.fz rfl).2.2.1, fun _ => (h.fz rfl).2.2.2.1 (by decide), by have := (h.fz rfl).2.2.2.2; have := hg.size; omega⟩, fun hc => absurd hc (by decide), fun _ => ⟨(h.fs rfl).1, fun hc => absurd hc (by decide)⟩, fun _ => ⟨rfl, hr, fun ad ha => ?_⟩, fun hc => absurd hc (by decide), fun hb' => ⟨(h.fb hb').1, (h.fb hb').2.1, (h.fb hb').2.2.1.of (hg.block _ (h.fb hb').2.2.1.lt (fun e => ?_)), fun _ => (h.fb hb').2.2.2 (by decide)⟩⟩
  · obtain ⟨a0, e1, e2⟩ := hof _ e.symm
    have := (own_in f22 a0 e1).1
    omega
  · obtain ⟨a0, e1, e2⟩ := hof _ e.symm
    have := f23 a0 e1
    omega
  · rcases hp ad ha with ⟨a0, e1, e2⟩ | e
    · rw [e2]; exact f23 a0 e1
    · have := (h.f1 (by decide)).2.2.up
      exact .inr (by omega)
  · obtain ⟨a0, e1, e2⟩ := hof _ e.symm
    exact f22.not_box (h.fb hb').2.2.1 a0 e1 e2.symm
theorem F3.planned (h : F3 w1 l L n m ops room keep kn 3 z s b S E A5 A7 A8 A6 c5 c7 c8 c6 g0 g7 gb l5 v29 v30 v32 v33 v34 v36 v9 W) {A : Option Addr} {c : Nat} (hr : Irow W' W.heap.size A c keep) (hb : Below W.heap.size W W') :
    F3 w1 l L n m ops room keep kn 4 z s b S E A5 A7 A8 A c5 c7 c8 c g0 g7 gb l5 v29 v30 v32 v33 v34 (.agg #[.int .i64 ops, .int .i64 room, .slice A kn c]) v9 W' := by
  have k := h.kept hb
  exact ⟨k.bel, fun _ => k.f1 (by decide), fun hz => ⟨(k.fz hz).1, fun hc => absurd hc (by decide), (k.fz hz).2.2.1, fun _ => (k.fz hz).2.2.2.1 (by decide), (k.fz hz).2.2.2.2⟩, fun hc => absurd hc (by decide), fun hs => ⟨(k.fs hs).1, fun hc => absurd hc (by decide)⟩, fun _ => k.f3 (by decide), fun _ => ⟨rfl, own_mono hr h.bel.size, fun ad ha => .inr (by have := (own_in hr ad ha).1; have := (h.f1 (by decide)).2.2.up; omega)⟩, fun hb' => ⟨(k.fb hb').1, (k.fb hb').2.1, (k.fb hb').2.2.1, fun _ => (k.fb hb').2.2.2 (by decide)⟩⟩
theorem F3.start (hb : Below w1.heap.size w1 W) : F3 w1 l L n m ops room keep kn 0 false false false S E A5 A7 A8 A6 c5 c7 c8 c6 g0 g7 gb l5 v29 v30 v32 v33 v34 v36 v9 W :=
  ⟨hb, fun hc => absurd hc (by decide), fun hc => absurd hc (by decide), fun hc => absurd hc (by decide), fun hc => absurd hc (by decide), fun hc => absurd hc (by decide), fun hc => absurd hc (by decide), fun hc => absurd hc (by decide)⟩
theorem F3.ends (h : F3 w1 l L n m ops room keep kn 4 z s true S E A5 A7 A8 A6 c5 c7 c8 c6 g0 g7 gb l5 v29 v30 v32 v33 v34 (.agg #[.int .i64 ops, .int .i64 room, .slice A6 kn c6]) v9 W) :
    G3 w1 l L n m ops room keep kn S E A5 A8 A6 c5 c8 c6 gb l5 (((W.setCell ⟨gb, 0, none⟩ (.int .i64 ops)).setCell ⟨gb, 1, none⟩ (.int .i64 room)).setCell ⟨gb, 2, none⟩ (.slice A6 kn c6)) := by
  obtain ⟨-, b1, b2, b3⟩ := h.fb rfl
  have hne : ∀ k, k ≠ gb → ((((W.setCell ⟨gb, 0, none⟩ (.int .i64 ops)).setCell ⟨gb, 1, none⟩ (.int .i64 room)).setCell ⟨gb, 2, none⟩ (.slice A6 kn c6))).heap[k]? = W.heap[k]? := fun k hk =>
    (Below.heap_setCell _ ⟨gb, 2, none⟩ _ k hk).trans ((Below.heap_setCell _ ⟨gb, 1, none⟩ _ k hk).trans (Below.heap_setCell _ ⟨gb, 0, none⟩ _ k hk))
  refine ⟨h.bel.trans ((((Below.refl _ _).setCell (p := ⟨gb, 0, none⟩) b1 _).setCell (p := ⟨gb, 1, none⟩) b1 _).setCell (p := ⟨gb, 2, none⟩) b1 _), (h.f1 (by decide)).2.1, (h.f1 (by decide)).2.2.of (by simp) (fun k h1 h2 => hne k (by have := b3 (by decide); omega)), own_block (h.f3 (by decide)).2.1 (fun ad ha => hne _ ((h.f3 (by decide)).2.1.not_box b2 ad ha)), (h.f3 (by decide)).2.2, own_block (h.f4 (by decide)).2.1 (fun ad ha => hne _ (Irow.not_box (h.f4 (by decide)).2.1 b2 ad ha)), (h.f4 (by decide)).2.2, b2.fill, b1, b3 (by decide)⟩
end

end Go.Proofs.Ytjacjafpeajhaaa
