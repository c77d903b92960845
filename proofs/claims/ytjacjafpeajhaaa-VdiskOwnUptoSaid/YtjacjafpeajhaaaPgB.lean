/-
  Memory: the program's disk as it lies.
-/
import Derived.Test.YtjacjafpeajhaaaPgA
namespace Go.Proofs.Ytjacjafpeajhaaa
open Go.RowKit
open Go.Maps

theorem strT : Keyed Try.prog 9 := string_keyed Try.underlying9
theorem zeroPtr (w : World) : (zeroValue 73).run Try.prog w = .ok (.pointer none) w := by kernel_rfl
theorem kOf_key (s : ByteArray) (hs : s.size ≤ maxLen) : keyOf Try.prog 9 (.string s) = some (kOf s) := WideMaps.keyOf_string_mk Try.underlying9 hs
set_option maxRecDepth 100000 in
theorem look_run {w : World} {b n : Nat} {l : List Pf} (h : w.ownsMap Try.prog 9 ptrElem b n (Dm l)) (s : ByteArray) (hs : s.size ≤ maxLen) :
    (Instr.lookup 74 (.map (some b)) (.string s) false).run Try.prog w = .ok (ptrOf (findP s l)) w := by
  obtain ⟨v, ps, hrun, hv⟩ := h.lookup strT Try.underlying74 (zeroPtr w) (zd := .nil) (zp := []) rfl (kOf_key s hs)
  rw [hrun]
  rw [atKey_Dm] at hv
  cases hf : findP s l with
  | none =>
    rw [hf] at hv
    rcases ptrElem_inv hv with ⟨rfl, _⟩ | ⟨a, _, e⟩
    · rfl
    · replace e : (DataW.nil : DataW Addr) = .held a := e
      simp at e
  | some q =>
    rw [hf] at hv
    rcases ptrElem_inv hv with ⟨_, e⟩ | ⟨a, hva, e⟩
    · replace e : (DataW.held q.at_ : DataW Addr) = .nil := e
      simp at e
    · replace e : (DataW.held q.at_ : DataW Addr) = .held a := e
      have e2 : q.at_ = a := DataW.held.inj e
      have e3 : v = ptrOf (some q) := by
        rw [hva, ← e2]
        rfl
      exact congrArg (fun u => Result.ok u w) e3
theorem owns_fit {w : World} {b n m : Nat} {l : List Pf} (h : w.ownsMap Try.prog 9 ptrElem b n (Dm l)) (hm : l.length ≤ m) : w.ownsMap Try.prog 9 ptrElem b m (Dm l) := by
  obtain ⟨es, clock, hb, F, hs, hD⟩ := h
  refine ⟨es, clock, hb, F, ?_, hD⟩
  unfold Dm at hD
  injection hD with hD
  have := congrArg List.length hD
  rw [length_sorted] at this
  simp [ents] at this
  omega
theorem owns_at {w w' : World} {b n : Nat} {l : List Pf} (h : w.ownsMap Try.prog 9 ptrElem b n (Dm l)) (e : w'.heap[b]? = w.heap[b]?) : w'.ownsMap Try.prog 9 ptrElem b n (Dm l) := by
  obtain ⟨es, clock, hb, r⟩ := h
  exact ⟨es, clock, e.trans hb, r⟩

/-- A row of numbers of the call's own, or nil. -/
def ivals (L : List Int) : List Value := L.map (Value.int .i64)
def Irow (w : World) (B : Nat) (A : Option Addr) (c : Nat) (L : List Int) : Prop := w.ownsRow B 3 1 (.slice A L.length c) L.length (ivals L)
theorem Irow.lies {w : World} {B : Nat} {A : Option Addr} {c : Nat} {L : List Int} (h : Irow w B A c L) : Ints w A L := by
  rcases h.2 with ⟨_, h⟩ | ⟨g, cap, cur, e, _⟩
  · exact .inl (by rw [List.eq_nil_of_length_eq_zero h]; rfl)
  · injection e with e1 e2 e3
    subst e1
    exact .inr ⟨_, rfl, fun j u hu => World.ownsRow.cells h (g := g) rfl j u hu⟩

/-- The program's disk. -/
structure Pk where
  b : Nat
  l : List Pf
  size : Int
  room : Int
  left : Int
  K : Option Addr
  keep : List Int
  kc : Nat
  down : Bool
def Pk.cells (p : Pk) : List Value := [.map (some p.b), .int .i64 p.size, .int .i64 p.room, .int .i64 p.left, .slice p.K p.keep.length p.kc, .bool p.down]
/-- It lies at a block. -/
def PkAt (w : World) (g : Nat) (p : Pk) : Prop := w.heap[g]? = some (.cells p.cells.toArray 76 (0, 0))
theorem PkAt.cell {w : World} {g : Nat} {p : Pk} (h : PkAt w g p) : w.cell? ⟨g, 0, none⟩ = some (.map (some p.b)) ∧ w.cell? ⟨g, 1, none⟩ = some (.int .i64 p.size) ∧ w.cell? ⟨g, 2, none⟩ = some (.int .i64 p.room) ∧ w.cell? ⟨g, 3, none⟩ = some (.int .i64 p.left) ∧ w.cell? ⟨g, 4, none⟩ = some (.slice p.K p.keep.length p.kc) ∧ w.cell? ⟨g, 5, none⟩ = some (.bool p.down) := by
  unfold PkAt at h
  refine ⟨?_, ?_, ?_, ?_, ?_, ?_⟩ <;> simp [World.cell?, h, Pk.cells]
theorem PkAt.frozen {w : World} {g : Nat} {p : Pk} (h : PkAt w g p) (i : Nat) : w.frozen? ⟨g, i, none⟩ = false := by
  unfold PkAt at h
  simp [World.frozen?, h]
theorem PkAt.lt {w : World} {g : Nat} {p : Pk} (h : PkAt w g p) : g < w.heap.size := (Array.getElem?_eq_some_iff.1 h).1
theorem PkAt.set {w : World} {g : Nat} {p p' : Pk} (h : PkAt w g p) (i : Nat) (v : Value) (hd : p'.cells = p.cells.set i v) : PkAt (w.setCell ⟨g, i, none⟩ v) g p' := by
  unfold PkAt at h ⊢
  rw [hd]
  simp [World.setCell, Array.getElem?_modify, h]

/-- A file of the program's as it lies. -/
def FileAt (w : World) (h : Nat) (d : Sl) (y : Int) : Prop := w.heap[h]? = some (.cells #[d.val, .int .i64 y] 80 (0, 0))
theorem FileAt.cell {w : World} {h : Nat} {d : Sl} {y : Int} (k : FileAt w h d y) : w.cell? ⟨h, 0, none⟩ = some d.val ∧ w.cell? ⟨h, 1, none⟩ = some (.int .i64 y) := by
  unfold FileAt at k
  refine ⟨?_, ?_⟩ <;> simp [World.cell?, k]
theorem FileAt.frozen {w : World} {h : Nat} {d : Sl} {y : Int} (k : FileAt w h d y) (i : Nat) : w.frozen? ⟨h, i, none⟩ = false := by
  unfold FileAt at k
  simp [World.frozen?, k]
theorem FileAt.lt {w : World} {h : Nat} {d : Sl} {y : Int} (k : FileAt w h d y) : h < w.heap.size := (Array.getElem?_eq_some_iff.1 k).1
theorem FileAt.set0 {w : World} {h : Nat} {d d' : Sl} {y : Int} (k : FileAt w h d y) : FileAt (w.setCell ⟨h, 0, none⟩ d'.val) h d' y := by
  unfold FileAt at k ⊢
  simp [World.setCell, Array.getElem?_modify, k]
theorem FileAt.set1 {w : World} {h : Nat} {d : Sl} {y y' : Int} (k : FileAt w h d y) : FileAt (w.setCell ⟨h, 1, none⟩ (.int .i64 y')) h d y' := by
  unfold FileAt at k ⊢
  simp [World.setCell, Array.getElem?_modify, k]

/-- The blocks of a file. -/
def Pf.own (q : Pf) (k : Nat) : Prop := k = q.h ∨ ∃ ad, q.d.a = some ad ∧ k = ad.block
/-- The blocks of the disk, but for its own. -/
def Pk.inner (p : Pk) (k : Nat) : Prop := k = p.b ∨ (∃ ad, p.K = some ad ∧ k = ad.block) ∨ ∃ q ∈ p.l, q.own k
def Pk.own (p : Pk) (g k : Nat) : Prop := k = g ∨ p.inner k
/-- A file of the call's own. -/
structure FileOk (w : World) (B : Nat) (q : Pf) : Prop where
  at_ : FileAt w q.h q.d q.y
  low : B ≤ q.h
  row : Row w B q.d.a q.d.c q.d.l
  byt : Byt q.d.l
/-- Two files share no memory. -/
def Apart (q q' : Pf) : Prop := q.h ≠ q'.h ∧ ∀ ad ad', q.d.a = some ad → q'.d.a = some ad' → ad.block ≠ ad'.block
theorem Apart.symm {q q' : Pf} (h : Apart q q') : Apart q' q := ⟨fun e => h.1 e.symm, fun ad ad' h1 h2 e => h.2 ad' ad h2 h1 e.symm⟩
/-- What the disk leads to. -/
structure In7 (w : World) (B : Nat) (p : Pk) : Prop where
  map : w.ownsMap Try.prog 9 ptrElem p.b p.l.length (Dm p.l)
  mlow : B ≤ p.b
  file : ∀ q ∈ p.l, FileOk w B q
  apart : ∀ q ∈ p.l, ∀ q' ∈ p.l, q.s ≠ q'.s → Apart q q'
  srt : Srt p.l
  keep : Irow w B p.K p.kc p.keep
  ki : ∀ x ∈ p.keep, -9223372036854775808 ≤ x ∧ x ≤ 9223372036854775807
/-- The bytes of all files. -/
def sumP (l : List Pf) : Int := (sumM (l.map Pf.rd) : Nat)
/-- The program's disk, whole. -/
structure PSt (w : World) (B g : Nat) (p : Pk) : Prop where
  at_ : PkAt w g p
  low : B ≤ g
  inn : In7 w B p
  size : p.size = wrap64 (sumP p.l)
  left : -9223372036854775808 ≤ p.left ∧ p.left ≤ 9223372036854775807
  room : -9223372036854775808 ≤ p.room ∧ p.room ≤ 9223372036854775807

theorem own_block {w w' : World} {B : Nat} {e : TypeId} {size : Nat} {A : Option Addr} {n c : Nat} {xs : List Value} (h : w.ownsRow B e size (.slice A n c) n xs) (hk : ∀ ad, A = some ad → w'.heap[ad.block]? = w.heap[ad.block]?) : w'.ownsRow B e size (.slice A n c) n xs := by
  refine ⟨h.1, ?_⟩
  rcases h.2 with hn | ⟨g, cap, cur, e1, h1, h2, h3⟩
  · exact .inl hn
  · refine .inr ⟨g, cap, cur, e1, h1, ?_, h3⟩
    injection e1 with e1
    rw [hk _ e1, h2]
theorem own_type {w : World} {B : Nat} {e : TypeId} {size : Nat} {A : Option Addr} {n c : Nat} {xs : List Value} (h : w.ownsRow B e size (.slice A n c) n xs) {ad : Addr} (ha : A = some ad) : ∃ cur, w.heap[ad.block]? = some (.cells cur e (0, 0)) := by
  rcases h.2 with ⟨hn, _⟩ | ⟨g, cap, cur, e1, h1, h2, h3⟩
  · injection hn with hn
    rw [hn] at ha
    cases ha
  · injection e1 with e1
    rw [e1] at ha
    injection ha with ha
    subst ha
    exact ⟨cur, h2⟩
theorem FileOk.of {w w' : World} {B : Nat} {q : Pf} (h : FileOk w B q) (hk : ∀ k, q.own k → w'.heap[k]? = w.heap[k]?) : FileOk w' B q :=
  ⟨by have := h.at_; unfold FileAt at this ⊢; rw [hk _ (.inl rfl), this], h.low, own_block h.row (fun ad ha => hk _ (.inr ⟨ad, ha, rfl⟩)), h.byt⟩
theorem FileOk.owned {w : World} {B : Nat} {q : Pf} (h : FileOk w B q) : ∀ k, q.own k → B ≤ k ∧ k < w.heap.size := fun k hk => by
  rcases hk with rfl | ⟨ad, ha, rfl⟩
  · exact ⟨h.low, h.at_.lt⟩
  · exact own_in h.row ad ha
theorem In7.of {w w' : World} {B : Nat} {p : Pk} (h : In7 w B p) (hk : ∀ k, p.inner k → w'.heap[k]? = w.heap[k]?) : In7 w' B p :=
  ⟨owns_at h.map (hk _ (.inl rfl)), h.mlow, fun q hq => (h.file q hq).of (fun k k1 => hk k (.inr (.inr ⟨q, hq, k1⟩))), h.apart, h.srt, own_block h.keep (fun ad ha => hk _ (.inr (.inl ⟨ad, ha, rfl⟩))), h.ki⟩
theorem In7.owned {w : World} {B : Nat} {p : Pk} (h : In7 w B p) : ∀ k, p.inner k → B ≤ k ∧ k < w.heap.size := fun k hk => by
  rcases hk with rfl | ⟨ad, ha, rfl⟩ | ⟨q, hq, k1⟩
  · exact ⟨h.mlow, h.map.lt⟩
  · exact own_in h.keep ad ha
  · exact (h.file q hq).owned k k1
theorem PSt.owned {w : World} {B g : Nat} {p : Pk} (h : PSt w B g p) : ∀ k, p.own g k → B ≤ k ∧ k < w.heap.size := fun k hk => by
  rcases hk with rfl | hk
  · exact ⟨h.low, h.at_.lt⟩
  · exact h.inn.owned k hk
theorem PSt.of {w w' : World} {B g : Nat} {p : Pk} (h : PSt w B g p) (hk : ∀ k, p.own g k → w'.heap[k]? = w.heap[k]?) : PSt w' B g p :=
  ⟨by have := h.at_; unfold PkAt at this ⊢; rw [hk _ (.inl rfl), this], h.low, h.inn.of (fun k k1 => hk k (.inr k1)), h.size, h.left, h.room⟩
theorem PSt.kept {w w' : World} {B g : Nat} {p : Pk} (h : PSt w B g p) (hb : Below w.heap.size w w') : PSt w' B g p := h.of (fun k hk => hb.block k (h.owned k hk).2)
theorem PSt.does {S S' : Nat → Prop} {w w' : World} {B g : Nat} {p : Pk} (h : PSt w B g p) (hb : Does S S' w w') (hS : ∀ k, S k → ¬ p.own g k) : PSt w' B g p := h.of (fun k hk => hb.block k (h.owned k hk).2 (fun hs => hS k hs hk))
theorem PSt.mono {w : World} {B C g : Nat} {p : Pk} (h : PSt w B g p) (hC : C ≤ B) : PSt w C g p :=
  ⟨h.at_, Nat.le_trans hC h.low, ⟨h.inn.map, Nat.le_trans hC h.inn.mlow, fun q hq => ⟨(h.inn.file q hq).at_, Nat.le_trans hC (h.inn.file q hq).low, (h.inn.file q hq).row.mono hC, (h.inn.file q hq).byt⟩, h.inn.apart, h.inn.srt, own_mono h.inn.keep hC, h.inn.ki⟩, h.size, h.left, h.room⟩
/-- The disk's own block lies apart from what it leads to. -/
theorem PSt.not_inner {w : World} {B g : Nat} {p : Pk} (h : PSt w B g p) : ¬ p.inner g := fun hk => by
  have hd := h.at_
  unfold PkAt at hd
  rcases hk with e | ⟨ad, ha, e⟩ | ⟨q, hq, e | ⟨ad, ha, e⟩⟩
  · obtain ⟨es, clock, hb, -⟩ := h.inn.map
    rw [← e, hd] at hb
    cases hb
  · obtain ⟨cur, hc⟩ := own_type h.inn.keep ha
    rw [← e, hd] at hc
    injection hc with hc
    injection hc with _ hc
    exact absurd hc (by decide)
  · have hf := (h.inn.file q hq).at_
    unfold FileAt at hf
    rw [← e, hd] at hf
    injection hf with hf
    injection hf with _ hf
    exact absurd hf (by decide)
  · obtain ⟨cur, hc⟩ := own_type (h.inn.file q hq).row ha
    rw [← e, hd] at hc
    injection hc with hc
    injection hc with _ hc
    exact absurd hc (by decide)
/-- The disk's own block turns: what it leads to stands. -/
theorem PSt.turned {w w' : World} {B g : Nat} {p p' : Pk} (h : PSt w B g p) (hd : PkAt w' g p') (hb : BelowX w.heap.size g w w') (e1 : p'.b = p.b) (e2 : p'.l = p.l) (e3 : p'.K = p.K) (e4 : p'.keep = p.keep) (e5 : p'.kc = p.kc) (e6 : p'.size = p.size)
    (hl : -9223372036854775808 ≤ p'.left ∧ p'.left ≤ 9223372036854775807) (hr : -9223372036854775808 ≤ p'.room ∧ p'.room ≤ 9223372036854775807) : PSt w' B g p' ∧ Does (p.own g) (p'.own g) w w' := by
  have hi : In7 w' B p := h.inn.of (fun k hk => hb.block k (h.inn.owned k hk).2 (fun e => h.not_inner (e ▸ hk)))
  have ho : p'.own g = p.own g := by
    funext k
    unfold Pk.own Pk.inner
    rw [e1, e2, e3]
  refine ⟨⟨hd, h.low, ?_, by rw [e6, e2]; exact h.size, hl, hr⟩, ?_⟩
  · exact ⟨by rw [e1, e2]; exact hi.map, by rw [e1]; exact hi.mlow, by rw [e2]; exact hi.file, by rw [e2]; exact hi.apart, by rw [e2]; exact hi.srt, by rw [e3, e4, e5]; exact hi.keep, by rw [e4]; exact hi.ki⟩
  · rw [ho]
    exact ⟨hb.os, hb.tape, hb.output, hb.size, fun k hk hn => hb.block k hk (fun e => hn (.inl e)), fun k hk => .inl hk⟩

/-- What is read of the program's disk. -/
structure Vm where
  fs : List (ByteArray × List Int × Int)
  room : Int
  left : Int
  keep : List Int
  down : Bool
def Pk.vm (p : Pk) : Vm := ⟨p.l.map Pf.rd, p.room, p.left, p.keep, p.down⟩
/-- What a call leaves of the program's disk. -/
def Rest (w : World) (B g : Nat) (p : Pk) (m : Vm) (w' : World) : Prop := ∃ p', PSt w' B g p' ∧ p'.vm = m ∧ Does (p.own g) (p'.own g) w w'

end Go.Proofs.Ytjacjafpeajhaaa
