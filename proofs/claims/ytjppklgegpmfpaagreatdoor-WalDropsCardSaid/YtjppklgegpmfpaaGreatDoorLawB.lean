/-
  The law WalKeeps: what stands behind each call.
-/
import Derived.Test.YtjppklgegpmfpaaGreatDoorWgP
namespace Go.Proofs.YtjppklgegpmfpaaGreatDoor
open Go.RowKit
open Go.Maps

theorem wpList_append_row_if (w : World) {ops : Array Oper} {rest : List Oper} {o : Oper} {a : Act} {Q : Exit → Act → World → Prop} (hw : Region.wanted o (yielded ops a.tmps) = true) (s x : Operand)
    (ho : o.op = .call { callee := .builtin .append, args := #[s, x], argTypes := #[35, 35] })
    (B : Nat) (A : Option Addr) (c : Nat) (L M : List Int) (C : Option Addr) (n m cm : Nat) (hs : a.eval s = .slice A n c) (hx : a.eval x = .slice C m cm) (en : L.length = n) (em : M.length = m) (h : Row w B A c L) (hm : Bys w C M) (hB : B ≤ w.heap.size) (hr : L.length + M.length ≤ 140737488355328)
    (k : ∀ A' c' w', Row w' B A' c' (L ++ M) → Below B w w' → wpList Tryz.prog ops Q rest (a.put o.dst (.slice A' (n + m) c')) w') : wpList Tryz.prog ops Q (o :: rest) a w := by
  subst en
  subst em
  obtain ⟨i, hi, hz0, hz1, hz2⟩ := info_parts info5
  refine wpList_step fun K hK => ?_
  rw [if_pos hw]
  obtain ⟨A', c', w', r, h2, h3⟩ := run_append_lies w 35 o.type 5 i (.int .u8 0) 1 1 Tryz.underlying35 hi hz0 hz1 hz2 rfl (by decide) B A L.length c (vals L) h C M.length cm (vals M) (by simp [vals_len]) hm.lies vals_one (by unfold maxLen; omega) (by omega) hB
  rw [← vals_append] at h2
  have k' := k A' c' w' (by unfold Row; rw [List.length_append]; exact h2) h3
  unfold Oper.wp execOp
  simp only [ho, resolve, invoke, builtin, Sem.run_bind, Sem.run_pure, Result.andThen_ok, List.map_toArray, List.map_cons, List.map_nil, hs, hx, r]
  exact hK _ _ k'

/-- A log that is written to: so many records sent, so many of them sure. -/
structure Kq (w wr : World) (g lb size n : Nat) (p : ByteArray) (T : List Sl) (i se su : Nat) (r : Int) (d : Pk) (s : Ls) (G : List Gr) : Prop where
  ls : LSt wr w.heap.size g lb d s p size
  bel : Below w.heap.size w wr
  k : K p s.m G
  tot : total G = (byts T).take se
  sure : su ≤ sureG G
  sent : se ≤ n
  upto : i ≤ n
  top : ∀ x ∈ G, x.1 ≤ i + 2
  ways : (r = 0 ∧ se = i ∧ s.num ≤ i + 1 ∧ J p s G ∧ s.m.down = false) ∨ r = 20 ∨ r = 21
theorem Kq.go {w wr : World} {g lb size n : Nat} {p : ByteArray} {T : List Sl} {i se su : Nat} {d : Pk} {s : Ls} {G : List Gr} (h : Kq w wr g lb size n p T i se su 0 d s G) : se = i ∧ s.num ≤ i + 1 ∧ J p s G ∧ s.m.down = false := by
  rcases h.ways with h | h | h
  · exact h.2
  · cases h
  · cases h
theorem take_one {α : Type} {l : List α} {i : Nat} {x : α} (h : l[i]? = some x) : l.take (i + 1) = l.take i ++ [x] := by
  rw [List.take_add_one, h]
  rfl
theorem Kq.appended {w wr w7 : World} {g lb size n : Nat} {p : ByteArray} {T : List Sl} {i su : Nat} {d d7 : Pk} {s s7 : Ls} {G G7 : List Gr} {r : Int} {L : List Int} (h : Kq w wr g lb size n p T i i su 0 d s G) (hlt : i < n) (hs : (byts T)[i]? = some L) (hw : Went p s s7 r G G7 [L]) (hl : LSt w7 w.heap.size g lb d7 s7 p size) (hb : Below w.heap.size w w7) :
    (r = 0 ∧ Kq w w7 g lb size n p T (i + 1) (i + 1) su 0 d7 s7 G7) ∨ (r ≠ 0 ∧ Kq w w7 g lb size n p T (i + 1) i su r d7 s7 G7) := by
  obtain ⟨-, hn, hj, hd⟩ := h.go
  have htop : ∀ x ∈ G7, x.1 ≤ i + 1 + 2 := fun x hx => by
    have := hw.top (i + 2) (by omega) h.top x hx
    omega
  rcases hw.ways with ⟨hr, hj7, hd7, ht⟩ | ⟨hr, ht⟩
  · refine .inl ⟨hr, hl, hb, hw.k, by rw [ht, h.tot, take_one hs], Nat.le_trans h.sure hw.sure, hlt, hlt, htop, .inl ⟨rfl, rfl, ?_, hj7, hd7⟩⟩
    have := hw.num
    omega
  · refine .inr ⟨?_, hl, hb, hw.k, by rw [ht, h.tot], Nat.le_trans h.sure hw.sure, h.sent, hlt, htop, .inr hr⟩
    rcases hr with rfl | rfl <;> decide
theorem Kq.synced {w wr w8 : World} {g lb size n : Nat} {p : ByteArray} {T : List Sl} {i su : Nat} {d d8 : Pk} {s s8 : Ls} {G G8 : List Gr} {r : Int} (h : Kq w wr g lb size n p T i i su 0 d s G) (hn : n = T.length) (hw : Went p s s8 r G G8 []) (hp : s8.num = s.num ∧ s8.len = s.len ∧ (r = 0 → sureG G8 = (total G8).length)) (hl : LSt w8 w.heap.size g lb d8 s8 p size) (hb : Below w.heap.size w w8) :
    (r = 0 ∧ Kq w w8 g lb size n p T i i i 0 d8 s8 G8) ∨ (r ≠ 0 ∧ Kq w w8 g lb size n p T i i su r d8 s8 G8) := by
  obtain ⟨-, hnum, hj, hd⟩ := h.go
  have htop : ∀ x ∈ G8, x.1 ≤ i + 2 := hw.top (i + 2) (by omega) h.top
  have htk : ((byts T).take i).length = i := by rw [List.length_take, byts_len]; have := h.upto; omega
  rcases hw.ways with ⟨hr, hj8, hd8, ht⟩ | ⟨hr, ht⟩
  · rw [List.append_nil] at ht
    refine .inl ⟨hr, hl, hb, hw.k, by rw [ht, h.tot], ?_, h.sent, h.upto, htop, .inl ⟨rfl, rfl, by rw [hp.1]; exact hnum, hj8, hd8⟩⟩
    rw [hp.2.2 hr, ht, h.tot, htk]
    exact Nat.le_refl _
  · refine .inr ⟨?_, hl, hb, hw.k, by rw [ht, h.tot], Nat.le_trans h.sure hw.sure, h.sent, h.upto, htop, .inr hr⟩
    rcases hr with rfl | rfl <;> decide
/-- One round more, without a call. -/
theorem Kq.one {w wr : World} {g lb size n : Nat} {p : ByteArray} {T : List Sl} {i su : Nat} {d : Pk} {s : Ls} {G : List Gr} (h : Kq w wr g lb size n p T i i su 0 d s G) (hn : n = T.length) (hb : n ≤ 100000) : (total G).length = i ∧ (∀ x ∈ G, x.1 ≤ 200000) ∧ s.num + 1 ≤ 200000 := by
  obtain ⟨-, hnum, hj, hd⟩ := h.go
  have htk : ((byts T).take i).length = i := by rw [List.length_take, byts_len]; have := h.upto; omega
  have := h.upto
  exact ⟨by rw [h.tot, htk], fun x hx => by have := h.top x hx; omega, by omega⟩
theorem K.sane {p : ByteArray} {m : Vm} {G : List Gr} (h : K p m G) : Sane m.fs := fun x hx => by
  rw [h.fs] at hx
  obtain ⟨y, hy, rfl⟩ := List.mem_map.1 hx
  obtain ⟨z, hz, rfl⟩ := List.mem_map.1 hy
  refine ⟨Int.natCast_nonneg _, ?_⟩
  have h1 : flatL z.2.1 = flatL (z.2.1.take z.2.2) ++ flatL (z.2.1.drop z.2.2) := by rw [← flatL_append, List.take_append_drop]
  show ((flatL (z.2.1.take z.2.2)).length : Int) ≤ ((flatL z.2.1).length : Int)
  rw [h1, List.length_append]
  omega
/-- What opening finds behind a crash. -/
theorem Kq.found {w wr : World} {g lb size n : Nat} {p : ByteArray} {T : List Sl} {i se su : Nat} {r : Int} {d : Pk} {s : Ls} {G : List Gr} (hp : IsPre p) (h : Kq w wr g lb size n p T i se su r d s G) (hn : n = T.length) (hb : n ≤ 100000) (m' : Vm) (hm : s.m.revive (-1) (-1) [] = m') :
    Sane s.m.fs ∧ Fits s.m 0 ∧ Still m' ∧ ∃ L j, Found ⟨m', 0, 0⟩ p L L.length ∧ su ≤ j ∧ j ≤ se ∧ pays (L.map (fun x => x.2.1)) = (byts T).take j ∧ nextNo L ≤ 999999 ∧ j ≤ n := by
  obtain ⟨L, hcut, hrev⟩ := h.k.revive
  have htk : (total G).length = se := by rw [h.tot, List.length_take, byts_len]; have := h.sent; omega
  have hup := h.upto
  have hse := h.sent
  have ht : ∀ x ∈ G, x.1 ≤ 200000 := fun x hx => by have := h.top x hx; omega
  have hst : Still m' := by subst hm; exact ⟨rfl, by show (-1 : Int) < 0; decide, by show (-1 : Int) < 0; decide⟩
  have hft := h.k.fits hp ht (by decide) (by omega)
  have hlen := h.k.len ht
  obtain ⟨hF, j, j1, j2, hpay⟩ := hcut.found h.k (m' := m') (by subst hm; exact hrev) hst.down (fun _ => hst) (by omega) (by omega)
  have hsu := h.sure
  refine ⟨h.k.sane, ⟨hft.few, fun x hx => by have := hft.long x hx; omega, hft.names⟩, hst, L, j, hF, by omega, by omega, ?_, ?_, by omega⟩
  · rw [hpay, h.tot, List.take_take, Nat.min_eq_left (by omega)]
  · refine Nat.le_trans (next_le (N := 200000) (fun x hx => ?_) (by omega)) (by decide)
    have h1 : x.1 ∈ L.map Prod.fst := List.mem_map_of_mem hx
    rw [hcut.nums] at h1
    obtain ⟨y, hy, e⟩ := List.mem_map.1 h1
    obtain ⟨z, hz, rfl⟩ := List.mem_map.1 hy
    rw [← e]
    exact ht z hz
theorem size_slc (W : World) : (sizeOf (Tryz.prog.elem 22)).run Tryz.prog W = .ok 1 W := by
  have h : Tryz.prog.elem 22 = 35 := by kernel_rfl
  obtain ⟨i, hi, hz0, hz1, hz2⟩ := info_parts info35
  rw [h]
  simp [sizeOf, typeInfo, hi, hz1]
theorem under_slc : Tryz.prog.underlying 22 = some (.slice (Tryz.prog.elem 22)) := by kernel_rfl
theorem slcs_high (A : Option Addr) (n k c : Nat) (hc : k ≤ c) : ∀ W : World, (Instr.slice 22 (.slice A n c) none (some (.int .i64 (k : Int))) none).run Tryz.prog W = .ok (.slice A k c) W := fun W => by
  rw [run_slice_h (P := Tryz.prog) W _ A n c under_slc .i64 (k : Int) (by omega) (by omega), size_slc]
  cases A <;> simp [Result.andThen, sliced, Addr.add]
theorem plan_log {w : World} {ops room : Int} {A : Option Addr} {keep : List Int} {n c : Nat} (hn : keep.length = n) (hk : Ints w A keep) (hf : n * 8 ≤ 140737488355328) (W : World) (hb : Below w.heap.size w W) : Calls Tryz.prog 9 #[.agg #[.int .i64 ops, .int .i64 room, .slice A n c]] W fun e w' => ∃ A' c', e = .returned (.agg #[.int .i64 ops, .int .i64 room, .slice A' n c']) ∧ Irow w' W.heap.size A' c' keep ∧ Below W.heap.size W w' :=
  plan_any ops room A keep n c W hn (Lies.kept hk hb) hf
theorem way_size (every : Int) (k : Nat) (hk : 1 ≤ k ∧ k ≤ 1000) : ∃ size : Nat, wrap64 (1 + wrap64 ((IntKind.u64.wrap every).tmod k)) = (size : Int) ∧ 1 ≤ size ∧ size ≤ k := by
  have h0 : 0 ≤ IntKind.u64.wrap every := by simp [IntKind.wrap, IntKind.bits, IntKind.signed]; omega
  have h1 : 0 ≤ (IntKind.u64.wrap every).tmod k := Int.tmod_nonneg _ h0
  have h2 : (IntKind.u64.wrap every).tmod k < k := Int.tmod_lt_of_pos _ (by omega)
  generalize (IntKind.u64.wrap every).tmod k = x at h1 h2
  refine ⟨(1 + x).toNat, ?_, by omega, by omega⟩
  unfold wrap64
  omega
theorem take_lies {w : World} {A : Option Addr} {T : List Sl} (h : Lies w A (svals T)) (k : Nat) : Lies w A (svals (T.take k)) := by
  have e : svals (T.take k) = (svals T).take k := by simp [svals, List.map_take]
  rw [e]
  rcases h with h | ⟨ad, h1, h2⟩
  · exact .inl (by rw [h]; simp)
  · refine .inr ⟨ad, h1, fun j u hj => h2 j u ?_⟩
    rw [List.getElem?_take] at hj
    split at hj
    · exact hj
    · cases hj

end Go.Proofs.YtjppklgegpmfpaaGreatDoor
