/-
  Walks: pairs packed, by the program.
-/
import Derived.Test.YtimonpoeieenpaaKBe
import Derived.StillTailTactics
namespace Go.Proofs.Ytimonpoeieenpaa
open Go.RowKit

/-- Where a slice from a place on begins. -/
def lowA (A : Option Addr) (a c : Nat) : Option Addr := if c = a then A else A.map (·.add a)
theorem In.low_at {w : World} {A : Option Addr} {L : List Int} {a k c : Nat} (h : In w A L (a + k) c) :
    (∀ W, (Instr.slice 24 (.slice A (a + k) c) (some (.int .i64 (a : Int))) none none).run Try.prog W = .ok (.slice (lowA A a c) k (c - a)) W) ∧ In w (lowA A a c) (L.drop a) k (c - a) := by
  have h1 := h.len
  have h2 := h.cap
  have h3 := h.top
  refine ⟨fun W => ?_, by rw [List.length_drop, h1]; omega, by omega, by omega, ?_, h.byt.drop a⟩
  · rw [run_slice_l (P := Try.prog) W _ A (a + k) c under8 .i64 (a : Int) (by omega) (by omega), size8]
    simp [Result.andThen, sliced, lowA]
  · have := h.bys.part a L.length c (by omega)
    rwa [List.take_of_length_le (by simp)] at this

set_option maxRecDepth 100000 in
set_option maxHeartbeats 4000000 in
theorem pack_any (kA vA E : Option Addr) (K V G : List Int) (N k kc m vc g gc : Nat) (w : World) (hk : In w kA K (N + k) kc) (_hv : In w vA V m vc) (hg : In w E G g gc) (hN : alike K G = N) :
    Calls Try.prog 19 #[.agg #[.slice kA (N + k) kc, .slice vA m vc], .slice E g gc] w fun e w' => e = .returned (.agg #[.int .i64 N, .slice (lowA kA N kc) k (kc - N), .slice vA m vc]) ∧ Below w.heap.size w w' := by
  obtain ⟨W, hW⟩ : ∃ W, (w.alloc (.cells #[.slice kA (N + k) kc, .slice vA m vc] 42)).alloc (.cells #[.int .i64 0, .slice none 0 0, .slice none 0 0] 47) = W := ⟨_, rfl⟩
  have HB : Hid (Below w.heap.size w W) := Lib.hid (hW ▸ below_al (below_al (Below.refl _ _) _) _)
  have HA := Lib.hid (alike_any kA E K G (N + k) g kc gc W (hk.kept HB.out) (hg.kept HB.out))
  rw [hN] at HA
  have hsl := hk.low_at.1
  obtain ⟨A', hA'⟩ : ∃ A', lowA kA N kc = A' := ⟨_, rfl⟩
  rw [hA'] at hsl ⊢
  have c0 : W.cell? ⟨w.heap.size, 0, none⟩ = some (.slice kA (N + k) kc) := by subst hW; simp
  have c1 : W.cell? ⟨w.heap.size, 1, none⟩ = some (.slice vA m vc) := by subst hW; simp
  have z0 : W.cell? ⟨w.heap.size + 1, 0, none⟩ = some (.int .i64 0) := by subst hW; simp
  have z1 : W.cell? ⟨w.heap.size + 1, 1, none⟩ = some (.slice none 0 0) := by subst hW; simp
  have z2 : W.cell? ⟨w.heap.size + 1, 2, none⟩ = some (.slice none 0 0) := by subst hW; simp
  have f0 : ∀ i, W.frozen? ⟨w.heap.size + 1, i, none⟩ = false := fun i => by subst hW; simp
  clear hk _hv hg hN hA'
  go_enter Try.func19, Try.ntmps19
  go_upto_region 1 with fail
  try rw [hW]
  clear hW
  go_upto_region 2 with (go_at_call 29; refine HA.out.mono ?_; rintro e w1 ⟨rfl, dq, hw⟩; have BQ : Hid (Below W.heap.size W w1) := Lib.hid (by rw [hw]; exact below_drewN (Below.refl _ _) dq); have b0 : w1.cell? ⟨w.heap.size, 0, none⟩ = some (.slice kA (N + k) kc) := (by rw [hw]; exact c0); have b1 : w1.cell? ⟨w.heap.size, 1, none⟩ = some (.slice vA m vc) := (by rw [hw]; exact c1); have y0 : w1.cell? ⟨w.heap.size + 1, 0, none⟩ = some (.int .i64 0) := (by rw [hw]; exact z0); have y1 : w1.cell? ⟨w.heap.size + 1, 1, none⟩ = some (.slice none 0 0) := (by rw [hw]; exact z1); have y2 : w1.cell? ⟨w.heap.size + 1, 2, none⟩ = some (.slice none 0 0) := (by rw [hw]; exact z2); have g0 : ∀ i, w1.frozen? ⟨w.heap.size + 1, i, none⟩ = false := fun i => (by rw [hw]; exact f0 i); clear hw c0 c1 z0 z1 z2 f0)
  have h0 := g0 0
  have h1 := g0 1
  have h2 := g0 2
  clear g0
  go_still_tail 8, (by kernel_rfl)
  change wpList _ _ _ _ _ w1.drew
  go_wp2_with fail
  try simp only [Exit.inBlock, Exit.then]
  refine bodyPost_ret (v := .agg #[.int .i64 N, .slice A' k (kc - N), .slice vA m vc]) ?_ rfl ?_
  · unfold results
    go_simp
  · have hb := ((((HB.out.trans (BQ.out.mono HB.out.size)).setCell (Nat.le_succ _) (p := ⟨w.heap.size + 1, 0, none⟩) (.int .i64 N)).setCell (Nat.le_succ _) (p := ⟨w.heap.size + 1, 1, none⟩) (.slice A' k (kc - N))).setCell (Nat.le_succ _) (p := ⟨w.heap.size + 1, 2, none⟩) (.slice vA m vc)).drew
    exact ⟨rfl, hb⟩

/-- What an append onto a row of bytes lets be: a block of another kind. -/
theorem block_beside {w w' : World} {B h : Nat} {A : Option Addr} {c : Nat} {L : List Int} {cs : Array Value} {ty : TypeId} (ht : ty ≠ 5) (hh : w.heap[h]? = some (.cells cs ty (0, 0))) (hs : Row w B A c L) (hg : w.grownBy w' (Value.slice A L.length c).ownBlock) : w'.heap[h]? = some (.cells cs ty (0, 0)) := by
  rw [hg.block h (Array.getElem?_eq_some_iff.1 hh).1, hh]
  intro e
  rcases hs.2 with ⟨hn, _⟩ | ⟨g', cap', cur', e', _, h2', _⟩
  · rw [hn] at e
    simp [Value.ownBlock] at e
  · rw [e'] at e
    obtain rfl : h = g' := by simpa [Value.ownBlock] using e
    rw [hh] at h2'
    injection h2' with h2'
    injection h2' with _ h2'
    exact ht h2'
/-- Blocks of other kinds than bytes lie as they lay. -/
def Beside (w w' : World) : Prop := ∀ (h : Nat) (cs : Array Value) (ty : TypeId), ty ≠ 5 → w.heap[h]? = some (.cells cs ty (0, 0)) → w'.heap[h]? = some (.cells cs ty (0, 0))
theorem Beside.trans {a b c : World} (h : Beside a b) (g : Beside b c) : Beside a c := fun k cs ty ht hk => g k cs ty ht (h k cs ty ht hk)
theorem Beside.of_below {w w' : World} (h : Below w.heap.size w w') : Beside w w' := fun k _cs _ty _ hk => (h.block k (Array.getElem?_eq_some_iff.1 hk).1).trans hk
theorem Beside.append {w w' : World} {B : Nat} {A : Option Addr} {c : Nat} {L : List Int} (hs : Row w B A c L) (hg : w.grownBy w' (Value.slice A L.length c).ownBlock) : Beside w w' := fun _ _ _ ht hk => block_beside ht hk hs hg
theorem wpList_append_rowg (w : World) {ops : Array Oper} {rest : List Oper} {o : Oper} {a : Act} {Q : Exit → Act → World → Prop} (hgd : o.guard = none) (s x : Operand)
    (ho : o.op = .call { callee := .builtin .append, args := #[s, x], argTypes := #[24, 24] })
    (B : Nat) (A : Option Addr) (c : Nat) (L M : List Int) (C : Option Addr) (n m cm : Nat) (hs : a.eval s = .slice A n c) (hx : a.eval x = .slice C m cm) (en : L.length = n) (em : M.length = m) (h : Row w B A c L) (hm : Bys w C M) (hB : B ≤ w.heap.size) (hr : L.length + M.length ≤ 140737488355328)
    (k : ∀ A' c' w', Row w' B A' c' (L ++ M) → Below B w w' → w.grownBy w' (Value.slice A L.length c).ownBlock → wpList Try.prog ops Q rest (a.put o.dst (.slice A' (n + m) c')) w') : wpList Try.prog ops Q (o :: rest) a w := by
  subst en
  subst em
  obtain ⟨i, hi, hz0, hz1, hz2⟩ := info_parts info5
  refine wpList_plain hgd fun K hK => ?_
  obtain ⟨A', c', w', r, h2, h3, h4⟩ := run_append_grown (P := Try.prog) w 24 o.type 5 i (.int .u8 0) 1 1 Try.underlying24 hi hz0 hz1 hz2 rfl (by decide) B A L.length c (vals L) h C M.length cm (vals M) (by simp [vals_len]) hm.lies vals_one (by unfold maxLen; omega) (by omega) hB
  rw [← vals_append] at h2
  have k' := k A' c' w' (by unfold Row; rw [List.length_append]; exact h2) h3 h4
  unfold Oper.wp execOp
  simp only [ho, resolve, invoke, builtin, Sem.run_bind, Sem.run_pure, Result.andThen_ok, List.map_toArray, List.map_cons, List.map_nil, hs, hx, r]
  exact hK _ _ k'

theorem heads (x y z : Int) (i : Nat) (v : Int) (h : [x, y, z][i]? = some v) : (([x, y, z].take (i + 1)).flatMap digs) = (([x, y, z].take i).flatMap digs) ++ digs v := by
  rw [List.take_add_one, h, List.flatMap_append]
  simp
theorem heads_len (x y z : Int) (i : Nat) : (([x, y, z].take i).flatMap digs).length ≤ 30 := by
  have hx := (digs_len x).2
  have hy := (digs_len y).2
  have hz := (digs_len z).2
  match i with
  | 0 => simp
  | 1 => simp; omega
  | 2 => simp; omega
  | n + 3 => simp; omega

set_option maxRecDepth 100000 in
set_option maxHeartbeats 4000000 in
theorem appendTo_any (x : Nat) (A C E : Option Addr) (L V F : List Int) (n c m d f e B : Nat) (w : World) (hx : x ≤ 4096) (hn4 : n ≤ 4096) (hm4 : m ≤ 4096) (hL : ∀ W, Below B w W → In W A L n c) (hV : ∀ W, Below B w W → In W C V m d) (hF : Row w B E e F) (hf : F.length = f) (hf2 : f ≤ 20000000) (hB : B ≤ w.heap.size) :
    Calls Try.prog 21 #[.agg #[.int .i64 x, .slice A n c, .slice C m d], .slice E f e] w fun en w' => ∃ A' c', en = .returned (.slice A' (F ++ (digs x ++ (digs n ++ (digs m ++ (L ++ V))))).length c') ∧ Row w' B A' c' (F ++ (digs x ++ (digs n ++ (digs m ++ (L ++ V))))) ∧ Below B w w' ∧ Beside w w' := by
  obtain ⟨W, hW⟩ : ∃ W, (w.alloc (.cells #[.int .i64 x, .slice A n c, .slice C m d] 47)).alloc (.cells #[.int .i64 x, .int .i64 n, .int .i64 m] 3) = W := ⟨_, rfl⟩
  have HW : Hid (Below w.heap.size w W) := Lib.hid (hW ▸ below_al (below_al (Below.refl _ _) _) _)
  have HK : Hid (W.heap[w.heap.size]? = some (.cells #[.int .i64 x, .slice A n c, .slice C m d] 47 (0, 0)) ∧ W.heap[w.heap.size + 1]? = some (.cells #[.int .i64 x, .int .i64 n, .int .i64 m] 3 (0, 0)) ∧ W.heap.size = w.heap.size + 2) := Lib.hid (by
    subst hW
    exact ⟨((below_new _ _).block _ (by simp)).trans (heap_alloc_new w _), by have := heap_alloc_new (w.alloc (.cells #[.int .i64 x, .slice A n c, .slice C m d] 47)) (.cells #[.int .i64 x, .int .i64 n, .int .i64 m] 3); rwa [World.size_alloc] at this, by simp⟩)
  have HL := Lib.hid hL
  have HV := Lib.hid hV
  have HF := Lib.hid (hF.kept HW.out (Nat.le_refl _))
  have HFL := Lib.hid hf
  have HB := Lib.hid hB
  have c0 : W.cell? ⟨w.heap.size, 0, none⟩ = some (.int .i64 x) := by simp [World.cell?, HK.out.1]
  clear hL hV hF hf hB
  go_enter Try.func21, Try.ntmps21
  go_wp2_with fail
  try rw [hW]
  clear hW
  go_loopw [5, 18] (fun t5 t18 wr => ∃ (i : Nat) (A2 : Option Addr) (c2 q : Nat), i ≤ 3 ∧ t18 = .int .i64 i ∧ t5 = .slice A2 q c2 ∧ Hid ((([(x : Int), n, m].take i).flatMap digs).length = q) ∧ Hid (Row wr W.heap.size A2 c2 (([(x : Int), n, m].take i).flatMap digs)) ∧ Hid (Below W.heap.size W wr)) (fun _ t18 _ => 3 - (intOf t18).toNat)
  case atStart => exact ⟨0, none, 0, 0, by omega, rfl, rfl, Lib.hid rfl, Lib.hid (Row.nil _ _), Lib.hid (Below.refl _ _)⟩
  case round =>
    obtain ⟨i, A2, c2, q, hi, rfl, rfl, hq, hr, hb⟩ := hrel
    by_cases hlt : i < 3
    · have hv := List.getElem?_eq_getElem (l := [(x : Int), n, m]) (i := i) (by simp; omega)
      generalize [(x : Int), n, m][i]'(by simp; omega) = v at hv
      have hv0 : 0 ≤ v ∧ v ≤ 4096 := by
        have := List.mem_of_getElem? hv
        simp only [List.mem_cons, List.not_mem_nil, or_false] at this
        omega
      have cv : wr.cell? ⟨w.heap.size + 1, i, none⟩ = some (.int .i64 v) := by
        have e : wr.heap[w.heap.size + 1]? = some (.cells #[.int .i64 x, .int .i64 n, .int .i64 m] 3 (0, 0)) := (hb.out.block _ (by have := HK.out.2.2; omega)).trans HK.out.2.1
        have : i = 0 ∨ i = 1 ∨ i = 2 := by omega
        rcases this with rfl | rfl | rfl <;> (simp at hv; subst hv; simp [World.cell?, e])
      have HH := Lib.hid (heads x n m i v hv)
      have HHL := Lib.hid (heads_len x n m i)
      generalize ([(x : Int), n, m].take i).flatMap digs = S at hq hr HH HHL
      have e1 : IntKind.u64.wrap v = v := by rw [IntKind.wrap_u64]; omega
      have HV0 := Lib.hid hv0
      have i0 : (i : Int) < 3 := by omega
      have HU := Lib.hid (appendUint_any A2 S q c2 v wr hq.out hr.out.lies hv0.1 (by omega) (by have := (digs_len v).2; have := HHL.out; omega))
      clear hv hv0
      go_wp2_with (go_at_call 31; refine HU.out.mono ?_; rintro e w1 ⟨g1, c1, rfl, m1, b1⟩; have R1 := Lib.hid m1.row; have B1 := Lib.hid b1; clear m1 b1)
      go_roundw
      case rel => exact ⟨i + 1, _, c1, _, by omega, by go_num, rfl, Lib.hid (by rw [HH.out, List.length_append]), Lib.hid (by rw [HH.out]; exact R1.out.mono hb.out.size), Lib.hid (hb.out.trans (B1.out.mono hb.out.size))⟩
      case measure => simp [intOf]; omega
    · obtain rfl : i = 3 := by omega
      have eh : ([(x : Int), n, m].take 3).flatMap digs = digs x ++ (digs n ++ digs m) := by simp
      rw [eh] at hq hr
      have HHL := Lib.hid (heads_len x n m 3)
      rw [eh] at HHL
      obtain ⟨S, hS⟩ : ∃ S, digs (x : Int) ++ (digs (n : Int) ++ digs (m : Int)) = S := ⟨_, rfl⟩
      rw [hS] at hq hr HHL
      have HS := Lib.hid hS
      have HX : Hid (wr.heap[w.heap.size]? = some (.cells #[.int .i64 x, .slice A n c, .slice C m d] 47 (0, 0))) := Lib.hid ((hb.out.block _ (by have := HK.out.2.2; omega)).trans HK.out.1)
      have HB3 : Hid (Below B w wr) := Lib.hid ((HW.out.mono HB.out).trans (hb.out.mono (by have := HB.out; have := HW.out.size; omega)))
      have HF3 := Lib.hid (HF.out.kept hb.out (Nat.le_refl _))
      have HS3 := Lib.hid hr.out.lies
      have T1 := Lib.hid trivial
      have T2 := Lib.hid trivial
      have T3 := Lib.hid trivial
      have hf20 : f ≤ 20000000 := hf2
      clear hS c0
      go_wp2_with (first
        | (have t1 := T1; at_builtin; refine wpList_append_rowg _ rfl (.tmp 27) (.tmp 28) rfl B E e F S A2 f q c2 rfl rfl HFL.out hq.out HF3.out HS3.out (by have := HB.out; have := HB3.out.size; omega) (by have := HFL.out; have := HHL.out; omega) ?_; intro A3 c3 w3 r3 b3 g3; have R3 := Lib.hid r3; have B3 : Hid (Below B w w3) := Lib.hid (HB3.out.trans b3); have X3 := Lib.hid (block_beside (by decide) HX.out HF3.out g3); have S3 : Hid (Beside w w3) := Lib.hid ((Beside.of_below HW.out).trans ((Beside.of_below hb.out).trans (Beside.append HF3.out g3))); have d1 : w3.cell? ⟨w.heap.size, 1, none⟩ = some (.slice A n c) := (by simp [World.cell?, X3.out]); clear r3 b3 g3 T1 t1)
        | (have t2 := T2; at_builtin; refine wpList_append_rowg _ rfl (.tmp 30) (.tmp 32) rfl B A3 c3 (F ++ S) L A (f + q) n c rfl rfl (by rw [List.length_append, HFL.out, hq.out]) (HL.out _ B3.out).len R3.out (HL.out _ B3.out).bys (by have := HB.out; have := B3.out.size; omega) (by rw [List.length_append, (HL.out _ B3.out).len]; have := HFL.out; have := HHL.out; omega) ?_; intro A4 c4 w4 r4 b4 g4; have R4 := Lib.hid r4; have B4 : Hid (Below B w w4) := Lib.hid (B3.out.trans b4); have X4 := Lib.hid (block_beside (by decide) X3.out R3.out g4); have S4 : Hid (Beside w w4) := Lib.hid (S3.out.trans (Beside.append R3.out g4)); have d2 : w4.cell? ⟨w.heap.size, 2, none⟩ = some (.slice C m d) := (by simp [World.cell?, X4.out]); clear r4 b4 g4 T2 t2)
        | (have t3 := T3; at_builtin; refine wpList_append_rowg _ rfl (.tmp 34) (.tmp 36) rfl B A4 c4 (F ++ S ++ L) V C (f + q + n) m d rfl rfl (by rw [List.length_append, List.length_append, HFL.out, hq.out, (HL.out _ B4.out).len]) (HV.out _ B4.out).len R4.out (HV.out _ B4.out).bys (by have := HB.out; have := B4.out.size; omega) (by rw [List.length_append, List.length_append, (HL.out _ B4.out).len, (HV.out _ B4.out).len]; have := HFL.out; have := HHL.out; omega) ?_; intro A5 c5 w5 r5 b5 g5; have R5 := Lib.hid r5; have B5 : Hid (Below B w w5) := Lib.hid (B4.out.trans b5); have S5 : Hid (Beside w w5) := Lib.hid (S4.out.trans (Beside.append R4.out g5)); clear r5 b5 g5 T3 t3))
      go_ret
      have hE : F ++ S ++ L ++ V = F ++ (digs x ++ (digs n ++ (digs m ++ (L ++ V)))) := by rw [← HS.out]; simp only [List.append_assoc]
      rw [← hE]
      exact ⟨A5, c5, ret_slice (by simp only [List.length_append, HFL.out, hq.out, (HL.out _ B5.out).len, (HV.out _ B5.out).len]), R5.out, B5.out, S5.out⟩

end Go.Proofs.Ytimonpoeieenpaa
