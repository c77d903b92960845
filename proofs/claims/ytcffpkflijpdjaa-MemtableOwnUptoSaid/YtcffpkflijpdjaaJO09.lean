/-
  Walks: entries copied, by the document: each apart from the others. The law: what is handed in stays; what is answered is new memory. What stands while the law puts what it has copied, and writes over it.
-/
import Derived.Test.YtcffpkflijpdjaaJO05
import Derived.Test.YtcffpkflijpdjaaJO08
set_option linter.unusedSimpArgs false
set_option linter.unusedVariables false
namespace Go.Proofs.Ytcffpkflijpdjaa
open Go.RowKit
/-- No two entries have a block in common. -/
def EApt (l : List En) : Prop := l.Pairwise (fun p q => ∀ g, EnB [p] g → ¬ EnB [q] g)
theorem en_row {w : World} {B : Nat} {q : En} (hk : Row w B q.k.a q.k.c q.k.l) (hv : Row w B q.v.a q.v.c q.v.l) {g : Nat} (h : EnB [q] g) : B ≤ g ∧ g < w.heap.size := by
  obtain ⟨p, hp, h⟩ := h
  obtain rfl := List.mem_singleton.1 hp
  rcases h with ⟨v, e, rfl⟩ | ⟨v, e, rfl⟩
  · exact own_in hk v e
  · exact own_in hv v e
theorem EApt.snoc {w w' : World} {B : Nat} {l : List En} {x : En} (h : EApt l) (hm : EMades w B l) (hk : Row w' w.heap.size x.k.a x.k.c x.k.l) (hv : Row w' w.heap.size x.v.a x.v.c x.v.l) : EApt (l ++ [x]) := by
  refine List.pairwise_append.2 ⟨h, List.pairwise_singleton _ _, fun p hp q hq g h1 h2 => ?_⟩
  obtain rfl := List.mem_singleton.1 hq
  have k1 := en_row (hm p hp).1 (hm p hp).2 h1
  have k2 := en_row hk hv h2
  omega
def ECopA (w : World) (l : List En) (e : Ending) (w' : World) : Prop := ∃ l' A c, ers l' = ers l ∧ e = .returned (.slice A l'.length c) ∧ EMades w' w.heap.size l' ∧ Erow w' w.heap.size A c l' ∧ Below w.heap.size w w' ∧ EApt l'
set_option maxRecDepth 100000 in
set_option maxHeartbeats 4000000 in
theorem refCopy_apart (A : Option Addr) (l : List En) (n c : Nat) (w : World) (hn : l.length = n) (h : Lies w A (evals l)) (hi : EIns w l) (hl : n * 64 ≤ 140737488351232) (hs : ∀ q ∈ l, q.k.l.length ≤ 140737488351232 ∧ q.v.l.length ≤ 140737488351232) :
    Calls Try.prog 23 #[.slice A n c] w (ECopA w l) := by
  have HP := Lib.hid (fun (w' : World) (hb : Below w.heap.size w w') => h.kept hb)
  have HI := Lib.hid (fun (w' : World) (hb : Below w.heap.size w w') => hi.kept hb)
  have HS := Lib.hid hs
  have HN := Lib.hid hn
  clear h hn hi hs
  go_enter Try.func23, Try.ntmps23
  go_wp2_with fail
  go_loopw [3, 7] (fun t3 t7 wr => ∃ (k : Nat) (A2 : Option Addr) (c2 : Nat) (l' : List En), k ≤ n ∧ t7 = .int .i64 k ∧ t3 = .slice A2 k c2 ∧ Hid (l'.length = k) ∧ Hid (ers l' = (ers l).take k) ∧ Hid (EMades wr w.heap.size l') ∧ Hid (Erow wr w.heap.size A2 c2 l') ∧ Hid (Below w.heap.size w wr) ∧ Hid (EApt l')) (fun _ t7 _ => n - (intOf t7).toNat)
  case atStart => exact ⟨0, none, 0, [], by omega, rfl, rfl, Lib.hid rfl, Lib.hid rfl, Lib.hid (EMades.nil _ _), Lib.hid (Erow.nil _ _), Lib.hid (Below.refl _ _), Lib.hid List.Pairwise.nil⟩
  case round =>
    obtain ⟨k, A2, c2, l', hk, rfl, rfl, hl2, hr, hm, r2, b2, ap⟩ := hrel
    by_cases hlt : k < n
    · have hq := List.getElem?_eq_getElem (l := l) (i := k) (by have := HN.out; omega)
      generalize l[k]'(by have := HN.out; omega) = x at hq
      obtain ⟨ad, rfl, a0, a1, a2, a3⟩ := lies_entry (HP.out _ b2.out) hq
      have hmem := List.mem_of_getElem? hq
      have HO := Lib.hid (refOne_any x wr (HI.out _ b2.out x hmem) (HS.out x hmem).1 (HS.out x hmem).2)
      have HQ := Lib.hid (ers_get hq)
      rw [En.val_eq] at HO
      obtain ⟨m, hm2⟩ : ∃ m, x.k.l.length = m := ⟨_, rfl⟩
      obtain ⟨z, hz2⟩ : ∃ z, x.v.l.length = z := ⟨_, rfl⟩
      rw [hm2] at a0 HO
      rw [hz2] at a3 HO
      have k0 : (k : Int) < n := by omega
      clear hq hm2 hz2 hmem
      go_wp2_with (first
        | (go_at_call 17; refine HO.out.mono ?_; rintro e w6 ⟨x', hx', rfl, q1, q2, b6⟩; have HX := Lib.hid hx'; have Q1 := Lib.hid q1; have Q2 := Lib.hid q2; have B6 := Lib.hid b6; rw [En.val_eq]; clear hx' q1 q2 b6 HO)
        | (refine wpList_append_erow _ (by rfl) (.tmp 10) (.tmp 16) (by rfl) w.heap.size A2 c2 l' [x'] _ k 1 1 (by simp [Act.eval]) (by simp [Act.eval]) hl2.out rfl ((r2.out.kept B6.out (Nat.le_refl _)).alloc _) (lit_entry w6 x'.k.a x'.v.a x'.k.c x'.v.c x'.k.l x'.v.l x'.s x'.d _ _ rfl rfl) (by have := b2.out.size; have := B6.out.size; simp; omega) (by have := hl2.out; simp only [List.length_singleton]; omega) ?_; intro A8 c8 w8 r8 b8 g8))
      have W6 : w.heap.size ≤ wr.heap.size := b2.out.size
      have R8 := Lib.hid r8
      have G8 : (w6.alloc (.cells #[.slice x'.k.a x'.k.l.length x'.k.c, .int .i64 x'.s, .bool x'.d, .slice x'.v.a x'.v.l.length x'.v.c] 26)).grownBy w8 (Value.slice A2 l'.length c2).ownBlock := by rw [hl2.out]; exact g8
      have hE := (r2.out.kept B6.out (Nat.le_refl _)).alloc (.cells #[.slice x'.k.a x'.k.l.length x'.k.c, .int .i64 x'.s, .bool x'.d, .slice x'.v.a x'.v.l.length x'.v.c] 26)
      have CM := Lib.hid ((((hm.out.kept B6.out (Nat.le_refl _)).kept (below_new w6 _) (Nat.le_refl _)).besideE hE G8))
      have Q3 := Lib.hid (Row.mono ((Q1.out.kept (below_new w6 _) (Nat.le_refl _)).besideE hE G8) W6)
      have Q4 := Lib.hid (Row.mono ((Q2.out.kept (below_new w6 _) (Nat.le_refl _)).besideE hE G8) W6)
      have CB : Hid (Below w.heap.size w w8) := Lib.hid (((b2.out.trans (B6.out.mono W6)).alloc (by have := B6.out.size; omega) _).trans b8)
      have AP := Lib.hid (ap.out.snoc hm.out Q1.out Q2.out)
      clear hE G8 g8 b8 r8 W6
      go_wp2_with fail
      go_roundw
      case rel => exact ⟨k + 1, A8, c8, l' ++ [x'], by omega, by go_num, rfl, Lib.hid (by rw [List.length_append, hl2.out]; rfl), Lib.hid (by rw [ers_append, hr.out, List.take_add_one, HQ.out, ← HX.out]; rfl), Lib.hid (CM.out.snoc Q3.out Q4.out), Lib.hid R8.out, CB, AP⟩
      case measure => simp [intOf]; omega
    · obtain rfl : k = n := by omega
      have hr' := hr.out
      rw [List.take_of_length_le (by rw [ers_len]; have := HN.out; omega)] at hr'
      have HR := Lib.hid hr'
      clear hr'
      go_wp2_with fail
      go_ret
      exact ⟨l', _, _, HR.out, ret_sliceN hl2.out.symm, hm.out, r2.out, b2.out, ap.out⟩
end Go.Proofs.Ytcffpkflijpdjaa
namespace Go.Proofs.Ytcffpkflijpdjaa
open Go.RowKit
theorem Mz.drew {Z : Nat → Prop} {w0 w : World} (h : Mz Z w0 w) : Mz Z w0 w.drew := ⟨fun A z q => h.spots A z q, ⟨h.kp.os, h.kp.tape, h.kp.output, h.kp.size, h.kp.block⟩⟩
theorem own_type {w : World} {B : Nat} {e : TypeId} {size : Nat} {A : Option Addr} {n c m : Nat} {xs : List Value} (h : w.ownsRow B e size (.slice A n c) m xs) : ∀ ad, A = some ad → ∃ cs, w.heap[ad.block]? = some (.cells cs e (0, 0)) := fun ad ha => by
  rcases h.2 with ⟨hn, _⟩ | ⟨g, cap, cur, e', _, h2, _⟩
  · rw [ha] at hn; cases hn
  · rw [ha] at e'
    injection e' with e'
    injection e' with e'
    subst e'
    exact ⟨_, h2⟩
/-- All marked blocks are of bytes, and none of them lies where others must stand. -/
structure Zs (Z : Nat → Prop) (w : World) (lo hi top : Nat) : Prop where
  u8 : ∀ g, Z g → ∃ cs, w.heap[g]? = some (.cells cs 5 (0, 0))
  out : ∀ g, Z g → (lo ≤ g ∧ g < hi) ∨ top ≤ g
/-- A row of other things stands. -/
theorem Zs.row {Z : Nat → Prop} {w0 w : World} {lo hi top : Nat} (hz : Zs Z w0 lo hi top) (hk : Kp (fun b => ¬ Z b) w0 w) {B : Nat} {e : TypeId} {size : Nat} {A : Option Addr} {n c : Nat} {xs : List Value} (h : w0.ownsRow B e size (.slice A n c) n xs) (ht : e ≠ 5) : w.ownsRow B e size (.slice A n c) n xs :=
  own_kp h hk (fun ad ha hZ => by
    obtain ⟨cs, h1⟩ := own_type h ad ha
    obtain ⟨cs', h2⟩ := hz.u8 _ hZ
    rw [h1] at h2
    injection h2 with h2
    injection h2 with _ h2
    exact ht h2)
/-- Bytes between stand. -/
theorem Zs.bytes {Z : Nat → Prop} {w0 w : World} {lo hi top : Nat} (hz : Zs Z w0 lo hi top) (hk : Kp (fun b => ¬ Z b) w0 w) {B c : Nat} {A : Option Addr} {L : List Int} (h : Row w0 B A c L) (hs : ∀ ad, A = some ad → hi ≤ ad.block ∧ ad.block < top) : Row w B A c L :=
  own_kp h hk (fun ad ha hZ => by
    have := hs ad ha
    rcases hz.out _ hZ with h | h <;> omega)
end Go.Proofs.Ytcffpkflijpdjaa
namespace Go.Proofs.Ytcffpkflijpdjaa
open Go.RowKit
theorem enB_mem {l : List En} {q : En} {g : Nat} (hq : q ∈ l) (h : EnB [q] g) : EnB l g := by
  obtain ⟨p, hp, h⟩ := h
  obtain rfl := List.mem_singleton.1 hp
  exact ⟨p, hq, h⟩
theorem enB_one {l : List En} {g : Nat} (h : EnB l g) : ∃ q ∈ l, EnB [q] g := by
  obtain ⟨p, hp, h⟩ := h
  exact ⟨p, hp, p, List.mem_singleton.2 rfl, h⟩
theorem enB_in {w : World} {B : Nat} {l : List En} (h : EMades w B l) {g : Nat} (hg : EnB l g) : B ≤ g ∧ g < w.heap.size := by
  obtain ⟨q, hq, hg⟩ := enB_one hg
  exact en_row (h q hq).1 (h q hq).2 hg
theorem slB_in {w : World} {B c : Nat} {A : Option Addr} {l : List En} (h : Erow w B A c l) {g : Nat} (hg : SlB A g) : B ≤ g ∧ g < w.heap.size := by
  obtain ⟨v, e, rfl⟩ := hg
  exact own_in h v e
theorem erow_same {w w' : World} {B c : Nat} {A : Option Addr} {l : List En} (h : Erow w B A c l) (hs : ∀ g, SlB A g → w'.heap[g]? = w.heap[g]?) : Erow w' B A c l := own_same h hs
theorem mades_same {w w' : World} {B : Nat} {l : List En} (h : EMades w B l) (hs : ∀ g, EnB l g → w'.heap[g]? = w.heap[g]?) : EMades w' B l := fun q hq =>
  ⟨own_same (h q hq).1 (fun g hg => hs g ⟨q, hq, .inl hg⟩), own_same (h q hq).2 (fun g hg => hs g ⟨q, hq, .inr hg⟩)⟩
/-- What was copied. -/
structure OwF (w w2 : World) (B : Nat) (A2 : Option Addr) (c2 : Nat) (li : List En) : Prop where
  le : w.heap.size ≤ B ∧ B ≤ w2.heap.size
  row : Erow w2 B A2 c2 li
  made : EMades w2 B li
  apt : EApt li
/-- P: what was put; lh: what the law keeps of it. -/
structure OwI (w w2 : World) (B : Nat) (A2 : Option Addr) (li : List En) (b i : Nat) (W : World) (t : MT) (P : List Er) (lh : List En) (Ah : Option Addr) (ch : Nat) : Prop where
  low : Below w.heap.size w W
  size : w2.heap.size ≤ W.heap.size
  stay : ∀ g, (SlB A2 g ∨ EnB (li.drop i) g) → W.heap[g]? = w2.heap[g]?
  tab : MTab W t
  tb : t.b = b
  town : ∀ g, t.own g → w.heap.size ≤ g ∧ (g < B ∨ w2.heap.size ≤ g)
  apart : ∀ g, t.own g → ¬ (SlB Ah g ∨ EnB lh g)
  hrow : Erow W w2.heap.size Ah ch lh
  hmade : EMades W w2.heap.size lh
  perm : P.Perm t.has
  cnt : t.ns.length = P.length + 1
section
variable {w w2 W W' : World} {B c2 b i ch : Nat} {A2 Ah : Option Addr} {li lh : List En} {t t' : MT} {P P' : List Er}
theorem OwF.at (f : OwF w w2 B A2 c2 li) {g : Nat} (h : SlB A2 g ∨ EnB (li.drop i) g) : B ≤ g ∧ g < w2.heap.size := by
  rcases h with h | h
  · exact slB_in f.row h
  · obtain ⟨q, hq, h⟩ := enB_one h
    exact enB_in f.made (enB_mem (List.mem_of_mem_drop hq) h)
theorem OwI.below (h : OwI w w2 B A2 li b i W t P lh Ah ch) (f : OwF w w2 B A2 c2 li) (hb : Below W.heap.size W W') : OwI w w2 B A2 li b i W' t P lh Ah ch :=
  ⟨below_then h.low hb, Nat.le_trans h.size hb.size, fun g hg => (hb.block g (by have := (f.at hg).2; have := h.size; omega)).trans (h.stay g hg), h.tab.kept hb, h.tb, h.town, h.apart, h.hrow.kept hb (Nat.le_refl _), h.hmade.kept hb (Nat.le_refl _), h.perm, h.cnt⟩
theorem OwI.put (h : OwI w w2 B A2 li b i W t P lh Ah ch) (f : OwF w w2 B A2 c2 li) (hd : Tds t.own t'.own W W') (ht : MTab W' t') (hb : t'.b = t.b) (hp : P'.Perm t'.has) (hc : t'.ns.length = P'.length + 1) : OwI w w2 B A2 li b i W' t' P' lh Ah ch := by
  have hz := h.size
  have hk : ∀ g, (SlB Ah g ∨ EnB lh g) → W'.heap[g]? = W.heap[g]? := fun g hg => hd.block g (by
    rcases hg with hg | hg
    · exact (slB_in h.hrow hg).2
    · exact (enB_in h.hmade hg).2) (fun ho => h.apart g ho hg)
  refine ⟨(tds_low h.low hd (fun g hg => (h.town g hg).1)).1, Nat.le_trans hz hd.size, fun g hg => ?_, ht, hb.trans h.tb, fun g hg => ?_, fun g hg hh => ?_, erow_same h.hrow (fun g hg => hk g (.inl hg)), mades_same h.hmade (fun g hg => hk g (.inr hg)), hp, hc⟩
  · have := f.at hg
    exact (hd.block g (by omega) (fun ho => by have := (h.town g ho).2; omega)).trans (h.stay g hg)
  · rcases hd.grows g hg with hg | hg
    · exact h.town g hg
    · have := f.le; omega
  · rcases hd.grows g hg with hg | hg
    · exact h.apart g hg hh
    · rcases hh with hh | hh
      · have := (slB_in h.hrow hh).2; omega
      · have := (enB_in h.hmade hh).2; omega
theorem OwI.mark (h : OwI w w2 B A2 li b i W t P lh Ah ch) (f : OwF w w2 B A2 c2 li) {q : En} (hq : li[i]? = some q) (hm : Mz (EnB [q]) W W') : OwI w w2 B A2 li b (i + 1) W' t P lh Ah ch := by
  have hz := h.size
  have hZ : ∀ g, EnB [q] g → B ≤ g ∧ g < w2.heap.size := fun g hg => enB_in f.made (enB_mem (List.mem_of_getElem? hq) hg)
  have hdrop : li.drop i = q :: li.drop (i + 1) := by
    have hlt := (List.getElem?_eq_some_iff.1 hq).1
    rw [List.drop_eq_getElem_cons hlt]
    congr 1
    exact (List.getElem?_eq_some_iff.1 hq).2
  have hk : ∀ g, (SlB Ah g ∨ EnB lh g) → ¬ EnB [q] g := fun g hg hz' => by
    have := hZ g hz'
    rcases hg with hg | hg
    · have := (slB_in h.hrow hg).1; omega
    · have := (enB_in h.hmade hg).1; omega
  refine ⟨h.low.trans ⟨hm.kp.os, hm.kp.tape, hm.kp.output, hm.kp.size, fun g hg => hm.kp.block g (fun e => by have := hZ g e; have := f.le; omega)⟩, Nat.le_trans hz hm.kp.size, fun g hg => ?_, h.tab.same (fun g hg => hm.kp.block g (fun e => by have := hZ g e; have := (h.town g hg).2; omega)), h.tb, h.town, h.apart, erow_same h.hrow (fun g hg => hm.kp.block g (hk g (.inl hg))), mades_same h.hmade (fun g hg => hm.kp.block g (hk g (.inr hg))), h.perm, h.cnt⟩
  refine (hm.kp.block g (fun e => ?_)).trans (h.stay g ?_)
  · rcases hg with hg | hg
    · obtain ⟨v, e1, rfl⟩ := hg
      obtain ⟨p, hp, hz'⟩ := e
      obtain rfl := List.mem_singleton.1 hp
      have hpm := f.made p (List.mem_of_getElem? hq)
      obtain ⟨cs, k1⟩ := own_type f.row v e1
      rcases hz' with ⟨u, e2, e3⟩ | ⟨u, e2, e3⟩
      · obtain ⟨cs', k2⟩ := own_type hpm.1 u e2
        rw [e3, k2] at k1
        cases k1
      · obtain ⟨cs', k2⟩ := own_type hpm.2 u e2
        rw [e3, k2] at k1
        cases k1
    · obtain ⟨p, hp, hg⟩ := enB_one hg
      have hap := f.apt
      have : EApt (li.drop i) := List.Pairwise.sublist (List.drop_sublist _ _) hap
      rw [hdrop] at this
      exact (List.pairwise_cons.1 this).1 p hp g e hg
  · rcases hg with hg | hg
    · exact .inl hg
    · obtain ⟨p, hp, hg⟩ := enB_one hg
      exact .inr (enB_mem (by rw [hdrop]; exact List.mem_cons_of_mem _ hp) hg)
theorem own_slB {g n c : Nat} {A : Option Addr} (h : (Value.slice A n c).ownBlock = some g) : SlB A g := by
  cases A with
  | none => simp [Value.ownBlock] at h
  | some a => exact ⟨a, rfl, by simpa [Value.ownBlock] using h.symm⟩
theorem OwI.append (h : OwI w w2 B A2 li b i W t P lh Ah ch) (f : OwF w w2 B A2 c2 li) {x : En} {A' : Option Addr} {c' : Nat} {o : Obj} (hx : EMades W w2.heap.size [x]) (hxo : ∀ g, EnB [x] g → ¬ t.own g)
    (hr : Erow W' w2.heap.size A' c' (lh ++ [x])) (hg : (W.alloc o).grownBy W' (Value.slice Ah lh.length ch).ownBlock) (hp : ∀ ad, A' = some ad → (∃ a0, Ah = some a0 ∧ ad.block = a0.block) ∨ (W.alloc o).heap.size ≤ ad.block) :
    OwI w w2 B A2 li b i W' t P (lh ++ [x]) A' c' := by
  have hz := h.size
  have hs1 := World.size_alloc W o
  have hgs := hg.size
  have hk : ∀ g, g < W.heap.size → ¬ SlB Ah g → W'.heap[g]? = W.heap[g]? := fun g h1 h2 => (hg.block g (by omega) (fun e => h2 (own_slB e.symm))).trans (RowKit.Below.heap_alloc _ _ _ h1)
  have hlow : ∀ g, g < w2.heap.size → ¬ SlB Ah g := fun g h1 h2 => by have := (slB_in h.hrow h2).1; omega
  refine ⟨h.low.trans ⟨hg.os.trans rfl, hg.tape.trans rfl, hg.output.trans rfl, by omega, fun g h1 => hk g (by have := h.low.size; omega) (hlow g (by have := f.le; omega))⟩, by omega, fun g h1 => ?_, h.tab.same (fun g h1 => hk g (h.tab.in_ g h1) (fun e => h.apart g h1 (.inl e))), h.tb, h.town, fun g h1 h2 => ?_, hr, ?_, h.perm, h.cnt⟩
  · have := (f.at h1).2
    exact (hk g (by omega) (hlow g this)).trans (h.stay g h1)
  · have h3 := h.tab.in_ g h1
    rcases h2 with ⟨v, e, rfl⟩ | h2
    · rcases hp v e with ⟨a0, e1, e2⟩ | h4
      · exact h.apart _ h1 (.inl ⟨a0, e1, e2⟩)
      · omega
    · obtain ⟨p, hp', h5⟩ := enB_one h2
      rcases List.mem_append.1 hp' with q | q
      · exact h.apart g h1 (.inr (enB_mem q h5))
      · rw [List.mem_singleton.1 q] at h5
        exact hxo g h5 h1
  · have e0 := h.hrow.kept (below_new W o) (Nat.le_refl _)
    have m1 := (h.hmade.kept (below_new W o) (Nat.le_refl _)).besideE e0 hg
    have m2 := (hx.kept (below_new W o) (Nat.le_refl _)).besideE e0 hg
    exact m1.snoc (m2 x (List.mem_singleton.2 rfl)).1 (m2 x (List.mem_singleton.2 rfl)).2
/-- The entry that is at its turn is as it was copied. -/
theorem OwI.here (h : OwI w w2 B A2 li b i W t P lh Ah ch) (f : OwF w w2 B A2 c2 li) {q : En} (hq : li[i]? = some q) : Row W B q.k.a q.k.c q.k.l ∧ Row W B q.v.a q.v.c q.v.l := by
  have hm := f.made q (List.mem_of_getElem? hq)
  have hd : q ∈ li.drop i := List.mem_of_getElem? (i := 0) (by rw [List.getElem?_drop]; simpa using hq)
  exact ⟨own_same hm.1 (fun g hg => h.stay g (.inr ⟨q, hd, .inl hg⟩)), own_same hm.2 (fun g hg => h.stay g (.inr ⟨q, hd, .inr hg⟩))⟩
theorem OwI.row (h : OwI w w2 B A2 li b i W t P lh Ah ch) (f : OwF w w2 B A2 c2 li) : Erow W B A2 c2 li := erow_same f.row (fun g hg => h.stay g (.inl hg))
theorem OwI.spots (h : OwI w w2 B A2 li b i W t P lh Ah ch) (f : OwF w w2 B A2 c2 li) {q : En} (hq : li[i]? = some q) : SpotZ (EnB [q]) W q.k.a q.k.l.length ∧ SpotZ (EnB [q]) W q.v.a q.v.l.length := by
  have := h.here f hq
  exact ⟨this.1.spotZ (fun g hg => ⟨q, List.mem_singleton.2 rfl, .inl hg⟩), this.2.spotZ (fun g hg => ⟨q, List.mem_singleton.2 rfl, .inr hg⟩)⟩
/-- While it is marked, the row of entries stands. -/
theorem OwI.row_mark (h : OwI w w2 B A2 li b i W t P lh Ah ch) (f : OwF w w2 B A2 c2 li) {q : En} (hq : li[i]? = some q) (hm : Mz (EnB [q]) W W') : Erow W' B A2 c2 li := (h.mark f hq hm).row f
/-- An append of one, and where it lies. -/
theorem wpList_append_oneP (w : World) {ops : Array Oper} {rest : List Oper} {o : Oper} {a : Act} {Q : Exit → Act → World → Prop} (hgd : o.guard = none) (s x : Operand)
    (ho : o.op = .call { callee := .builtin .append, args := #[s, x], argTypes := #[22, 22] })
    (B : Nat) (A : Option Addr) (c : Nat) (T : List En) (y : En) (C : Option Addr) (n cm : Nat) (hs : a.eval s = .slice A n c) (hx : a.eval x = .slice C 1 cm) (en : T.length = n) (h : Erow w B A c T) (hm : Lies w C (evals [y])) (hB : B ≤ w.heap.size) (hr : (T.length + 1) * 64 ≤ 140737488355328)
    (k : ∀ A' c' w', Erow w' B A' c' (T ++ [y]) → Below B w w' → w.grownBy w' (Value.slice A n c).ownBlock → (∀ ad, A' = some ad → (∃ a0, A = some a0 ∧ ad.block = a0.block) ∨ w.heap.size ≤ ad.block) → wpList Try.prog ops Q rest (a.put o.dst (.slice A' (n + 1) c')) w') : wpList Try.prog ops Q (o :: rest) a w := by
  subst en
  refine wpList_plain hgd fun K hK => ?_
  obtain ⟨A', c', w', r, h2, h3, h4, h5⟩ := erow_placed w o.type B A c T y C cm h hm hB hr
  have k' := k A' c' w' h2 h3 h4 h5
  unfold Oper.wp execOp
  simp only [ho, resolve, invoke, builtin, Sem.run_bind, Sem.run_pure, Result.andThen_ok, List.map_toArray, List.map_cons, List.map_nil, hs, hx, r]
  exact hK _ _ k'
end
end Go.Proofs.Ytcffpkflijpdjaa
