/-
  Walks: one call on both disks: Sync, Rename, Delete.
  Walks: one call on both disks: Append, and what both hold then.
  Walks: one call on both disks: Read, List.
-/
import Derived.Test.YtjacjafpeajhaaaPxC
namespace Go.Proofs.Ytjacjafpeajhaaa
section
open Go.RowKit
open Go.Maps

/-- The program's call is done. -/
def PD (w : World) (B C W0 g e x : Nat) (d : Dk) (m : Vm) (w' : World) : Prop := ∃ p1, PSt w' B g p1 ∧ p1.vm = m ∧ RefSt w' C e d ∧ (∀ y, p1.own g y → ¬ d.own e y) ∧ Below W0 w w' ∧ w'.heap[x]? = w.heap[x]? ∧ x < w'.heap.size ∧ ¬ p1.own g x
/-- .. and the document's. -/
def RD (w : World) (B C W0 g e x : Nat) (m : Vm) (m2 : Md) (w' : World) : Prop := ∃ p1 d1, PSt w' B g p1 ∧ p1.vm = m ∧ RefSt w' C e d1 ∧ d1.md = m2 ∧ (∀ y, p1.own g y → ¬ d1.own e y) ∧ Below W0 w w' ∧ w'.heap[x]? = w.heap[x]? ∧ x < w'.heap.size ∧ ¬ p1.own g x ∧ ¬ d1.own e x
theorem does_not {S S' : Nat → Prop} {a b : World} {x : Nat} (h : Does S S' a b) (hx : x < a.heap.size) (hn : ¬ S x) : b.heap[x]? = a.heap[x]? ∧ x < b.heap.size ∧ ¬ S' x :=
  ⟨h.block x hx hn, by have := h.size; omega, fun hs => (h.grows x hs).elim hn (fun h2 => by omega)⟩
theorem prog_does {w1 W w' : World} {B C W0 g e x : Nat} {p : Pk} {d : Dk} {keep : List Int} {k S : Nat} {m : Vm} (ht : Twin w1 B C W0 g e p d keep k S) (hb : Below w1.heap.size w1 W) (hx : x < w1.heap.size) (hn : ¬ p.own g x) (hr : Rest W B g p m w') : PD w1 B C W0 g e x d m w' := by
  have ht' := ht.below hb
  have hlow : W0 ≤ w1.heap.size := by have := ht.lowB; have := ht.ps.low; have := ht.ps.at_.lt; omega
  obtain ⟨p1, h1, h2, h3⟩ := hr
  obtain ⟨e1, e2, e3⟩ := does_not h3 (x := x) (by have := hb.size; omega) hn
  refine ⟨p1, h1, h2, ht'.rs.does h3 ht.off, fun y hy hd' => ?_, (hb.mono hlow).trans ((Rest.below ht'.ps ⟨p1, h1, h2, h3⟩).mono ht.lowB), e1.trans (hb.block x hx), e2, e3⟩
  rcases h3.grows y hy with h | h
  · exact ht.off y h hd'
  · have := (ht'.rs.owned y hd').2
    omega
theorem ref_does {w1 w2 W w' : World} {B C W0 g e x : Nat} {d : Dk} {m : Vm} {m2 : Md} (hd : PD w1 B C W0 g e x d m w2) (hB : W0 ≤ B) (hC : W0 ≤ C) (hb : Below w2.heap.size w2 W) (hn : ¬ d.own e x) (hl : Left W C e d m2 w') : RD w1 B C W0 g e x m m2 w' := by
  obtain ⟨p1, h1, h2, h3, h4, h5, h6, h7, h8⟩ := hd
  have hlow : W0 ≤ w2.heap.size := by have := h1.low; have := h1.at_.lt; omega
  have hlowC : C ≤ W.heap.size := by have := h3.low; have := h3.at_.lt; have := hb.size; omega
  obtain ⟨d1, g1, g2, g3⟩ := hl
  obtain ⟨e1, e2, e3⟩ := does_not g3 (x := x) (by have := hb.size; omega) hn
  refine ⟨p1, d1, (h1.kept hb).does g3 (fun k hk ho => h4 k ho hk), h2, g1, g2, fun y hy hd' => ?_, (h5.trans (hb.mono hlow)).trans ((g3.below hlowC (fun k hk => ((h3.kept hb).owned k hk).1)).mono hC), (e1.trans (hb.block x h7)).trans h6, e2, h8, e3⟩
  rcases g3.grows y hd' with h | h
  · exact h4 y hy h
  · have := ((h1.kept hb).owned y hy).2
    omega
theorem twin_next {w1 w' : World} {B C W0 g e x : Nat} {p : Pk} {d : Dk} {keep : List Int} {k S c : Nat} {m : Vm} {m2 : Md} (ht : Twin w1 B C W0 g e p d keep k S) (h : RD w1 B C W0 g e x m m2 w') (ha : Alike m m2 keep) (hk : Kd d.md m2) (hl : Le7 p.vm.fs m.fs c 1048576) : ∃ p' d', Twin w' B C W0 g e p' d' keep (k + 1) (S + c) := by
  obtain ⟨p1, d1, h1, h2, h3, h4, h5, h6, -⟩ := h
  subst h2
  subst h4
  exact ⟨p1, d1, ht.next h1 h3 h5 h6 ha hk hl⟩
/-- What a call on both answers, and leaves. -/
def Acted (w : World) (B C W0 g e k S : Nat) (en : Ending) (w' : World) : Prop := en = .returned (.bool true) ∧ Below W0 w w' ∧ ∃ p' d' keep', Twin w' B C W0 g e p' d' keep' k S
theorem RD.below {w : World} {B C W0 g e x : Nat} {m : Vm} {m2 : Md} {w' : World} (h : RD w B C W0 g e x m m2 w') : Below W0 w w' := by
  obtain ⟨_, _, _, _, _, _, _, h, _⟩ := h
  exact h
theorem PD.same {w : World} {B C W0 g e x : Nat} {d : Dk} {m : Vm} {w' : World} (h : PD w B C W0 g e x d m w') : w'.heap[x]? = w.heap[x]? := by
  obtain ⟨_, _, _, _, _, _, h, _⟩ := h
  exact h
theorem RD.same {w : World} {B C W0 g e x : Nat} {m : Vm} {m2 : Md} {w' : World} (h : RD w B C W0 g e x m m2 w') : w'.heap[x]? = w.heap[x]? := by
  obtain ⟨_, _, _, _, _, _, _, _, h, _⟩ := h
  exact h

-- WALKS

set_option maxRecDepth 100000 in
set_option maxHeartbeats 8000000 in
theorem act1 (B C W0 g e : Nat) (p : Pk) (d : Dk) (keep : List Int) (k S : Nat) (kind : Int) (s t : ByteArray) (da : Option Addr) (dn dc : Nat) (ops room : Int) (K : Option Addr) (kn kc : Nat) (w : World) (h : Twin w B C W0 g e p d keep k S) (hk : k ≤ 2097152) (_hS : S ≤ 2097152) (hs : s.size ≤ 1048576) (_ht : t.size ≤ 1048576) (hkind : kind.tmod 7 = 1) :
    Calls Try.prog 14 #[.pointer (some ⟨g, 0, none⟩), .pointer (some ⟨e, 0, none⟩), .agg #[.int .i64 kind, .string s, .string t, .slice da dn dc, .int .i64 ops, .int .i64 room, .slice K kn kc]] w (Acted w B C W0 g e (k + 1) (S + dn)) := by
  obtain ⟨w1, hw1⟩ : ∃ w1, w.alloc (.cells #[.int .i64 kind, .string s, .string t, .slice da dn dc, .int .i64 ops, .int .i64 room, .slice K kn kc] 40) = w1 := ⟨_, rfl⟩
  have B1 : Hid (Below w.heap.size w w1) := Lib.hid (hw1 ▸ below_new _ _)
  have HW : Hid (W0 ≤ w.heap.size) := Lib.hid (by have := h.lowB; have := h.ps.low; have := h.ps.at_.lt; omega)
  have HT := Lib.hid (h.below B1.out)
  have HNO : Hid (¬ p.own g w.heap.size ∧ ¬ d.own e w.heap.size) := Lib.hid ⟨fun ho => by have := (h.ps.owned _ ho).2; omega, fun ho => by have := (h.rs.owned _ ho).2; omega⟩
  have HLT : Hid (w.heap.size < w1.heap.size) := Lib.hid (by rw [← hw1]; simp)
  have hx0 : kind.tmod 7 = 1 := hkind
  have x0 : w1.cell? ⟨w.heap.size, 0, none⟩ = some (.int .i64 kind) := by rw [← hw1]; exact lit_cell w _ _ 0
  have HZ : Hid ((fun W : World => W.cell? ⟨w.heap.size, 1, none⟩ = some (.string s)) w1) := Lib.hid (by rw [← hw1]; exact lit_cell w _ _ 1)
  have HK : Hid (∀ W : World, W.heap[w.heap.size]? = w1.heap[w.heap.size]? → W.cell? ⟨w.heap.size, 1, none⟩ = some (.string s)) := Lib.hid (fun W e => (World.cell?_of_block e).trans HZ.out)
  obtain ⟨q, hq⟩ : ∃ q, p.vm.sync s = q := ⟨_, rfl⟩
  obtain ⟨q', hq'⟩ : ∃ q, d.md.sync s = q := ⟨_, rfl⟩
  obtain ⟨m1, r⟩ := q
  obtain ⟨m2, r2⟩ := q'
  have HA := h.alike.sync s
  have HL : Le7 p.vm.fs (p.vm.sync s).1.fs dn 1048576 := le_does p.vm _ _ _ _ (sync_le s _ _ _)
  have HKD : Kd d.md (d.md.sync s).1 := kd_does d.md _ _
  rw [hq] at HL
  rw [hq'] at HKD
  rw [hq, hq'] at HA
  obtain ⟨hr, HA⟩ := HA
  simp only at hr
  subst hr
  have HF := Lib.hid (And.intro HA (And.intro HKD HL))
  have hdn : d.done < 1099511627776 := by have : d.md.done ≤ k := h.done; have : d.md.done = d.done := rfl; omega
  have HCP : Hid (∀ W, Below w1.heap.size w1 W → Calls Try.prog 21 #[.pointer (some ⟨g, 0, none⟩), .string s] W fun en w' => en = .returned (.int .i64 r) ∧ PD w1 B C W0 g e w.heap.size d m1 w') := Lib.hid (fun W hb =>
    (sync_vm B g p p.vm m1 r s W (HT.out.ps.kept hb) rfl (by omega) hq).mono (fun en w' h => ⟨h.1, prog_does HT.out hb HLT.out HNO.out.1 h.2⟩))
  have HCR : Hid (∀ w2 W, PD w1 B C W0 g e w.heap.size d m1 w2 → Below w2.heap.size w2 W → Calls Try.prog 38 #[.pointer (some ⟨e, 0, none⟩), .string s] W fun en w' => en = .returned (.int .i64 r) ∧ RD w1 B C W0 g e w.heap.size m1 m2 w') := Lib.hid (fun w2 W hpd hb => by
    have hp : RefSt w2 C e d := by obtain ⟨_, _, _, h, _⟩ := hpd; exact h
    refine (refSync_any C e d s W (hp.kept hb) (by omega) hdn).mono ?_
    rintro en w' ⟨h1, h2⟩
    rw [hq'] at h1 h2
    exact ⟨h1, ref_does hpd HT.out.lowB HT.out.lowC hb HNO.out.2 h2⟩)
  clear HA HKD HL hq hq' hdn h hkind
  go_enter Try.func14, Try.ntmps14
  go_upto_region 5 with fail
  go_region_held3 (fun W => W.cell? ⟨w.heap.size, 1, none⟩ = some (.string s)) (first | exact HK.out _ rfl | exact HK.out _ (PD.same E2.out) | exact HK.out _ (RD.same E3.out) | go_keep) (first
    | (go_at_call 21; refine (HCP.out _ (by repeat (first | exact Below.refl _ _ | refine Below.drew ?_))).mono ?_; rintro en w2 ⟨rfl, h2⟩; have E2 := Lib.hid h2; clear h2)
    | (go_at_call 38; refine (HCR.out _ _ E2.out (by repeat (first | exact Below.refl _ _ | refine Below.drew ?_))).mono ?_; rintro en w3 ⟨rfl, h3⟩; have E3 := Lib.hid h3; clear h3))
  all_goals
    go_wp2_with fail
    go_ret
    obtain ⟨p', d', hz⟩ := twin_next HT.out E3.out HF.out.1 HF.out.2.1 HF.out.2.2
    exact ⟨by simp, ((B1.out.mono HW.out).trans E3.out.below), p', d', keep, hz⟩

set_option maxRecDepth 100000 in
set_option maxHeartbeats 8000000 in
theorem act2 (B C W0 g e : Nat) (p : Pk) (d : Dk) (keep : List Int) (k S : Nat) (kind : Int) (s t : ByteArray) (da : Option Addr) (dn dc : Nat) (ops room : Int) (K : Option Addr) (kn kc : Nat) (w : World) (h : Twin w B C W0 g e p d keep k S) (hk : k ≤ 2097152) (_hS : S ≤ 2097152) (hs : s.size ≤ 1048576) (ht : t.size ≤ 1048576) (hkind : kind.tmod 7 = 2) :
    Calls Try.prog 14 #[.pointer (some ⟨g, 0, none⟩), .pointer (some ⟨e, 0, none⟩), .agg #[.int .i64 kind, .string s, .string t, .slice da dn dc, .int .i64 ops, .int .i64 room, .slice K kn kc]] w (Acted w B C W0 g e (k + 1) (S + dn)) := by
  obtain ⟨w1, hw1⟩ : ∃ w1, w.alloc (.cells #[.int .i64 kind, .string s, .string t, .slice da dn dc, .int .i64 ops, .int .i64 room, .slice K kn kc] 40) = w1 := ⟨_, rfl⟩
  have B1 : Hid (Below w.heap.size w w1) := Lib.hid (hw1 ▸ below_new _ _)
  have HW : Hid (W0 ≤ w.heap.size) := Lib.hid (by have := h.lowB; have := h.ps.low; have := h.ps.at_.lt; omega)
  have HT := Lib.hid (h.below B1.out)
  have HNO : Hid (¬ p.own g w.heap.size ∧ ¬ d.own e w.heap.size) := Lib.hid ⟨fun ho => by have := (h.ps.owned _ ho).2; omega, fun ho => by have := (h.rs.owned _ ho).2; omega⟩
  have HLT : Hid (w.heap.size < w1.heap.size) := Lib.hid (by rw [← hw1]; simp)
  have hx0 : kind.tmod 7 = 2 := hkind
  have x0 : w1.cell? ⟨w.heap.size, 0, none⟩ = some (.int .i64 kind) := by rw [← hw1]; exact lit_cell w _ _ 0
  have HZ : Hid ((fun W : World => W.cell? ⟨w.heap.size, 1, none⟩ = some (.string s) ∧ W.cell? ⟨w.heap.size, 2, none⟩ = some (.string t)) w1) := Lib.hid (by rw [← hw1]; exact ⟨lit_cell w _ _ 1, lit_cell w _ _ 2⟩)
  have HK : Hid (∀ W : World, W.heap[w.heap.size]? = w1.heap[w.heap.size]? → W.cell? ⟨w.heap.size, 1, none⟩ = some (.string s) ∧ W.cell? ⟨w.heap.size, 2, none⟩ = some (.string t)) := Lib.hid (fun W e => ⟨(World.cell?_of_block e).trans HZ.out.1, (World.cell?_of_block e).trans HZ.out.2⟩)
  obtain ⟨q, hq⟩ : ∃ q, p.vm.rename s t = q := ⟨_, rfl⟩
  obtain ⟨q', hq'⟩ : ∃ q, d.md.rename s t = q := ⟨_, rfl⟩
  obtain ⟨m1, r⟩ := q
  obtain ⟨m2, r2⟩ := q'
  have HA := h.alike.rename s t
  have HL : Le7 p.vm.fs (p.vm.rename s t).1.fs dn 1048576 := le_does p.vm _ (fun fs => if s = t then fs else renM s t fs) _ _ (by by_cases hst : s = t <;> simp only [hst, if_true, if_false] <;> first | exact Le7.refl _ _ _ | exact ren_le s t _ _ _ ht)
  have HKD : Kd d.md (d.md.rename s t).1 := kd_does d.md _ _
  rw [hq] at HL
  rw [hq'] at HKD
  rw [hq, hq'] at HA
  obtain ⟨hr, HA⟩ := HA
  simp only at hr
  subst hr
  have HF := Lib.hid (And.intro HA (And.intro HKD HL))
  have hdn : d.done < 1099511627776 := by have : d.md.done ≤ k := h.done; have : d.md.done = d.done := rfl; omega
  have HCP : Hid (∀ W, Below w1.heap.size w1 W → Calls Try.prog 22 #[.pointer (some ⟨g, 0, none⟩), .string s, .string t] W fun en w' => en = .returned (.int .i64 r) ∧ PD w1 B C W0 g e w.heap.size d m1 w') := Lib.hid (fun W hb =>
    (rename_vm B g p p.vm m1 r s t W (HT.out.ps.kept hb) rfl (by omega) (by omega) (by have := HT.out.few; omega) hq).mono (fun en w' h => ⟨h.1, prog_does HT.out hb HLT.out HNO.out.1 h.2⟩))
  have HCR : Hid (∀ w2 W, PD w1 B C W0 g e w.heap.size d m1 w2 → Below w2.heap.size w2 W → Calls Try.prog 39 #[.pointer (some ⟨e, 0, none⟩), .string s, .string t] W fun en w' => en = .returned (.int .i64 r) ∧ RD w1 B C W0 g e w.heap.size m1 m2 w') := Lib.hid (fun w2 W hpd hb => by
    have hp : RefSt w2 C e d := by obtain ⟨_, _, _, h, _⟩ := hpd; exact h
    refine (refRename_any C e d s t W (hp.kept hb) (by omega) (by omega) hdn).mono ?_
    rintro en w' ⟨h1, h2⟩
    rw [hq'] at h1 h2
    exact ⟨h1, ref_does hpd HT.out.lowB HT.out.lowC hb HNO.out.2 h2⟩)
  clear HA HKD HL hq hq' hdn h hkind
  go_enter Try.func14, Try.ntmps14
  go_upto_region 7 with fail
  go_region_held3 (fun W => W.cell? ⟨w.heap.size, 1, none⟩ = some (.string s) ∧ W.cell? ⟨w.heap.size, 2, none⟩ = some (.string t)) (first | exact HK.out _ rfl | exact HK.out _ (PD.same E2.out) | exact HK.out _ (RD.same E3.out) | go_keep) (first
    | (go_at_call 22; refine (HCP.out _ (by repeat (first | exact Below.refl _ _ | refine Below.drew ?_))).mono ?_; rintro en w2 ⟨rfl, h2⟩; have E2 := Lib.hid h2; clear h2)
    | (go_at_call 39; refine (HCR.out _ _ E2.out (by repeat (first | exact Below.refl _ _ | refine Below.drew ?_))).mono ?_; rintro en w3 ⟨rfl, h3⟩; have E3 := Lib.hid h3; clear h3))
  all_goals
    go_wp2_with fail
    go_ret
    obtain ⟨p', d', hz⟩ := twin_next HT.out E3.out HF.out.1 HF.out.2.1 HF.out.2.2
    exact ⟨by simp, ((B1.out.mono HW.out).trans E3.out.below), p', d', keep, hz⟩

set_option maxRecDepth 100000 in
set_option maxHeartbeats 8000000 in
theorem act3 (B C W0 g e : Nat) (p : Pk) (d : Dk) (keep : List Int) (k S : Nat) (kind : Int) (s t : ByteArray) (da : Option Addr) (dn dc : Nat) (ops room : Int) (K : Option Addr) (kn kc : Nat) (w : World) (h : Twin w B C W0 g e p d keep k S) (hk : k ≤ 2097152) (_hS : S ≤ 2097152) (hs : s.size ≤ 1048576) (_ht : t.size ≤ 1048576) (hkind : kind.tmod 7 = 3) :
    Calls Try.prog 14 #[.pointer (some ⟨g, 0, none⟩), .pointer (some ⟨e, 0, none⟩), .agg #[.int .i64 kind, .string s, .string t, .slice da dn dc, .int .i64 ops, .int .i64 room, .slice K kn kc]] w (Acted w B C W0 g e (k + 1) (S + dn)) := by
  obtain ⟨w1, hw1⟩ : ∃ w1, w.alloc (.cells #[.int .i64 kind, .string s, .string t, .slice da dn dc, .int .i64 ops, .int .i64 room, .slice K kn kc] 40) = w1 := ⟨_, rfl⟩
  have B1 : Hid (Below w.heap.size w w1) := Lib.hid (hw1 ▸ below_new _ _)
  have HW : Hid (W0 ≤ w.heap.size) := Lib.hid (by have := h.lowB; have := h.ps.low; have := h.ps.at_.lt; omega)
  have HT := Lib.hid (h.below B1.out)
  have HNO : Hid (¬ p.own g w.heap.size ∧ ¬ d.own e w.heap.size) := Lib.hid ⟨fun ho => by have := (h.ps.owned _ ho).2; omega, fun ho => by have := (h.rs.owned _ ho).2; omega⟩
  have HLT : Hid (w.heap.size < w1.heap.size) := Lib.hid (by rw [← hw1]; simp)
  have hx0 : kind.tmod 7 = 3 := hkind
  have x0 : w1.cell? ⟨w.heap.size, 0, none⟩ = some (.int .i64 kind) := by rw [← hw1]; exact lit_cell w _ _ 0
  have HZ : Hid ((fun W : World => W.cell? ⟨w.heap.size, 1, none⟩ = some (.string s)) w1) := Lib.hid (by rw [← hw1]; exact lit_cell w _ _ 1)
  have HK : Hid (∀ W : World, W.heap[w.heap.size]? = w1.heap[w.heap.size]? → W.cell? ⟨w.heap.size, 1, none⟩ = some (.string s)) := Lib.hid (fun W e => (World.cell?_of_block e).trans HZ.out)
  obtain ⟨q, hq⟩ : ∃ q, p.vm.delete s = q := ⟨_, rfl⟩
  obtain ⟨q', hq'⟩ : ∃ q, d.md.delete s = q := ⟨_, rfl⟩
  obtain ⟨m1, r⟩ := q
  obtain ⟨m2, r2⟩ := q'
  have HA := h.alike.delete s
  have HL : Le7 p.vm.fs (p.vm.delete s).1.fs dn 1048576 := le_does p.vm _ _ _ _ (erase_le _ _ _ _)
  have HKD : Kd d.md (d.md.delete s).1 := kd_does d.md _ _
  rw [hq] at HL
  rw [hq'] at HKD
  rw [hq, hq'] at HA
  obtain ⟨hr, HA⟩ := HA
  simp only at hr
  subst hr
  have HF := Lib.hid (And.intro HA (And.intro HKD HL))
  have hdn : d.done < 1099511627776 := by have : d.md.done ≤ k := h.done; have : d.md.done = d.done := rfl; omega
  have HCP : Hid (∀ W, Below w1.heap.size w1 W → Calls Try.prog 23 #[.pointer (some ⟨g, 0, none⟩), .string s] W fun en w' => en = .returned (.int .i64 r) ∧ PD w1 B C W0 g e w.heap.size d m1 w') := Lib.hid (fun W hb =>
    (delete_vm B g p p.vm m1 r s W (HT.out.ps.kept hb) rfl (by omega) hq).mono (fun en w' h => ⟨h.1, prog_does HT.out hb HLT.out HNO.out.1 h.2⟩))
  have HCR : Hid (∀ w2 W, PD w1 B C W0 g e w.heap.size d m1 w2 → Below w2.heap.size w2 W → Calls Try.prog 40 #[.pointer (some ⟨e, 0, none⟩), .string s] W fun en w' => en = .returned (.int .i64 r) ∧ RD w1 B C W0 g e w.heap.size m1 m2 w') := Lib.hid (fun w2 W hpd hb => by
    have hp : RefSt w2 C e d := by obtain ⟨_, _, _, h, _⟩ := hpd; exact h
    refine (refDelete_any C e d s W (hp.kept hb) (by omega) hdn).mono ?_
    rintro en w' ⟨h1, h2⟩
    rw [hq'] at h1 h2
    exact ⟨h1, ref_does hpd HT.out.lowB HT.out.lowC hb HNO.out.2 h2⟩)
  clear HA HKD HL hq hq' hdn h hkind
  go_enter Try.func14, Try.ntmps14
  go_upto_region 9 with fail
  go_region_held3 (fun W => W.cell? ⟨w.heap.size, 1, none⟩ = some (.string s)) (first | exact HK.out _ rfl | exact HK.out _ (PD.same E2.out) | exact HK.out _ (RD.same E3.out) | go_keep) (first
    | (go_at_call 23; refine (HCP.out _ (by repeat (first | exact Below.refl _ _ | refine Below.drew ?_))).mono ?_; rintro en w2 ⟨rfl, h2⟩; have E2 := Lib.hid h2; clear h2)
    | (go_at_call 40; refine (HCR.out _ _ E2.out (by repeat (first | exact Below.refl _ _ | refine Below.drew ?_))).mono ?_; rintro en w3 ⟨rfl, h3⟩; have E3 := Lib.hid h3; clear h3))
  all_goals
    go_wp2_with fail
    go_ret
    obtain ⟨p', d', hz⟩ := twin_next HT.out E3.out HF.out.1 HF.out.2.1 HF.out.2.2
    exact ⟨by simp, ((B1.out.mono HW.out).trans E3.out.below), p', d', keep, hz⟩
end

section
open Go.RowKit
open Go.Maps

/-- What is held may be more from here on. -/
theorem wpAnyH_less {P : Program} {ops : Array Oper} {Q : Exit → Act → World → Prop} {md : Region.Mode} {S S' : World → Prop} (hS : ∀ w, S' w → S w) : ∀ (fuel : Nat) (listed : Array Bool) (a : Act) (w : World), wpAnyH P md ops Q S' fuel listed a w → wpAnyH P md ops Q S fuel listed a w
  | 0, _, _, _, h => h
  | fuel + 1, _, _, _, h => ⟨h.1, fun i hi => wpOp_mono (fun a' w' h' => ⟨hS _ h'.1, wpAnyH_less hS fuel _ a' w' h'.2⟩) (h.2 i hi)⟩
theorem dump_rd {w3 W : World} {B C g e : Nat} {m : Vm} {p1 : Pk} {d1 : Dk} {nn : Nat} (h1 : PSt w3 B g p1) (h2 : p1.vm = m) (h3 : RefSt w3 C e d1) (h4 : d1.md.fs = m.fs) (hf : Fits m 0) (hn : m.fs.length = nn) (hb : Below w3.heap.size w3 W) :
    Calls Try.prog 16 #[.pointer (some ⟨g, 0, none⟩)] W fun en w' => ∃ (A : Option Addr) (c : Nat), en = .returned (.slice A nn c) ∧ Below w3.heap.size w3 w' ∧ ∀ X, Below w'.heap.size w' X → Calls Try.prog 15 #[.slice A nn c, .slice d1.A nn d1.c] X (Tells X true) := by
  refine (dump_n (h1.kept hb) h2 hf hn).mono ?_
  rintro en w' ⟨l', A, c, rfl, g1, g2, g3⟩
  refine ⟨A, c, rfl, hb.trans (g3.mono hb.size), fun X hX => ?_⟩
  have hd := ((h3.kept hb).kept g3).kept hX
  have hk := g2.below hX
  have e1 : l'.map Fl.rd = d1.l.map Fl.rd := g1.trans h4.symm
  have hl : l'.length = nn := by rw [← hn, ← g1, List.length_map]
  have hdl : d1.l.length = nn := by rw [← hn, ← h4]; exact (List.length_map ..).symm
  have hby : ∀ q ∈ l', Byt q.d.l := byt_rd e1 hd.byt
  have hnn : nn ≤ 140737488355328 := by have := hf.few; omega
  have := refSame_wide A d1.A l' d1.l nn nn c d1.c X hl hdl hk.row.lies hd.row.lies (hk.data.ins hby) (hd.data.ins hd.byt) hnn hnn
  rwa [show decide (l'.map Fl.rd = d1.l.map Fl.rd) = true by rw [e1]; simp] at this

set_option maxRecDepth 100000 in
set_option maxHeartbeats 8000000 in
theorem act0 (B C W0 g e : Nat) (p : Pk) (d : Dk) (keep : List Int) (k S : Nat) (kind : Int) (s t : ByteArray) (da : Option Addr) (dl : List Int) (dn dc : Nat) (ops room : Int) (K : Option Addr) (kn kc : Nat) (w : World) (h : Twin w B C W0 g e p d keep k S) (hk : k + 1 ≤ 1048576) (hS : S + dn ≤ 1048576) (hs : s.size ≤ 1048576) (hdn0 : dl.length = dn) (hIn : ∀ W, Below W0 w W → In W da dl dn dc) (hlo : dl ≠ [] → ∀ ad, da = some ad → ad.block < W0) (hkind : kind.tmod 7 = 0) :
    Calls Try.prog 14 #[.pointer (some ⟨g, 0, none⟩), .pointer (some ⟨e, 0, none⟩), .agg #[.int .i64 kind, .string s, .string t, .slice da dn dc, .int .i64 ops, .int .i64 room, .slice K kn kc]] w (Acted w B C W0 g e (k + 1) (S + dn)) := by
  obtain ⟨w1, hw1⟩ : ∃ w1, w.alloc (.cells #[.int .i64 kind, .string s, .string t, .slice da dn dc, .int .i64 ops, .int .i64 room, .slice K kn kc] 40) = w1 := ⟨_, rfl⟩
  have B1 : Hid (Below w.heap.size w w1) := Lib.hid (hw1 ▸ below_new _ _)
  have HW : Hid (W0 ≤ w.heap.size) := Lib.hid (by have := h.lowB; have := h.ps.low; have := h.ps.at_.lt; omega)
  have HT := Lib.hid (h.below B1.out)
  have HNO : Hid (¬ p.own g w.heap.size ∧ ¬ d.own e w.heap.size) := Lib.hid ⟨fun ho => by have := (h.ps.owned _ ho).2; omega, fun ho => by have := (h.rs.owned _ ho).2; omega⟩
  have HLT : Hid (w.heap.size < w1.heap.size) := Lib.hid (by rw [← hw1]; simp)
  have hx0 : kind.tmod 7 = 0 := hkind
  have x0 : w1.cell? ⟨w.heap.size, 0, none⟩ = some (.int .i64 kind) := by rw [← hw1]; exact lit_cell w _ _ 0
  have HZ : Hid (w1.cell? ⟨w.heap.size, 1, none⟩ = some (.string s) ∧ w1.cell? ⟨w.heap.size, 3, none⟩ = some (.slice da dn dc)) := Lib.hid (by rw [← hw1]; exact ⟨lit_cell w _ _ 1, lit_cell w _ _ 3⟩)
  have HK : Hid (∀ W : World, W.heap[w.heap.size]? = w1.heap[w.heap.size]? → W.cell? ⟨w.heap.size, 1, none⟩ = some (.string s) ∧ W.cell? ⟨w.heap.size, 3, none⟩ = some (.slice da dn dc)) := Lib.hid (fun W e => ⟨(World.cell?_of_block e).trans HZ.out.1, (World.cell?_of_block e).trans HZ.out.2⟩)
  obtain ⟨q, hq⟩ : ∃ q, p.vm.append s dl = q := ⟨_, rfl⟩
  obtain ⟨q', hq'⟩ : ∃ q, d.md.append s dl = q := ⟨_, rfl⟩
  obtain ⟨m1, r⟩ := q
  obtain ⟨m2, r2⟩ := q'
  have HA := h.alike.append s dl
  have HL : Le7 p.vm.fs (p.vm.append s dl).1.fs dn 1048576 := hdn0 ▸ le_append p.vm s dl _ hs
  have HKD : Kd d.md (d.md.append s dl).1 := kd_append d.md _ _
  rw [hq] at HL
  rw [hq'] at HKD
  rw [hq, hq'] at HA
  obtain ⟨hr, HA⟩ := HA
  simp only at hr
  subst hr
  have HF := Lib.hid (And.intro HA (And.intro HKD HL))
  have HFI : Hid (Fits m1 0) := Lib.hid (by
    have h1 := h.names
    have HL : Le7 p.vm.fs m1.fs dn 1048576 := HL
    exact ⟨by have := HL.few; have := h.few; omega, fun x hx => by have := long_le hx; have := HL.sum; have := h.sum; omega, fun x hx => by have := HL.names h1 x hx; omega⟩)
  obtain ⟨nn, hnn⟩ : ∃ nn, m1.fs.length = nn := ⟨_, rfl⟩
  have HNN := Lib.hid hnn
  have hdn : d.done < 1099511627776 := by have : d.md.done ≤ k := h.done; have : d.md.done = d.done := rfl; omega
  have HBY : Hid (∀ X, Below w1.heap.size w1 X → In X da dl dn dc) := Lib.hid (fun X hX => hIn X ((B1.out.mono HW.out).trans (hX.mono (by have := B1.out.size; have := HW.out; omega))))
  have HLO : Hid (W0 ≤ w1.heap.size) := Lib.hid (by have := B1.out.size; have := HW.out; omega)
  have HCP : Hid (∀ A5 c5 W, Row W w1.heap.size A5 c5 dl → Below w1.heap.size w1 W → Calls Try.prog 19 #[.pointer (some ⟨g, 0, none⟩), .string s, .slice A5 dn c5] W fun en w' => en = .returned (.int .i64 r) ∧ PD w1 B C W0 g e w.heap.size d m1 w') := Lib.hid (fun A5 c5 W hR hb =>
    (append_vm B g p p.vm m1 r s A5 dl dn c5 W (HT.out.ps.kept hb) rfl (by omega) hdn0 (HBY.out W hb).byt hR.lies (fun ad ha => ⟨fun ho => by have := (own_in hR ad ha).1; have := (HT.out.ps.owned _ ho).2; omega, (own_in hR ad ha).2⟩) (HT.out.fits (by omega) (by omega) dn (by omega)) (by have := h.sum; omega) (by omega) hq).mono (fun en w' h => ⟨h.1, prog_does HT.out hb HLT.out HNO.out.1 h.2⟩))
  have HCR : Hid (∀ w2 W, PD w1 B C W0 g e w.heap.size d m1 w2 → Below w2.heap.size w2 W → Calls Try.prog 26 #[.pointer (some ⟨e, 0, none⟩), .string s, .slice da dn dc] W fun en w' => en = .returned (.int .i64 r) ∧ RD w1 B C W0 g e w.heap.size m1 m2 w') := Lib.hid (fun w2 W hpd hb => by
    obtain ⟨p9, k1, -, hp, -, k5, -⟩ := id hpd
    have hBW : Below W0 w W := (B1.out.mono HW.out).trans (k5.trans (hb.mono (by have := k1.low; have := k1.at_.lt; have := h.lowB; omega)))
    have hfs : d.md.fs = p.vm.fs := h.alike.fs.symm
    have hmem : ∀ q ∈ d.l, q.d.l.length ≤ S := fun q hq => by
      have h1 : q.rd ∈ p.vm.fs := by rw [← hfs]; exact List.mem_map_of_mem hq
      have := long_le h1
      have := h.sum
      have e : q.rd.2.1.length = q.d.l.length := rfl
      omega
    have hlen : d.l.length ≤ k := by
      have : d.md.fs.length ≤ k := by rw [hfs]; exact h.few
      rwa [show d.md.fs = d.l.map Fl.rd from rfl, List.length_map] at this
    refine (refAppend_wide C e d s da dl dn dc W (hp.kept hb) (by omega) hdn (hIn W hBW) (fun hn ad ha => by have := hlo hn ad ha; have := h.lowC; omega) (fun q hq => by have := hmem q hq; omega) (by omega) (by omega)).mono ?_
    rintro en w' ⟨h1, h2⟩
    rw [hq'] at h1 h2
    exact ⟨h1, ref_does hpd HT.out.lowB HT.out.lowC hb HNO.out.2 h2⟩)
  have HDN : Hid (dl.length = dn) := Lib.hid hdn0
  have hdn4 : dn ≤ 1048576 := by omega
  clear HA HKD HL hq hq' hdn h hkind hnn hIn hlo hdn0
  have RA : Hid (Row (w1.alloc (.cells #[] 5)) w1.heap.size (some ⟨w1.heap.size, 0, none⟩) 0 []) := Lib.hid (step_append_new w1)
  have BA : Hid (Below w1.heap.size w1 (w1.alloc (.cells #[] 5))) := Lib.hid (below_new _ _)
  go_enter Try.func14, Try.ntmps14
  go_upto_region 3 with fail
  have HKB : Hid (∀ W : World, Below w1.heap.size w1 W → W.cell? ⟨w.heap.size, 1, none⟩ = some (.string s) ∧ W.cell? ⟨w.heap.size, 3, none⟩ = some (.slice da dn dc)) := Lib.hid (fun W hb => HK.out W (hb.block _ HLT.out))
  have hrr : (r == r) = true := by simp
  refine wp_region_held (S := fun W => W.cell? ⟨w.heap.size, 1, none⟩ = some (.string s) ∧ W.cell? ⟨w.heap.size, 3, none⟩ = some (.slice da dn dc)) (by kernel_rfl) ?_
  change wpAnyH _ _ _ _ _ _ _ _ (World.drew _)
  have s0 := HKB.out w1.drew (Below.refl _ _).drew
  refine wpAnyH_take (i := 0) (v := .pointer (some ⟨g, 0, none⟩)) rfl (by kernel_rfl) (by kernel_rfl) (by kernel_rfl) (fun _ _ _ h => h) (Or.inl ⟨by first | rfl | kernel_rfl, fun _ hS => by go_simp⟩) s0 ?_
  refine wpAnyH_take (i := 1) (v := .pointer (some ⟨w.heap.size, 1, none⟩)) rfl (by kernel_rfl) (by kernel_rfl) (by kernel_rfl) (fun _ _ _ h => h) (Or.inl ⟨by first | rfl | kernel_rfl, fun _ hS => by go_simp⟩) s0 ?_
  refine wpAnyH_take (i := 2) (v := .string s) rfl (by kernel_rfl) (by kernel_rfl) (by kernel_rfl) (fun _ _ _ h => h) (Or.inl ⟨by first | rfl | kernel_rfl, fun _ hS => by have := hS.1; go_simp⟩) s0 ?_
  refine wpAnyH_take (i := 4) (v := .pointer (some ⟨w.heap.size, 3, none⟩)) rfl (by kernel_rfl) (by kernel_rfl) (by kernel_rfl) (fun _ _ _ h => h) (Or.inl ⟨by first | rfl | kernel_rfl, fun _ hS => by go_simp⟩) s0 ?_
  refine wpAnyH_take (i := 5) (v := .slice da dn dc) rfl (by kernel_rfl) (by kernel_rfl) (by kernel_rfl) (fun _ _ _ h => h) (Or.inl ⟨by first | rfl | kernel_rfl, fun _ hS => by have := hS.2; go_simp⟩) s0 ?_
  refine wpAnyH_take (i := 8) (v := .pointer (some ⟨e, 0, none⟩)) rfl (by kernel_rfl) (by kernel_rfl) (by kernel_rfl) (fun _ _ _ h => h) (Or.inl ⟨by first | rfl | kernel_rfl, fun _ hS => by go_simp⟩) s0 ?_
  refine wpAnyH_take (i := 9) (v := .pointer (some ⟨w.heap.size, 1, none⟩)) rfl (by kernel_rfl) (by kernel_rfl) (by kernel_rfl) (fun _ _ _ h => h) (Or.inl ⟨by first | rfl | kernel_rfl, fun _ hS => by go_simp⟩) s0 ?_
  refine wpAnyH_take (i := 10) (v := .string s) rfl (by kernel_rfl) (by kernel_rfl) (by kernel_rfl) (fun _ _ _ h => h) (Or.inl ⟨by first | rfl | kernel_rfl, fun _ hS => by have := hS.1; go_simp⟩) s0 ?_
  refine wpAnyH_take (i := 11) (v := .pointer (some ⟨w.heap.size, 3, none⟩)) rfl (by kernel_rfl) (by kernel_rfl) (by kernel_rfl) (fun _ _ _ h => h) (Or.inl ⟨by first | rfl | kernel_rfl, fun _ hS => by go_simp⟩) s0 ?_
  refine wpAnyH_take (i := 12) (v := .slice da dn dc) rfl (by kernel_rfl) (by kernel_rfl) (by kernel_rfl) (fun _ _ _ h => h) (Or.inl ⟨by first | rfl | kernel_rfl, fun _ hS => by have := hS.2; go_simp⟩) s0 ?_
  refine wpAnyH_ready (rs := [3]) (by kernel_rfl) (by simp) ?_
  refine AllReadyH.cons rfl (fun K hK => ?_) AllReadyH.nil
  go_simp
  refine hK.out _ _ (HKB.out _ (by repeat (first | exact Below.refl _ _ | refine Below.drew ?_ | refine Below.alloc ?_ (Nat.le_refl _) _))) (fun _ => ?_)
  clear hK K
  try simp only [Act.put, List.setIfInBounds_toArray, List.set_cons_zero, List.set_cons_succ]
  refine wpAnyH_ready (rs := [6]) (by kernel_rfl) (by simp) ?_
  refine AllReadyH.cons rfl (fun K hK => ?_) AllReadyH.nil
  refine step_append_row _ (by rfl) (.tmp 23) (.tmp 25) (by rfl) w1.heap.size (some ⟨w1.heap.size, 0, none⟩) 0 [] dl da 0 dn dc (by first | rfl | simp [Act.eval]) (by first | rfl | simp [Act.eval]) rfl HDN.out (Row.kept (C := (w1.alloc (.cells #[] 5)).heap.size) RA.out (by repeat (first | exact Below.refl _ _ | refine Below.drew ?_)) (Nat.le_refl _)) (HBY.out _ (by repeat (first | exact Below.refl _ _ | refine Below.drew ?_ | refine Below.alloc ?_ (Nat.le_refl _) _))).bys (by first | exact BA.out.size | simp) (by have := HDN.out; simp only [List.length_nil]; omega) ?_
  intro A5 c5 w5 r5 b5
  have R5 := Lib.hid r5
  have B5 : Hid (Below w1.heap.size w1 w5) := Lib.hid ((by repeat (first | exact Below.refl _ _ | refine Below.drew ?_ | refine Below.alloc ?_ (Nat.le_refl _) _) : Below w1.heap.size w1 _).trans b5)
  clear r5 b5
  refine hK.out _ _ (HKB.out _ B5.out) (fun _ => ?_)
  clear hK K
  try simp only [Act.put, List.setIfInBounds_toArray]
  refine wpAnyH_ready (rs := [7]) (by kernel_rfl) (by simp) ?_
  refine AllReadyH.cons rfl (fun K hK => ?_) AllReadyH.nil
  go_simp
  go_at_call 19
  refine (HCP.out A5 c5 _ R5.out B5.out).mono ?_
  rintro en w2 ⟨rfl, h2⟩
  have E2 := Lib.hid h2
  clear h2
  refine hK.out _ _ (HK.out _ (PD.same E2.out)) (fun _ => ?_)
  clear hK K
  try simp only [Act.put, List.setIfInBounds_toArray, List.set_cons_zero, List.set_cons_succ]
  refine wpAnyH_ready (rs := [13]) (by kernel_rfl) (by simp) ?_
  refine AllReadyH.cons rfl (fun K hK => ?_) AllReadyH.nil
  go_simp
  go_at_call 26
  refine (HCR.out _ _ E2.out (Below.refl _ _)).mono ?_
  rintro en w3 ⟨rfl, p1, d1, h3⟩
  have E3 := Lib.hid h3
  have HD3 : Hid (d1.l.length = nn) := Lib.hid (by rw [← HNN.out, HF.out.1.fs, ← E3.out.2.2.2.1]; exact (List.length_map ..).symm)
  have c0 := E3.out.2.2.1.at_.cell.1
  rw [HD3.out] at c0
  clear h3
  have s3 := HK.out _ (RD.same (Exists.intro _ (Exists.intro _ E3.out)))
  refine hK.out _ _ s3 (fun _ => ?_)
  clear hK K
  try simp only [Act.put, List.setIfInBounds_toArray, List.set_cons_zero, List.set_cons_succ]
  refine wpAnyH_less (S' := fun W => (W.cell? ⟨w.heap.size, 1, none⟩ = some (.string s) ∧ W.cell? ⟨w.heap.size, 3, none⟩ = some (.slice da dn dc)) ∧ W.cell? ⟨e, 0, none⟩ = some (.slice d1.A nn d1.c)) (fun _ h => h.1) _ _ _ _ ?_
  refine wpAnyH_take (i := 14) (v := .bool true) rfl (by kernel_rfl) (by kernel_rfl) (by kernel_rfl) (fun _ _ _ h => h) (Or.inl ⟨by first | rfl | kernel_rfl, fun _ hS => by go_simp⟩) ⟨s3, c0⟩ ?_
  refine wpAnyH_take (i := 15) (v := .bool true) rfl (by kernel_rfl) (by kernel_rfl) (by kernel_rfl) (fun _ _ _ h => h) (Or.inl ⟨by first | rfl | kernel_rfl, fun _ hS => by go_simp⟩) ⟨s3, c0⟩ ?_
  refine wpAnyH_take (i := 16) (v := .pointer (some ⟨g, 0, none⟩)) rfl (by kernel_rfl) (by kernel_rfl) (by kernel_rfl) (fun _ _ _ h => h) (Or.inl ⟨by first | rfl | kernel_rfl, fun _ hS => by go_simp⟩) ⟨s3, c0⟩ ?_
  refine wpAnyH_take (i := 18) (v := .pointer (some ⟨e, 0, none⟩)) rfl (by kernel_rfl) (by kernel_rfl) (by kernel_rfl) (fun _ _ _ h => h) (Or.inl ⟨by first | rfl | kernel_rfl, fun _ hS => by go_simp⟩) ⟨s3, c0⟩ ?_
  refine wpAnyH_take (i := 19) (v := .pointer (some ⟨e, 0, none⟩)) rfl (by kernel_rfl) (by kernel_rfl) (by kernel_rfl) (fun _ _ _ h => h) (Or.inl ⟨by first | rfl | kernel_rfl, fun _ hS => by go_simp⟩) ⟨s3, c0⟩ ?_
  refine wpAnyH_take (i := 20) (v := .pointer (some ⟨e, 0, none⟩)) rfl (by kernel_rfl) (by kernel_rfl) (by kernel_rfl) (fun _ _ _ h => h) (Or.inl ⟨by first | rfl | kernel_rfl, fun _ hS => by go_simp⟩) ⟨s3, c0⟩ ?_
  refine wpAnyH_take (i := 21) (v := .slice d1.A nn d1.c) rfl (by kernel_rfl) (by kernel_rfl) (by kernel_rfl) (fun _ _ _ h => h) (Or.inl ⟨by first | rfl | kernel_rfl, fun _ hS => by have := hS.2; go_simp⟩) ⟨s3, c0⟩ ?_
  refine wpAnyH_ready (rs := [17]) (by kernel_rfl) (by simp) ?_
  refine AllReadyH.cons rfl (fun K hK => ?_) AllReadyH.nil
  go_simp
  go_at_call 16
  refine (dump_rd E3.out.1 E3.out.2.1 E3.out.2.2.1 (by rw [E3.out.2.2.2.1]; exact HF.out.1.fs.symm) HFI.out HNN.out (Below.refl _ _)).mono ?_
  rintro en w4 ⟨A4, c4, rfl, h41, h42⟩
  have E4 : Hid (w4.heap[w.heap.size]? = w1.heap[w.heap.size]? ∧ Below w3.heap.size w3 w4 ∧ ∀ X, Below w4.heap.size w4 X → Calls Try.prog 15 #[.slice A4 nn c4, .slice d1.A nn d1.c] X (Tells X true)) := Lib.hid ⟨(h41.block _ E3.out.2.2.2.2.2.2.2.1).trans E3.out.2.2.2.2.2.2.1, h41, h42⟩
  have c1 := (E3.out.2.2.1.kept h41).at_.cell.1
  rw [HD3.out] at c1
  clear h41 h42
  refine hK.out _ _ ⟨HK.out _ E4.out.1, c1⟩ (fun _ => ?_)
  clear hK K
  try simp only [Act.put, List.setIfInBounds_toArray, List.set_cons_zero, List.set_cons_succ]
  refine wpAnyH_ready (rs := [22]) (by kernel_rfl) (by simp) ?_
  refine AllReadyH.cons rfl (fun K hK => ?_) AllReadyH.nil
  go_simp
  go_at_call 15
  refine (E4.out.2.2 _ (Below.refl _ _)).mono ?_
  rintro en w6 ⟨rfl, h6⟩
  have E6 : Hid (Below w3.heap.size w3 w6) := Lib.hid (E4.out.2.1.trans (h6.mono E4.out.2.1.size))
  have s6 := HK.out _ ((h6.block _ (by have := E4.out.2.1.size; have := E3.out.2.2.2.2.2.2.2.1; omega)).trans E4.out.1)
  have c6 := (E3.out.2.2.1.kept E6.out).at_.cell.1
  rw [HD3.out] at c6
  clear h6
  refine hK.out _ _ ⟨s6, c6⟩ (fun _ => ?_)
  clear hK K
  try simp only [Act.put, List.setIfInBounds_toArray, List.set_cons_zero, List.set_cons_succ]
  refine wpAnyH_take (i := 23) (v := .bool true) rfl (by kernel_rfl) (by kernel_rfl) (by kernel_rfl) (fun _ _ _ h => h) (Or.inl ⟨by first | rfl | kernel_rfl, fun _ hS => by go_simp⟩) ⟨s6, c6⟩ ?_
  refine wpAnyH_take (i := 24) (v := .bool true) rfl (by kernel_rfl) (by kernel_rfl) (by kernel_rfl) (fun _ _ _ h => h) (Or.inl ⟨by first | rfl | kernel_rfl, fun _ hS => by go_simp⟩) ⟨s6, c6⟩ ?_
  refine wpAnyH_done (by kernel_rfl) ?_ _
  try simp only [Act.put, List.setIfInBounds_toArray]
  go_wp2_with fail
  go_ret
  obtain ⟨p', d', hz⟩ := twin_next HT.out ⟨p1, d1, E3.out⟩ HF.out.1 HF.out.2.1 HF.out.2.2
  have hlow : W0 ≤ w3.heap.size := by have := hz.lowB; have := hz.ps.low; have := hz.ps.at_.lt; omega
  exact ⟨by simp, ((B1.out.mono HW.out).trans E3.out.2.2.2.2.2.1).trans (E6.out.mono hlow), p', d', keep, hz.below E6.out⟩
end

section
open Go.RowKit
open Go.Maps

theorem byt_data {s : ByteArray} {fs : List Rd} (h : ∀ x ∈ fs, Byt x.2.1) : Byt (dataM s fs) := by
  unfold dataM
  cases findM s fs with
  | none => exact Byt.nil
  | some i =>
    cases hq : fs[i]? with
    | none => simp only [hq]; exact Byt.nil
    | some p => simp only [hq]; exact h p (List.mem_of_getElem? hq)
theorem byt_read {m : Vm} {s : ByteArray} (h : ∀ x ∈ m.fs, Byt x.2.1) : Byt (m.read s).1 := by
  unfold Vm.read
  split
  · exact Byt.nil
  · exact byt_data h
theorem twin_stays {w w' : World} {B C W0 g e : Nat} {p : Pk} {d : Dk} {keep : List Int} {k S c : Nat} (h : Twin w B C W0 g e p d keep k S) (hb : Below w.heap.size w w') : Below W0 w w' ∧ ∃ p' d' keep', Twin w' B C W0 g e p' d' keep' (k + 1) (S + c) :=
  ⟨hb.mono (by have := h.lowB; have := h.ps.low; have := h.ps.at_.lt; omega), p, d, keep, (h.below hb).more (by omega) (by omega)⟩

set_option maxRecDepth 100000 in
set_option maxHeartbeats 8000000 in
theorem act4 (B C W0 g e : Nat) (p : Pk) (d : Dk) (keep : List Int) (k S : Nat) (kind : Int) (s t : ByteArray) (da : Option Addr) (dn dc : Nat) (ops room : Int) (K : Option Addr) (kn kc : Nat) (w : World) (h : Twin w B C W0 g e p d keep k S) (hk : k ≤ 2097152) (hS : S ≤ 2097152) (hs : s.size ≤ 1048576) (hkind : kind.tmod 7 = 4) :
    Calls Try.prog 14 #[.pointer (some ⟨g, 0, none⟩), .pointer (some ⟨e, 0, none⟩), .agg #[.int .i64 kind, .string s, .string t, .slice da dn dc, .int .i64 ops, .int .i64 room, .slice K kn kc]] w (Acted w B C W0 g e (k + 1) (S + dn)) := by
  obtain ⟨w1, hw1⟩ : ∃ w1, w.alloc (.cells #[.int .i64 kind, .string s, .string t, .slice da dn dc, .int .i64 ops, .int .i64 room, .slice K kn kc] 40) = w1 := ⟨_, rfl⟩
  have B1 : Hid (Below w.heap.size w w1) := Lib.hid (hw1 ▸ below_new _ _)
  have HT := Lib.hid h
  have HLT : Hid (w.heap.size < w1.heap.size) := Lib.hid (by rw [← hw1]; simp)
  have hx0 : kind.tmod 7 = 4 := hkind
  have x0 : w1.cell? ⟨w.heap.size, 0, none⟩ = some (.int .i64 kind) := by rw [← hw1]; exact lit_cell w _ _ 0
  have x1 : w1.cell? ⟨w.heap.size, 1, none⟩ = some (.string s) := by rw [← hw1]; exact lit_cell w _ _ 1
  have HZ := Lib.hid x1
  have HK : Hid (∀ W : World, Below w1.heap.size w1 W → W.cell? ⟨w.heap.size, 1, none⟩ = some (.string s)) := Lib.hid (fun W hb => (World.cell?_of_block (hb.block _ HLT.out)).trans HZ.out)
  obtain ⟨q, hq⟩ : ∃ q, p.vm.read s = q := ⟨_, rfl⟩
  obtain ⟨L, r⟩ := q
  obtain ⟨ln, hln⟩ : ∃ ln, L.length = ln := ⟨_, rfl⟩
  have HBY : Hid (Byt L) := Lib.hid (by
    have h1 := byt_read (m := p.vm) (s := s) (fun x hx => by
      obtain ⟨q, hq, rfl⟩ := List.mem_map.1 hx
      exact (h.ps.inn.file q hq).byt)
    rw [hq] at h1
    exact h1)
  have hq2 : d.md.read s = (L, r) := by rw [← h.alike.read]; exact hq
  have HCP : Hid (∀ W, Below w1.heap.size w1 W → Calls Try.prog 24 #[.pointer (some ⟨g, 0, none⟩), .string s] W fun en w' => ∃ A c, en = .returned (.tuple #[.slice A ln c, .int .i64 r]) ∧ Bys w' A L ∧ Below W.heap.size W w') := Lib.hid (fun W hb => by
    refine (read_vm B g p p.vm s W (L, r) ((h.ps.kept B1.out).kept hb) rfl (by omega) ((h.fits hk hS 0 (by omega))) hq).mono ?_
    rintro en w' ⟨A, c, he, h1, h2⟩
    exact ⟨A, c, by rw [he]; simp only [hln], h1.lies, h2⟩)
  have HCR : Hid (∀ W, Below w1.heap.size w1 W → Calls Try.prog 41 #[.pointer (some ⟨e, 0, none⟩), .string s] W fun en w' => ∃ A c, en = .returned (.tuple #[.slice A ln c, .int .i64 r]) ∧ Bys w' A L ∧ Below W.heap.size W w') := Lib.hid (fun W hb => by
    refine (refReadF_any C e d s W ((h.rs.kept B1.out).kept hb) (by omega)).mono ?_
    rintro en w' ⟨A, c, he, h1, h2⟩
    rw [hq2] at he h1
    exact ⟨A, c, by rw [he]; simp only [hln], h1.lies, h2⟩)
  have HSM : Hid (∀ A A' c c' W, Bys W A L → Bys W A' L → Calls Try.prog 18 #[.slice A ln c, .slice A' ln c'] W fun en w' => en = .returned (.bool true) ∧ W = w') := Lib.hid (fun A A' c c' W h1 h2 => by
    have := sameB_any A A' L L ln ln c c' W hln hln h1 h2 HBY.out HBY.out
    rwa [decide_eq_true rfl] at this)
  clear hq hq2 hln h hkind
  have hrr : (r == r) = true := by simp
  go_enter Try.func14, Try.ntmps14
  go_wp2_with (first
    | (go_at_call 24; refine (HCP.out _ (by repeat (first | exact Below.refl _ _ | refine Below.drew ?_))).mono ?_; rintro en w2 ⟨A2, c2, rfl, h2, b2⟩; have B2 : Hid (Below w1.heap.size w1 w2) := Lib.hid ((by repeat (first | exact Below.refl _ _ | refine Below.drew ?_) : Below w1.heap.size w1 _).trans b2); have R2 := Lib.hid h2; have x2 := HK.out _ B2.out; clear h2 b2)
    | (go_at_call 41; refine (HCR.out _ (by repeat (first | exact B2.out | refine Below.drew ?_))).mono ?_; rintro en w3 ⟨A3, c3, rfl, h3, b3⟩; have B3 : Hid (Below w1.heap.size w1 w3) := Lib.hid (B2.out.trans (((by repeat (first | exact Below.refl _ _ | refine Below.drew ?_) : Below w2.heap.size w2 _).trans b3).mono B2.out.size)); have R3 : Hid (Bys w3 A2 L ∧ Bys w3 A3 L) := Lib.hid ⟨R2.out.kept ((by repeat (first | exact Below.refl _ _ | refine Below.drew ?_) : Below w2.heap.size w2 _).trans b3), h3⟩; clear h3 b3)
    | (go_at_call 18; refine (HSM.out _ _ _ _ _ (by first | exact R3.out.1 | exact R3.out.1.kept (Below.refl _ _).drew) (by first | exact R3.out.2 | exact R3.out.2.kept (Below.refl _ _).drew)).mono ?_; rintro en w4 ⟨rfl, rfl⟩))
  go_ret
  have hbb : Below w.heap.size w _ := B1.out.trans ((by repeat (first | exact B3.out | refine Below.drew ?_) : Below w1.heap.size w1 _).mono B1.out.size)
  exact ⟨by simp, twin_stays HT.out hbb⟩

set_option maxRecDepth 100000 in
set_option maxHeartbeats 8000000 in
theorem act5 (B C W0 g e : Nat) (p : Pk) (d : Dk) (keep : List Int) (k S : Nat) (kind : Int) (s t : ByteArray) (da : Option Addr) (dn dc : Nat) (ops room : Int) (K : Option Addr) (kn kc : Nat) (w : World) (h : Twin w B C W0 g e p d keep k S) (hk : k ≤ 1048576) (hS : S ≤ 2097152) (_hs : s.size ≤ 1048576) (hkind : kind.tmod 7 = 5) :
    Calls Try.prog 14 #[.pointer (some ⟨g, 0, none⟩), .pointer (some ⟨e, 0, none⟩), .agg #[.int .i64 kind, .string s, .string t, .slice da dn dc, .int .i64 ops, .int .i64 room, .slice K kn kc]] w (Acted w B C W0 g e (k + 1) (S + dn)) := by
  obtain ⟨w1, hw1⟩ : ∃ w1, w.alloc (.cells #[.int .i64 kind, .string s, .string t, .slice da dn dc, .int .i64 ops, .int .i64 room, .slice K kn kc] 40) = w1 := ⟨_, rfl⟩
  have B1 : Hid (Below w.heap.size w w1) := Lib.hid (hw1 ▸ below_new _ _)
  have HT := Lib.hid h
  have HLT : Hid (w.heap.size < w1.heap.size) := Lib.hid (by rw [← hw1]; simp)
  have hx0 : kind.tmod 7 = 5 := hkind
  have x0 : w1.cell? ⟨w.heap.size, 0, none⟩ = some (.int .i64 kind) := by rw [← hw1]; exact lit_cell w _ _ 0
  have x1 : w1.cell? ⟨w.heap.size, 1, none⟩ = some (.string s) := by rw [← hw1]; exact lit_cell w _ _ 1
  have HZ := Lib.hid x1
  have HK : Hid (∀ W : World, Below w1.heap.size w1 W → W.cell? ⟨w.heap.size, 1, none⟩ = some (.string s)) := Lib.hid (fun W hb => (World.cell?_of_block (hb.block _ HLT.out)).trans HZ.out)
  obtain ⟨q, hq⟩ : ∃ q, p.vm.list = q := ⟨_, rfl⟩
  obtain ⟨L, r⟩ := q
  obtain ⟨ln, hln⟩ : ∃ ln, L.length = ln := ⟨_, rfl⟩
  have hlen : ln ≤ 1048576 := by
    have h1 : p.vm.list.1.length ≤ p.vm.fs.length := by
      unfold Vm.list
      split
      · exact Nat.zero_le _
      · exact Nat.le_of_eq (List.length_map ..)
    rw [hq] at h1
    have := h.few
    have h2 : L.length ≤ p.vm.fs.length := h1
    omega
  have hq2 : d.md.list = (L, r) := by rw [← h.alike.list]; exact hq
  have HCP : Hid (∀ W, Below w1.heap.size w1 W → Calls Try.prog 25 #[.pointer (some ⟨g, 0, none⟩)] W fun en w' => ∃ A c, en = .returned (.tuple #[.slice A ln c, .int .i64 r]) ∧ Lies w' A (L.map Value.string) ∧ Below W.heap.size W w') := Lib.hid (fun W hb => by
    refine (list_vm B g p p.vm W (L, r) ((h.ps.kept B1.out).kept hb) rfl (h.fits (by omega) hS 0 (by omega)) hq).mono ?_
    rintro en w' ⟨A, c, he, h1, h2⟩
    exact ⟨A, c, by rw [he]; simp only [hln], h1.lies, h2⟩)
  have HCR : Hid (∀ W, Below w1.heap.size w1 W → Calls Try.prog 42 #[.pointer (some ⟨e, 0, none⟩)] W fun en w' => ∃ A c, en = .returned (.tuple #[.slice A ln c, .int .i64 r]) ∧ Lies w' A (L.map Value.string) ∧ Below W.heap.size W w') := Lib.hid (fun W hb => by
    refine (refList_any C e d W ((h.rs.kept B1.out).kept hb)).mono ?_
    rintro en w' ⟨A, c, he, h1, h2⟩
    rw [hq2] at he h1
    exact ⟨A, c, by rw [he]; simp only [hln], h1.lies, h2⟩)
  have HSM : Hid (∀ A A' c c' W, Lies W A (L.map Value.string) → Lies W A' (L.map Value.string) → Calls Try.prog 43 #[.slice A ln c, .slice A' ln c'] W (Tells W true)) := Lib.hid (fun A A' c c' W h1 h2 => sameTexts_any A A' L ln c c' W hln h1 h2 hlen)
  clear hq hq2 hln h hkind
  have hrr : (r == r) = true := by simp
  go_enter Try.func14, Try.ntmps14
  go_wp2_with (first
    | (go_at_call 25; refine (HCP.out _ (by repeat (first | exact Below.refl _ _ | refine Below.drew ?_))).mono ?_; rintro en w2 ⟨A2, c2, rfl, h2, b2⟩; have B2 : Hid (Below w1.heap.size w1 w2) := Lib.hid ((by repeat (first | exact Below.refl _ _ | refine Below.drew ?_) : Below w1.heap.size w1 _).trans b2); have R2 := Lib.hid h2; have x2 := HK.out _ B2.out; clear h2 b2)
    | (go_at_call 42; refine (HCR.out _ (by repeat (first | exact B2.out | refine Below.drew ?_))).mono ?_; rintro en w3 ⟨A3, c3, rfl, h3, b3⟩; have B3 : Hid (Below w1.heap.size w1 w3) := Lib.hid (B2.out.trans (((by repeat (first | exact Below.refl _ _ | refine Below.drew ?_) : Below w2.heap.size w2 _).trans b3).mono B2.out.size)); have R3 : Hid (Lies w3 A2 (L.map Value.string) ∧ Lies w3 A3 (L.map Value.string)) := Lib.hid ⟨R2.out.kept ((by repeat (first | exact Below.refl _ _ | refine Below.drew ?_) : Below w2.heap.size w2 _).trans b3), h3⟩; clear h3 b3)
    | (go_at_call 43; refine (HSM.out _ _ _ _ _ (by first | exact R3.out.1 | exact R3.out.1.kept (Below.refl _ _).drew) (by first | exact R3.out.2 | exact R3.out.2.kept (Below.refl _ _).drew)).mono ?_; rintro en w4 ⟨rfl, h4⟩; have B4 : Hid (Below w1.heap.size w1 w4) := Lib.hid (B3.out.trans (((by repeat (first | exact Below.refl _ _ | refine Below.drew ?_) : Below w3.heap.size w3 _).trans h4).mono B3.out.size)); clear h4))
  go_ret
  have hbb : Below w.heap.size w _ := B1.out.trans ((by repeat (first | exact B4.out | refine Below.drew ?_) : Below w1.heap.size w1 _).mono B1.out.size)
  exact ⟨by simp, twin_stays HT.out hbb⟩
end

end Go.Proofs.Ytjacjafpeajhaaa
