/-
  Walks: a nil disk; what each call answers and leaves, by what is read of the disk alone.
-/
import Derived.Test.YtjacjafpeajhaaaPgQ
namespace Go.Proofs.Ytjacjafpeajhaaa
open Go.RowKit
open Go.Maps

set_option maxHeartbeats 2000000 in
theorem find_nil (s : ByteArray) (w : World) : Calls Try.prog 51 #[.pointer none, .string s] w fun e w' => e = .returned (.tuple #[.pointer none, .int .i64 1]) ∧ Below w.heap.size w w' := by
  have HB := Lib.hid (below_new w (.cells #[.string s] 9))
  have HR := Lib.hid (ready_nil (some ⟨w.heap.size, 0, none⟩) 1 1 (w.alloc (.cells #[.string s] 9)))
  go_enter Try.func51, Try.ntmps51
  go_wp2_with (go_at_call 47; refine HR.out.mono ?_; rintro e w1 ⟨rfl, hw⟩; subst hw)
  go_ret2
  exact ⟨rfl, HB.out⟩
set_option maxHeartbeats 2000000 in
theorem change_nil (s : ByteArray) (w : World) : Calls Try.prog 49 #[.pointer none, .string s] w fun e w' => e = .returned (.tuple #[.pointer none, .int .i64 1]) ∧ Below w.heap.size w w' := by
  have HF := Lib.hid (find_nil s w)
  go_enter Try.func49, Try.ntmps49
  go_wp2_with (go_at_call 51; refine HF.out.mono ?_; rintro e w1 ⟨rfl, hb⟩; have B1 := Lib.hid hb; clear hb)
  go_ret2
  exact ⟨rfl, B1.out⟩
set_option maxHeartbeats 2000000 in
theorem sync_nil (s : ByteArray) (w : World) : Calls Try.prog 21 #[.pointer none, .string s] w fun e w' => e = .returned (.int .i64 1) ∧ Below w.heap.size w w' := by
  have HF := Lib.hid (change_nil s w)
  go_enter Try.func21, Try.ntmps21
  go_wp2_with (go_at_call 49; refine HF.out.mono ?_; rintro e w1 ⟨rfl, hb⟩; have B1 := Lib.hid hb; clear hb)
  go_ret
  exact ⟨rfl, B1.out⟩
set_option maxHeartbeats 2000000 in
theorem delete_nil (s : ByteArray) (w : World) : Calls Try.prog 23 #[.pointer none, .string s] w fun e w' => e = .returned (.int .i64 1) ∧ Below w.heap.size w w' := by
  have HF := Lib.hid (change_nil s w)
  go_enter Try.func23, Try.ntmps23
  go_wp2_with (go_at_call 49; refine HF.out.mono ?_; rintro e w1 ⟨rfl, hb⟩; have B1 := Lib.hid hb; clear hb)
  go_ret
  exact ⟨rfl, B1.out⟩
set_option maxHeartbeats 2000000 in
theorem rename_nil (s t : ByteArray) (w : World) : Calls Try.prog 22 #[.pointer none, .string s, .string t] w fun e w' => e = .returned (.int .i64 1) ∧ Below w.heap.size w w' := by
  have HB := Lib.hid (below_new w (.cells #[.string s, .string t] 9))
  have HR := Lib.hid (ready_nil (some ⟨w.heap.size, 0, none⟩) 2 2 (w.alloc (.cells #[.string s, .string t] 9)))
  go_enter Try.func22, Try.ntmps22
  go_wp2_with (go_at_call 47; refine HR.out.mono ?_; rintro e w1 ⟨rfl, hw⟩; subst hw)
  go_ret
  exact ⟨rfl, HB.out⟩
set_option maxHeartbeats 2000000 in
theorem append_nil (s : ByteArray) (v : Value) (w : World) : Calls Try.prog 19 #[.pointer none, .string s, v] w fun e w' => e = .returned (.int .i64 1) ∧ Below w.heap.size w w' := by
  have HB := Lib.hid (below_new w (.cells #[.string s] 9))
  have HR := Lib.hid (ready_nil (some ⟨w.heap.size, 0, none⟩) 1 1 (w.alloc (.cells #[.string s] 9)))
  go_enter Try.func19, Try.ntmps19
  go_wp2_with (go_at_call 47; refine HR.out.mono ?_; rintro e w1 ⟨rfl, hw⟩; subst hw)
  go_ret
  exact ⟨rfl, HB.out⟩
set_option maxHeartbeats 2000000 in
theorem read_nil (s : ByteArray) (w : World) : Calls Try.prog 24 #[.pointer none, .string s] w fun e w' => e = .returned (.tuple #[.slice none 0 0, .int .i64 1]) ∧ Below w.heap.size w w' := by
  have HF := Lib.hid (find_nil s w)
  go_enter Try.func24, Try.ntmps24
  go_wp2_with (go_at_call 51; refine HF.out.mono ?_; rintro e w1 ⟨rfl, hb⟩; have B1 := Lib.hid hb; clear hb)
  go_ret2
  exact ⟨rfl, B1.out⟩
set_option maxHeartbeats 2000000 in
theorem list_nil (w : World) : Calls Try.prog 25 #[.pointer none] w fun e w' => e = .returned (.tuple #[.slice none 0 0, .int .i64 1]) ∧ w = w' := by
  have HR := Lib.hid (ready_nil none 0 0 w)
  go_enter Try.func25, Try.ntmps25
  go_wp2_with (go_at_call 47; refine HR.out.mono ?_; rintro e w1 ⟨rfl, hw⟩; subst hw)
  go_ret2
  exact ⟨rfl, rfl⟩

/-- It fits, with so many bytes more. -/
structure Fits (m : Vm) (N : Nat) : Prop where
  few : m.fs.length * 48 ≤ 140737488355328
  long : ∀ x ∈ m.fs, x.2.1.length + N ≤ 140737488355328
  names : ∀ x ∈ m.fs, x.1.size ≤ 140737488355328
theorem vm_len {p : Pk} {m : Vm} (h : p.vm = m) : p.l.length = m.fs.length := by
  subst h
  show _ = (p.l.map Pf.rd).length
  rw [List.length_map]
theorem vm_mem {p : Pk} {m : Vm} (h : p.vm = m) {q : Pf} (hq : q ∈ p.l) : q.rd ∈ m.fs := by
  subst h
  exact List.mem_map_of_mem hq
theorem vm_sum {p : Pk} {m : Vm} (h : p.vm = m) : sumP p.l = (sumM m.fs : Nat) := by
  subst h
  rfl
theorem Fits.pf {p : Pk} {m : Vm} {N : Nat} (h : p.vm = m) (hf : Fits m N) : p.l.length * 48 ≤ 140737488355328 ∧ (∀ q ∈ p.l, q.d.l.length + N ≤ 140737488355328) ∧ ∀ q ∈ p.l, q.s.size ≤ 140737488355328 := by
  refine ⟨?_, fun q hq => ?_, fun q hq => ?_⟩
  · rw [vm_len h]
    exact hf.few
  · exact hf.long _ (vm_mem h hq)
  · exact hf.names _ (vm_mem h hq)

theorem read_vm (B g : Nat) (p : Pk) (m : Vm) (s : ByteArray) (w : World) (r : List Int × Int) (h : PSt w B g p) (hv : p.vm = m) (hs : s.size ≤ 140737488355328) (hf : Fits m 0) (hr : m.read s = r) :
    Calls Try.prog 24 #[.pointer (some ⟨g, 0, none⟩), .string s] w (Gets w r) := by
  subst hv
  subst hr
  exact read_any B g p s w h hs (fun q hq => by have := (hf.pf rfl).2.1 q hq; omega)
theorem list_vm (B g : Nat) (p : Pk) (m : Vm) (w : World) (r : List ByteArray × Int) (h : PSt w B g p) (hv : p.vm = m) (hf : Fits m 0) (hr : m.list = r) :
    Calls Try.prog 25 #[.pointer (some ⟨g, 0, none⟩)] w (Lists w r) := by
  subst hv
  subst hr
  exact list_any B g p w h (by have := (hf.pf rfl).1; omega)
theorem sync_vm (B g : Nat) (p : Pk) (m m' : Vm) (r : Int) (s : ByteArray) (w : World) (h : PSt w B g p) (hv : p.vm = m) (hs : s.size ≤ 140737488355328) (hr : m.sync s = (m', r)) :
    Calls Try.prog 21 #[.pointer (some ⟨g, 0, none⟩), .string s] w fun e w' => e = .returned (.int .i64 r) ∧ Rest w B g p m' w' := by
  subst hv
  have := sync_any B g p s w h hs
  rwa [hr] at this
theorem delete_vm (B g : Nat) (p : Pk) (m m' : Vm) (r : Int) (s : ByteArray) (w : World) (h : PSt w B g p) (hv : p.vm = m) (hs : s.size ≤ 140737488355328) (hr : m.delete s = (m', r)) :
    Calls Try.prog 23 #[.pointer (some ⟨g, 0, none⟩), .string s] w fun e w' => e = .returned (.int .i64 r) ∧ Rest w B g p m' w' := by
  subst hv
  have := delete_any B g p s w h hs
  rwa [hr] at this
theorem rename_vm (B g : Nat) (p : Pk) (m m' : Vm) (r : Int) (s t : ByteArray) (w : World) (h : PSt w B g p) (hv : p.vm = m) (hs : s.size ≤ 140737488355328) (ht : t.size ≤ 140737488355328) (hf : m.fs.length * 48 ≤ 140737488355328) (hr : m.rename s t = (m', r)) :
    Calls Try.prog 22 #[.pointer (some ⟨g, 0, none⟩), .string s, .string t] w fun e w' => e = .returned (.int .i64 r) ∧ Rest w B g p m' w' := by
  have hl := vm_len hv
  subst hv
  have := rename_any B g p s t w h hs ht (by unfold maxLen; omega)
  rwa [hr] at this
theorem append_vm (B g : Nat) (p : Pk) (m m' : Vm) (r : Int) (s : ByteArray) (bA : Option Addr) (b : List Int) (n bc : Nat) (w : World) (h : PSt w B g p) (hv : p.vm = m) (hs : s.size ≤ 140737488355328) (hbl : b.length = n) (hbb : Byt b) (hby : Bys w bA b) (hbo : ∀ ad, bA = some ad → ¬ p.own g ad.block ∧ ad.block < w.heap.size) (hf : Fits m n) (hsum : sumM m.fs + n ≤ 4611686018427387904) (hn : n ≤ 140737488355328) (hr : m.append s b = (m', r)) :
    Calls Try.prog 19 #[.pointer (some ⟨g, 0, none⟩), .string s, .slice bA n bc] w fun e w' => e = .returned (.int .i64 r) ∧ Rest w B g p m' w' := by
  have hl := vm_len hv
  have hsm := vm_sum hv
  have hp := hf.pf hv
  have hfw := hf.few
  subst hv
  have := append_any B g p s bA b n bc w h hs hbl hbb hby hbo (by rw [hsm]; omega) hp.2.1 hn (by unfold maxLen; omega)
  rwa [hr] at this
theorem dump_vm (B g : Nat) (p : Pk) (m : Vm) (w : World) (h : PSt w B g p) (hv : p.vm = m) (hf : Fits m 0) : Calls Try.prog 16 #[.pointer (some ⟨g, 0, none⟩)] w (Dumped w m.fs) := by
  subst hv
  exact dump_any B g p w h (hf.pf rfl).1 (fun q hq => by have := (hf.pf rfl).2.1 q hq; omega) (hf.pf rfl).2.2
/-- No more is synced of a file than it has. -/
def Sane (fs : List (ByteArray × List Int × Int)) : Prop := ∀ x ∈ fs, 0 ≤ x.2.2 ∧ x.2.2 ≤ x.2.1.length
theorem revive_vm (B g : Nat) (p : Pk) (m m' : Vm) (ops room : Int) (A : Option Addr) (keep : List Int) (kn kc : Nat) (w : World) (h : PSt w B g p) (hv : p.vm = m) (hsy : Sane m.fs) (hf : Fits m 0)
    (hn : keep.length = kn) (hk : Ints w A keep) (hko : ∀ ad, A = some ad → ¬ p.own g ad.block) (hkl : kn * 8 ≤ 140737488355328)
    (hi : ∀ x ∈ keep, -9223372036854775808 ≤ x ∧ x ≤ 9223372036854775807) (ho : -9223372036854775808 ≤ ops ∧ ops ≤ 9223372036854775807) (hm : -9223372036854775808 ≤ room ∧ room ≤ 9223372036854775807) (hr : m.revive ops room keep = m') :
    Calls Try.prog 17 #[.pointer (some ⟨g, 0, none⟩), .agg #[.int .i64 ops, .int .i64 room, .slice A kn kc]] w fun e w' => e = .returned (.int .i64 0) ∧ Rest w B g p m' w' := by
  subst hv
  subst hr
  exact revive_any B g p ops room A keep kn kc w h (fun q hq => hsy _ (List.mem_map_of_mem hq)) (hf.pf rfl).1 (fun q hq => by have := (hf.pf rfl).2.1 q hq; omega) (hf.pf rfl).2.2 hn hk hko hkl hi ho hm
theorem Rest.below {w w' : World} {B g : Nat} {p : Pk} {m : Vm} (hP : PSt w B g p) (h : Rest w B g p m w') : Below B w w' := by
  obtain ⟨p', h1, h2, h3⟩ := h
  exact h3.below (by have := hP.low; have := hP.at_.lt; omega) (fun k hk => (hP.owned k hk).1)

end Go.Proofs.Ytjacjafpeajhaaa
