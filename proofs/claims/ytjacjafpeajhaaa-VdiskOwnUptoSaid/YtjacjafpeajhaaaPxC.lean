/-
  Walks: the document's disk: names listed; lists of texts compared.
  The document's disk and the program's, on what is read of them: alike, whatever is called.
  The two disks, side by side: they share no memory; what a call on the one leaves of the other.
-/
import Derived.Test.YtjacjafpeajhaaaWkN
import Derived.Test.YtjacjafpeajhaaaPgL
import Derived.Test.YtjacjafpeajhaaaPxA
import Derived.Test.YtjacjafpeajhaaaLawB
import Derived.Test.YtjacjafpeajhaaaLawD
namespace Go.Proofs.Ytjacjafpeajhaaa
section
open Go.RowKit
open Go.Maps

theorem info9 : (Try.prog.info? 9).map (fun i => (i.zero, i.size, i.bytes)) = some (some (.string ⟨#[]⟩), 1, 16) := by kernel_rfl
theorem texts_one {T : List ByteArray} : ∀ u ∈ T.map Value.string, u.oneCell' = true := fun u hu => by
  obtain ⟨s, -, rfl⟩ := List.mem_map.1 hu
  rfl
theorem wpList_append_trow (w : World) {ops : Array Oper} {rest : List Oper} {o : Oper} {a : Act} {Q : Exit → Act → World → Prop} (hgd : o.guard = none) (s x : Operand)
    (ho : o.op = .call { callee := .builtin .append, args := #[s, x], argTypes := #[58, 58] })
    (B : Nat) (A : Option Addr) (c : Nat) (T U : List ByteArray) (C : Option Addr) (n m cm : Nat) (hs : a.eval s = .slice A n c) (hx : a.eval x = .slice C m cm) (en : T.length = n) (em : U.length = m) (h : Trow w B A c T) (hm : Lies w C (U.map Value.string)) (hB : B ≤ w.heap.size) (hr : (T.length + U.length) * 16 ≤ 140737488355328)
    (k : ∀ A' c' w', Trow w' B A' c' (T ++ U) → Below B w w' → wpList Try.prog ops Q rest (a.put o.dst (.slice A' (n + m) c')) w') : wpList Try.prog ops Q (o :: rest) a w := by
  subst en
  subst em
  obtain ⟨i, hi, hz0, hz1, hz2⟩ := info_parts info9
  refine wpList_plain hgd fun K hK => ?_
  obtain ⟨A', c', w', r, h2, h3, h4⟩ := run_append_grown (P := Try.prog) w 58 o.type 9 i (.string ⟨#[]⟩) 1 16 Try.underlying58 hi hz0 hz1 hz2 rfl (by decide) B A T.length c (T.map Value.string) h C U.length cm (U.map Value.string) (by simp) hm texts_one (by unfold maxLen; omega) hr hB
  rw [← List.map_append] at h2
  have k' := k A' c' w' (by unfold Trow; rw [List.length_append]; exact h2) h3
  unfold Oper.wp execOp
  simp only [ho, resolve, invoke, builtin, Sem.run_bind, Sem.run_pure, Result.andThen_ok, List.map_toArray, List.map_cons, List.map_nil, hs, hx, r]
  exact hK _ _ k'
theorem texts_at {w : World} {A : Option Addr} {T : List ByteArray} {k : Nat} {s : ByteArray} (h : Lies w A (T.map Value.string)) (hs : T[k]? = some s) : ∃ ad, A = some ad ∧ w.cell? (ad.add k) = some (.string s) := by
  have hv : (T.map Value.string)[k]? = some (.string s) := by simp [hs]
  rcases h with h | ⟨ad, rfl, h⟩
  · rw [h] at hv
    simp at hv
  · exact ⟨ad, rfl, h k _ hv⟩
def Md.list (m : Md) : List ByteArray × Int := if m.down then ([], 20) else (m.fs.map Prod.fst, 0)

set_option maxRecDepth 100000 in
set_option maxHeartbeats 4000000 in
theorem refList_any (B g : Nat) (d : Dk) (w : World) (h : RefSt w B g d) :
    Calls Try.prog 42 #[.pointer (some ⟨g, 0, none⟩)] w (Lists w d.md.list) := by
  obtain ⟨n, hn⟩ : ∃ n, d.l.length = n := ⟨_, rfl⟩
  have H := Lib.hid h
  have hfew : n ≤ 1048576 := by rw [← hn]; exact h.few
  have HC := Lib.hid (fun (W : World) (hb : Below w.heap.size w W) => (h.kept hb).at_.cell)
  have HP := Lib.hid (fun (W : World) (hb : Below w.heap.size w W) => (h.kept hb).row.lies)
  obtain ⟨r, hr⟩ : ∃ r, d.md.list = r := ⟨_, rfl⟩
  rw [hr]
  have HR := Lib.hid hr
  have HN := Lib.hid hn
  obtain ⟨c0, -, -, -, -, c5⟩ := h.at_.cell
  rw [hn] at c0 HC
  obtain ⟨dn, hdn⟩ : ∃ dn, d.down = dn := ⟨_, rfl⟩
  rw [hdn] at c5
  have HD := Lib.hid hdn
  clear hr hn h hdn
  cases dn
  · have HV : Hid (r = (d.l.map Fl.s, 0)) := Lib.hid (by
      rw [← HR.out]
      unfold Md.list
      rw [show d.md.down = d.down from rfl, HD.out, show d.md.fs = d.l.map Fl.rd from rfl, List.map_map]
      rfl)
    go_enter Try.func42, Try.ntmps42
    go_wp2_with fail
    go_loopw [4, 15] (fun t4 t15 wr => ∃ (k : Nat) (A2 : Option Addr) (c2 : Nat), k ≤ n ∧ t15 = .int .i64 k ∧ t4 = .slice A2 k c2 ∧ Hid (Trow wr w.heap.size A2 c2 ((d.l.take k).map Fl.s)) ∧ Hid (Below w.heap.size w wr)) (fun _ t15 _ => n - (intOf t15).toNat)
    case atStart => exact ⟨0, none, 0, by omega, rfl, rfl, Lib.hid (World.ownsRow_nil _ _ _ _), Lib.hid (Below.refl _ _)⟩
    case round =>
      obtain ⟨k, A2, c2, hk, rfl, rfl, r2, b2⟩ := hrel
      by_cases hlt : k < n
      · have hq := List.getElem?_eq_getElem (l := d.l) (i := k) (by have := HN.out; omega)
        generalize d.l[k]'(by have := HN.out; omega) = q at hq
        obtain ⟨ad, hA, a0, a1, a2⟩ := lies_file (HP.out _ b2.out) hq
        obtain ⟨x0, -⟩ := HC.out _ b2.out
        rw [hA] at x0
        have HE : Hid ((d.l.take (k + 1)).map Fl.s = (d.l.take k).map Fl.s ++ [q.s]) := Lib.hid (by rw [List.take_add_one, hq]; simp)
        have HKL : Hid (((d.l.take k).map Fl.s).length = k) := Lib.hid (by rw [List.length_map, List.length_take]; have := HN.out; omega)
        have HZ := Lib.hid b2.out.size
        have HF := Lib.hid (lit_lies wr [.string q.s] _ rfl 9)
        clear hq hA
        go_wp2_with (at_builtin; refine wpList_append_trow _ rfl (.tmp 18) (.tmp 27) rfl w.heap.size A2 c2 _ [q.s] _ k 1 1 rfl rfl HKL.out rfl (own_kept r2.out (below_new _ _) (Nat.le_refl _)) HF.out (by have := HZ.out; simp; omega) (by have := HKL.out; simp; omega) ?_; intro A4 c4 w4 r4 b4; have R4 := Lib.hid r4; have B4 := Lib.hid ((b2.out.alloc HZ.out _).trans b4); clear r4 b4)
        go_roundw
        case rel => exact ⟨k + 1, A4, c4, by omega, by go_num, rfl, Lib.hid (by rw [HE.out]; exact R4.out), B4⟩
        case measure => simp [intOf]; omega
      · obtain rfl : k = n := by omega
        have r8 := r2.out
        rw [List.take_of_length_le (by have := HN.out; omega)] at r8
        have R8 := Lib.hid r8
        have L8 : Hid ((d.l.map Fl.s).length = k) := Lib.hid (by rw [List.length_map]; exact HN.out)
        clear r8 r2
        go_wp2_with fail
        go_ret2
        rw [HV.out]
        exact ⟨A2, c2, ret_pair L8.out rfl, R8.out, b2.out⟩
  · have HV : Hid (r = ([], 20)) := Lib.hid (by
      rw [← HR.out]
      unfold Md.list
      rw [show d.md.down = d.down from rfl, HD.out]
      rfl)
    go_enter Try.func42, Try.ntmps42
    go_wp2_with fail
    go_ret2
    rw [HV.out]
    exact ⟨none, 0, rfl, World.ownsRow_nil _ _ _ _, Below.refl _ _⟩

set_option maxRecDepth 100000 in
set_option maxHeartbeats 4000000 in
theorem sameTexts_any (A C : Option Addr) (T : List ByteArray) (n c k : Nat) (w : World) (hn : T.length = n) (h : Lies w A (T.map Value.string)) (g : Lies w C (T.map Value.string)) (hl : n ≤ 1048576) :
    Calls Try.prog 43 #[.slice A n c, .slice C n k] w (Tells w true) := by
  have HP := Lib.hid (fun (W : World) (hb : Below w.heap.size w W) => And.intro (h.kept hb) (g.kept hb))
  have HN := Lib.hid hn
  clear h g hn
  go_enter Try.func43, Try.ntmps43
  go_wp2_with fail
  go_loopw [13] (fun t13 wr => ∃ k : Nat, k ≤ n ∧ t13 = .int .i64 k ∧ Hid (Below w.heap.size w wr)) (fun t13 _ => n - (intOf t13).toNat)
  case atStart => exact ⟨0, by omega, rfl, Lib.hid (Below.refl _ _)⟩
  case round =>
    obtain ⟨i, hi, rfl, hb⟩ := hrel
    by_cases hlt : i < n
    · have hq := List.getElem?_eq_getElem (l := T) (i := i) (by have := HN.out; omega)
      generalize T[i]'(by have := HN.out; omega) = s at hq
      obtain ⟨ad, rfl, a0⟩ := texts_at (HP.out _ hb.out).1 hq
      obtain ⟨cd, rfl, a1⟩ := texts_at (HP.out _ hb.out).2 hq
      clear hq
      go_upto_region 6 with fail
      go_quiet (fail)
      go_wp2_with fail
      go_roundw
      case rel => exact ⟨i + 1, by omega, by go_num, Lib.hid (by repeat (first | exact hb.out | exact below_drewN hb.out _ | refine Below.drew ?_))⟩
      case measure => simp [intOf]; omega
    · obtain rfl : i = n := by omega
      go_wp2_with fail
      go_ret
      exact ⟨rfl, hb.out⟩
end

section
open Go.RowKit

structure Alike (m : Vm) (d : Md) (keep : List Int) : Prop where
  fs : m.fs = d.fs
  room : m.room = d.room
  keep : m.keep = keep
  down : m.down = d.down
  left : (d.ops < 0 ∧ m.left = d.ops) ∨ (0 ≤ d.ops ∧ d.done ≤ d.ops ∧ m.left = d.ops - d.done)
theorem Alike.step {m : Vm} {d : Md} {k : List Int} (h : Alike m d k) : m.step.2 = d.change.2 ∧ Alike m.step.1 d.change.1 k := by
  unfold Vm.step Md.change
  rcases h.left with ⟨h1, h2⟩ | ⟨h1, h2, h3⟩
  · rw [if_neg (by omega), if_neg (by omega), if_neg (by omega)]
    exact ⟨rfl, h.fs, h.room, h.keep, h.down, .inl ⟨h1, h2⟩⟩
  · by_cases e : d.ops ≤ d.done
    · rw [if_pos (by omega), if_pos ⟨h1, e⟩]
      exact ⟨rfl, h.fs, h.room, h.keep, rfl, .inr ⟨h1, h2, h3⟩⟩
    · rw [if_neg (by omega), if_pos (by omega), if_neg (by omega)]
      exact ⟨rfl, h.fs, h.room, h.keep, h.down, .inr ⟨h1, by show d.done + 1 ≤ d.ops; omega, by show m.left - 1 = d.ops - (d.done + 1); omega⟩⟩
theorem Alike.ready {m : Vm} {d : Md} {k : List Int} (h : Alike m d k) (s : ByteArray) : readyE m.down [s] = if d.down then 20 else if okName s = false then 23 else 0 := by
  unfold readyE
  rw [h.down]
  cases d.down <;> cases hs : okName s <;> simp [hs]
theorem Alike.hinder {m : Vm} {d : Md} {k : List Int} (h : Alike m d k) (s : ByteArray) : m.hinder [s] s = d.named s ⟨#[97]⟩ := by
  have ha : okName ⟨#[97]⟩ = true := by decide +kernel
  unfold Vm.hinder Md.named readyE
  rw [h.down, h.fs, ha]
  cases d.down <;> cases hs : okName s <;> simp [hs]
theorem Alike.hinder2 {m : Vm} {d : Md} {k : List Int} (h : Alike m d k) (s t : ByteArray) : m.hinder [s, t] s = d.named s t := by
  unfold Vm.hinder Md.named readyE
  rw [h.down, h.fs]
  cases d.down <;> cases hs : okName s <;> cases ht : okName t <;> simp [hs, ht]
theorem Alike.does {m : Vm} {d : Md} {k : List Int} (h : Alike m d k) (e : Int) (f : List Rd → List Rd) : (m.does e f).2 = (d.does e f).2 ∧ Alike (m.does e f).1 (d.does e f).1 k := by
  obtain ⟨s1, s2⟩ := h.step
  unfold Vm.does Md.does
  by_cases h0 : e = 0
  · subst h0
    have n0 : ¬ ((0 : Int) ≠ 0) := by simp
    rw [if_neg n0, if_neg n0, s1]
    by_cases h1 : d.change.2 = 0
    · have n1 : ¬ (d.change.2 ≠ 0) := by simp [h1]
      rw [if_neg n1, if_neg n1]
      exact ⟨rfl, by show f m.fs = f d.fs; rw [h.fs], s2.room, s2.keep, s2.down, s2.left⟩
    · rw [if_pos h1, if_pos h1]
      exact ⟨s1, s2⟩
  · rw [if_pos h0, if_pos h0]
    exact ⟨rfl, h⟩
theorem Alike.sync {m : Vm} {d : Md} {k : List Int} (h : Alike m d k) (s : ByteArray) : (m.sync s).2 = (d.sync s).2 ∧ Alike (m.sync s).1 (d.sync s).1 k := by
  unfold Vm.sync Md.sync
  rw [h.hinder]
  exact h.does _ _
theorem Alike.delete {m : Vm} {d : Md} {k : List Int} (h : Alike m d k) (s : ByteArray) : (m.delete s).2 = (d.delete s).2 ∧ Alike (m.delete s).1 (d.delete s).1 k := by
  unfold Vm.delete Md.delete
  rw [h.hinder]
  exact h.does _ _
theorem Alike.rename {m : Vm} {d : Md} {k : List Int} (h : Alike m d k) (s t : ByteArray) : (m.rename s t).2 = (d.rename s t).2 ∧ Alike (m.rename s t).1 (d.rename s t).1 k := by
  unfold Vm.rename Md.rename
  rw [h.hinder2]
  exact h.does _ _
theorem Alike.read {m : Vm} {d : Md} {k : List Int} (h : Alike m d k) (s : ByteArray) : m.read s = d.read s := by
  unfold Vm.read Md.read
  rw [h.hinder, h.fs]
theorem Alike.list {m : Vm} {d : Md} {k : List Int} (h : Alike m d k) : m.list = d.list := by
  unfold Vm.list Md.list
  rw [h.down, h.fs]
theorem Alike.revive {m : Vm} {d : Md} {k : List Int} (h : Alike m d k) (ops room : Int) (keep : List Int) (K : Option Addr) (kn kc : Nat) : Alike (m.revive ops room keep) (d.revive k ops room K kn kc) keep := by
  refine ⟨?_, rfl, rfl, rfl, ?_⟩
  · show revL m.keep 0 m.fs = revL k 0 d.fs
    rw [h.keep, h.fs]
  · show (ops < 0 ∧ ops = ops) ∨ (0 ≤ ops ∧ 0 ≤ ops ∧ ops = ops - 0)
    omega
theorem Alike.append {m : Vm} {d : Md} {k : List Int} (h : Alike m d k) (s : ByteArray) (b : List Int) : (m.append s b).2 = (d.append s b).2 ∧ Alike (m.append s b).1 (d.append s b).1 k := by
  obtain ⟨s1, s2⟩ := h.step
  have hr := h.ready s
  unfold Vm.append Md.append
  rw [hr, s1, h.room, h.fs]
  by_cases h0 : d.down = true
  · simp only [h0, if_true]
    exact ⟨rfl, h⟩
  · by_cases h1 : okName s = false
    · simp only [h0, h1, if_true]
      exact ⟨rfl, h⟩
    · simp only [h0, h1, ne_eq]
      by_cases h2 : 0 ≤ d.room ∧ d.room < ((b.length + sumM d.fs : Nat) : Int)
      · rw [if_pos h2, if_pos h2]
        exact ⟨rfl, h⟩
      · rw [if_neg h2, if_neg h2]
        by_cases h3 : d.change.2 = 0
        · have n1 : ¬ (¬ d.change.2 = 0) := by simp [h3]
          rw [if_neg n1, if_neg n1]
          exact ⟨rfl, rfl, s2.room, s2.keep, s2.down, s2.left⟩
        · rw [if_pos h3, if_pos h3]
          exact ⟨s1, s2⟩
end

section
open Go.RowKit

theorem RefSt.of {w w' : World} {B g : Nat} {d : Dk} (h : RefSt w B g d) (hk : ∀ k, d.own g k → w'.heap[k]? = w.heap[k]?) : RefSt w' B g d := by
  refine ⟨?_, h.low, own_block h.row (fun ad ha => hk _ (.inr (.inl ⟨ad, ha, rfl⟩))), fun q hq => own_block (h.data q hq) (fun ad ha => hk _ (.inr (.inr ⟨q, hq, ad, ha, rfl⟩))), h.byt, h.few, h.long, h.done⟩
  have := h.at_
  unfold DkAt at this ⊢
  rw [hk g (.inl rfl)]
  exact this
theorem RefSt.does {S S' : Nat → Prop} {w w' : World} {B g : Nat} {d : Dk} (h : RefSt w B g d) (hb : Does S S' w w') (hS : ∀ k, S k → ¬ d.own g k) : RefSt w' B g d := h.of (fun k hk => hb.block k (h.owned k hk).2 (fun hs => hS k hs hk))
/-- The program's call. -/
theorem half_prog {w w1 : World} {B C W0 g e : Nat} {p : Pk} {d : Dk} {m : Vm} (hp : PSt w B g p) (hd : RefSt w C e d) (off : ∀ x, p.own g x → ¬ d.own e x) (hB : W0 ≤ B) (hr : Rest w B g p m w1) :
    ∃ p1, PSt w1 B g p1 ∧ p1.vm = m ∧ RefSt w1 C e d ∧ (∀ x, p1.own g x → ¬ d.own e x) ∧ Below W0 w w1 := by
  have hb := (Rest.below hp hr).mono hB
  obtain ⟨p1, h1, h2, h3⟩ := hr
  refine ⟨p1, h1, h2, hd.does h3 off, fun x hx hd' => ?_, hb⟩
  rcases h3.grows x hx with h | h
  · exact off x h hd'
  · have := (hd.owned x hd').2
    omega
/-- The document's call. -/
theorem half_ref {w w1 : World} {B C W0 g e : Nat} {p : Pk} {d : Dk} {m : Md} (hp : PSt w B g p) (hd : RefSt w C e d) (off : ∀ x, p.own g x → ¬ d.own e x) (hC : W0 ≤ C) (hl : Left w C e d m w1) :
    ∃ d1, PSt w1 B g p ∧ RefSt w1 C e d1 ∧ d1.md = m ∧ (∀ x, p.own g x → ¬ d1.own e x) ∧ Below W0 w w1 := by
  obtain ⟨d1, h1, h2, h3⟩ := hl
  have hlow : C ≤ w.heap.size := by have := hd.low; have := hd.at_.lt; omega
  refine ⟨d1, hp.does h3 (fun k hk ho => off k ho hk), h1, h2, fun x hx hd' => ?_, (h3.below hlow (fun k hk => (hd.owned k hk).1)).mono hC⟩
  rcases h3.grows x hd' with h | h
  · exact off x hx h
  · have := (hp.owned x hx).2
    omega
/-- What a call leaves alone of the document's disk. -/
structure Kd (m m' : Md) : Prop where
  K : m'.K = m.K
  kn : m'.kn = m.kn
  done : m'.done ≤ m.done + 1
theorem kd_change (m : Md) : Kd m m.change.1 := by
  unfold Md.change
  split
  · exact ⟨rfl, rfl, by show m.done ≤ m.done + 1; omega⟩
  · exact ⟨rfl, rfl, Int.le_refl _⟩
theorem kd_does (m : Md) (e : Int) (f : List Rd → List Rd) : Kd m (m.does e f).1 := by
  unfold Md.does
  split
  · exact ⟨rfl, rfl, by show m.done ≤ m.done + 1; omega⟩
  · split
    · exact kd_change m
    · exact ⟨(kd_change m).K, (kd_change m).kn, (kd_change m).done⟩
theorem kd_append (m : Md) (s : ByteArray) (b : List Int) : Kd m (m.append s b).1 := by
  unfold Md.append
  split
  · exact ⟨rfl, rfl, by show m.done ≤ m.done + 1; omega⟩
  · split
    · exact ⟨rfl, rfl, by show m.done ≤ m.done + 1; omega⟩
    · split
      · exact ⟨rfl, rfl, by show m.done ≤ m.done + 1; omega⟩
      · split
        · exact kd_change m
        · exact ⟨(kd_change m).K, (kd_change m).kn, (kd_change m).done⟩
theorem step_fs (m : Vm) : m.step.1.fs = m.fs := by
  unfold Vm.step
  split
  · rfl
  · split <;> rfl
theorem le_does (m : Vm) (e : Int) (f : List Rd → List Rd) (c N : Nat) (hf : Le7 m.fs (f m.fs) c N) : Le7 m.fs (m.does e f).1.fs c N := by
  unfold Vm.does
  split
  · exact Le7.refl _ _ _
  · split
    · rw [step_fs]
      exact Le7.refl _ _ _
    · exact hf
theorem le_append (m : Vm) (s : ByteArray) (b : List Int) (N : Nat) (hs : s.size ≤ N) : Le7 m.fs (m.append s b).1.fs b.length N := by
  unfold Vm.append
  split
  · exact Le7.refl _ _ _
  · split
    · exact Le7.refl _ _ _
    · split
      · rw [step_fs]
        exact Le7.refl _ _ _
      · exact app_le s b m.fs N hs
theorem sum_revL (keep : List Int) : ∀ (fs : List Rd) (n : Nat), Sane fs → sumM (revL keep n fs) ≤ sumM fs
  | [], _, _ => Nat.le_refl _
  | p :: fs, n, h => by
    have h1 := sum_revL keep fs (rev1 keep n p).2 (fun x hx => h x (List.mem_cons_of_mem _ hx))
    have h2 := (rev1_left keep n p (h p (by simp))).2.2.2.1
    show sumM ((rev1 keep n p).1 :: revL keep (rev1 keep n p).2 fs) ≤ _
    rw [sum_cons, sum_cons]
    omega
theorem le_revL (keep : List Int) (fs : List Rd) (n c N : Nat) (h : Sane fs) : Le7 fs (revL keep n fs) c N :=
  ⟨by rw [revL_len h]; omega, by have := sum_revL keep fs n h; omega, fun hn x hx => by obtain ⟨a, ha, h1, -⟩ := revL_mem h hx; rw [h1]; exact hn a ha, fun _ => revL_sane h⟩

/-- The two disks. -/
structure Twin (w : World) (B C W0 g e : Nat) (p : Pk) (d : Dk) (keep : List Int) (k S : Nat) : Prop where
  ps : PSt w B g p
  rs : RefSt w C e d
  lowB : W0 ≤ B
  lowC : W0 ≤ C
  off : ∀ x, p.own g x → ¬ d.own e x
  alike : Alike p.vm d.md keep
  kl : keep.length = d.kn
  kints : Ints w d.K keep
  kB : keep ≠ [] → ∀ ad, d.K = some ad → ad.block < W0
  ki : ∀ x ∈ keep, -9223372036854775808 ≤ x ∧ x ≤ 9223372036854775807
  kfew : keep.length ≤ 17592186044416
  few : p.vm.fs.length ≤ k
  sum : sumM p.vm.fs ≤ S
  names : ∀ x ∈ p.vm.fs, x.1.size ≤ 1048576
  sane : Sane p.vm.fs
  done : d.md.done ≤ k
theorem Twin.below {w w' : World} {B C W0 g e : Nat} {p : Pk} {d : Dk} {keep : List Int} {k S : Nat} (h : Twin w B C W0 g e p d keep k S) (hb : Below w.heap.size w w') : Twin w' B C W0 g e p d keep k S :=
  ⟨h.ps.kept hb, h.rs.kept hb, h.lowB, h.lowC, h.off, h.alike, h.kl, h.kints.lowE hb (fun hk ad ha => by have := h.kB hk ad ha; have := h.lowB; have := h.ps.low; have := h.ps.at_.lt; omega), h.kB, h.ki, h.kfew, h.few, h.sum, h.names, h.sane, h.done⟩
theorem Twin.more {w : World} {B C W0 g e : Nat} {p : Pk} {d : Dk} {keep : List Int} {k S k' S' : Nat} (h : Twin w B C W0 g e p d keep k S) (hk : k ≤ k') (hS : S ≤ S') : Twin w B C W0 g e p d keep k' S' :=
  ⟨h.ps, h.rs, h.lowB, h.lowC, h.off, h.alike, h.kl, h.kints, h.kB, h.ki, h.kfew, Nat.le_trans h.few hk, Nat.le_trans h.sum hS, h.names, h.sane, by have := h.done; omega⟩
theorem Twin.fits {w : World} {B C W0 g e : Nat} {p : Pk} {d : Dk} {keep : List Int} {k S : Nat} (h : Twin w B C W0 g e p d keep k S) (hk : k ≤ 2097152) (hS : S ≤ 2097152) (N : Nat) (hN : N ≤ 2097152) : Fits p.vm N :=
  ⟨by have := h.few; omega, fun x hx => by have := long_le hx; have := h.sum; omega, fun x hx => by have := h.names x hx; omega⟩
/-- A call on both has been done. -/
theorem Twin.next {w w' : World} {B C W0 g e : Nat} {p p' : Pk} {d d' : Dk} {keep : List Int} {k S c : Nat} (h : Twin w B C W0 g e p d keep k S) (hp : PSt w' B g p') (hd : RefSt w' C e d') (off : ∀ x, p'.own g x → ¬ d'.own e x) (hb : Below W0 w w') (ha : Alike p'.vm d'.md keep) (hk : Kd d.md d'.md) (hl : Le7 p.vm.fs p'.vm.fs c 1048576) : Twin w' B C W0 g e p' d' keep (k + 1) (S + c) := by
  have hK : d'.K = d.K := hk.K
  have hkn : d'.kn = d.kn := hk.kn
  exact ⟨hp, hd, h.lowB, h.lowC, off, ha, by rw [hkn]; exact h.kl, by rw [hK]; exact h.kints.lowE hb h.kB, by rw [hK]; exact h.kB, h.ki, h.kfew, by have := hl.few; have := h.few; omega, by have := hl.sum; have := h.sum; omega, hl.names h.names, hl.sane h.sane, by have := hk.done; have := h.done; omega⟩
theorem ints_lt {w : World} {A : Option Addr} {L : List Int} (h : Ints w A L) (hL : L ≠ []) : ∀ ad, A = some ad → ad.block < w.heap.size := fun ad ha => by
  cases L with
  | nil => exact absurd rfl hL
  | cons x L =>
    obtain ⟨ad', e, hc⟩ := ints_at (k := 0) h rfl
    rw [ha] at e
    injection e with e
    subst e
    rcases Nat.lt_or_ge ad.block w.heap.size with hlt | hge
    · exact hlt
    · exfalso
      have hn : w.heap[ad.block]? = none := Array.getElem?_eq_none hge
      unfold World.cell? at hc
      rw [add_block, hn] at hc
      cases hc
theorem bys_lt {w : World} {A : Option Addr} {L : List Int} (h : Bys w A L) (hL : L ≠ []) : ∀ ad, A = some ad → ad.block < w.heap.size := fun ad ha => by
  cases L with
  | nil => exact absurd rfl hL
  | cons x L =>
    rcases h with h | ⟨ad', e, hc⟩
    · cases h
    · rw [ha] at e
      injection e with e
      subst e
      have hc := hc 0 x rfl
      rcases Nat.lt_or_ge ad.block w.heap.size with hlt | hge
      · exact hlt
      · exfalso
        have hn : w.heap[ad.block]? = none := Array.getElem?_eq_none hge
        unfold World.cell? at hc
        rw [add_block, hn] at hc
        cases hc
end

end Go.Proofs.Ytjacjafpeajhaaa
