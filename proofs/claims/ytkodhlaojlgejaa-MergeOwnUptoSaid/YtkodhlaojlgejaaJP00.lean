/-
  Memory: pairs as they lie, two cells each. Memory: answers that are marked: rows of bytes, and pairs of such rows. Walks: lists copied, and bytes marked, by the law. What comes in, as the laws hold it; and what is answered, in plain terms. Walks: the law's first look. The law: lists that are merged are the same in any order and in any groups. The law: what is handed in stays; what is answered is new memory.
-/
import Derived.Laws.Strings
import Derived.Deep.QuietTactic
import Derived.BigQuiet
import Derived.Deep.RegionLaw
import Derived.Deep.RegionHeld3
import Derived.Deep.RegionWith
import Derived.Lib.BufferMore
import Derived.Deep.CutRange
import Derived.Deep.Cut
import Derived.Deep.CutBlock
import Derived.Lib.SlBytesConst
import Derived.Test.YtkodhlaojlgejaaJ00
import Derived.Test.YtkodhlaojlgejaaJ01
import Derived.Test.YtkodhlaojlgejaaJ02
import Derived.Test.YtkodhlaojlgejaaJ03
import Derived.Test.YtkodhlaojlgejaaJ04
import Derived.Test.YtkodhlaojlgejaaJ05
import Derived.Test.YtkodhlaojlgejaaJ06
import Derived.Test.YtkodhlaojlgejaaJ07
import Derived.Test.YtkodhlaojlgejaaJ08
import Derived.Test.YtkodhlaojlgejaaJ09
import Derived.Test.YtkodhlaojlgejaaJ10
import Derived.Test.YtkodhlaojlgejaaJ11
import Derived.Test.YtkodhlaojlgejaaJ12
set_option linter.unusedSimpArgs false
set_option linter.unusedVariables false
namespace Go.Proofs.Ytkodhlaojlgejaa
open Go.RowKit
theorem lies_pair_at {w : World} {ad : Addr} {l : List Bp} {j : Nat} {q : Bp} (h : Lies w (some ad) (pvals l)) (hq : l[j]? = some q) : AtP w (ad.add (j * 2)) q := by
  obtain ⟨ad', e, h'⟩ := lies_pair h hq
  injection e with e
  subst e
  exact h'
end Go.Proofs.Ytkodhlaojlgejaa
namespace Go.Proofs.Ytkodhlaojlgejaa
open Go.RowKit
theorem Row.spot {B : Nat} {w : World} {A : Option Addr} {c : Nat} {L : List Int} (h : Row w B A c L) : Spot B w.heap.size w A L.length := by
  rcases h.2 with ⟨_, h0⟩ | ⟨g, cap, cur, e, h1, h2, h3, h4, h5, h6⟩
  · exact .inl h0
  · injection e with e1 e2 e3
    subst e1
    refine .inr ⟨g, cur, rfl, h1, (Array.getElem?_eq_some_iff.1 h2).1, h2, by omega, fun j hj => ?_⟩
    have h7 : (vals L)[j]? = some (.int .u8 L[j]) := vals_of (List.getElem?_eq_getElem hj)
    rw [← h6, List.getElem?_take] at h7
    split at h7
    · exact ⟨L[j], by rw [← h7]; simp⟩
    · cases h7
theorem Mq.mark {S E : Nat} {w0 w : World} {A X A' : Option Addr} {c z z' k : Nat} {T : List Bp} (h : Mq S E w0 A c T X z w) (hs : Spot S E w A' z') (hk : k < z') :
    ∃ g x, A' = some ⟨g, 0, none⟩ ∧ w.cell? ⟨g, k, none⟩ = some (.int .u8 x) ∧ w.frozen? ⟨g, k, none⟩ = false ∧ ∀ y, Mq S E w0 A c T X z (w.setCell ⟨g, k, none⟩ (.int .u8 y)) := by
  obtain ⟨g, cur, e, h1, h2, h3, h4, h5⟩ := hs.resolve_left (by omega)
  obtain ⟨x, hx⟩ := h5 k hk
  refine ⟨g, x, e, by simp [World.cell?, h3, hx], by simp [World.frozen?, h3], fun y => ⟨?_, h.xs.set h3, fun q hq => ⟨(h.spots q hq).1.set h3, (h.spots q hq).2.set h3⟩, h.kp.set g k _ (fun hn => by omega)⟩⟩
  refine ⟨h.row.1, ?_⟩
  rcases h.row.2 with hn | ⟨g', cap, cur', e1, k1, k2, k3⟩
  · exact .inl hn
  · refine .inr ⟨g', cap, cur', e1, k1, ?_, k3⟩
    rw [Below.heap_setCell w ⟨g, k, none⟩ _ g' ?_, k2]
    intro e
    have e' : g' = g := e
    subst e'
    rw [h3] at k2
    injection k2 with k2
    injection k2 with _ k2
    exact absurd k2 (by decide)
/-- Pairs of the call's own that lie above what is marked stand. -/
theorem Kp.mades {S E : Nat} {w w' : World} {l : List Bp} (h : Mades w E l) (k : Kp (fun b => b < S ∨ E ≤ b) w w') : Mades w' E l := fun q hq =>
  ⟨own_kp (h q hq).1 k (fun ad e => .inr (own_in (h q hq).1 ad e).1), own_kp (h q hq).2 k (fun ad e => .inr (own_in (h q hq).2 ad e).1)⟩
end Go.Proofs.Ytkodhlaojlgejaa
namespace Go.Proofs.Ytkodhlaojlgejaa
open Go.RowKit
theorem Row.spotZ {Z : Nat → Prop} {B : Nat} {w : World} {A : Option Addr} {c : Nat} {L : List Int} (h : Row w B A c L) (hz : ∀ g, SlB A g → Z g) : SpotZ Z w A L.length := by
  rcases h.spot with h | ⟨g, cur, e, h1, h2, h3, h4⟩
  · exact .inl h
  · exact .inr ⟨g, cur, e, hz g ⟨_, e, rfl⟩, h3, h4⟩
theorem Mz.mark {Z : Nat → Prop} {w0 w : World} {A : Option Addr} {z k : Nat} (h : Mz Z w0 w) (hs : SpotZ Z w0 A z) (hk : k < z) :
    ∃ g x, A = some ⟨g, 0, none⟩ ∧ w.cell? ⟨g, k, none⟩ = some (.int .u8 x) ∧ w.frozen? ⟨g, k, none⟩ = false ∧ ∀ y, Mz Z w0 (w.setCell ⟨g, k, none⟩ (.int .u8 y)) := by
  obtain ⟨g, cur, e, h1, h3, h4, h5⟩ := (h.spots A z hs).resolve_left (by omega)
  obtain ⟨x, hx⟩ := h5 k hk
  exact ⟨g, x, e, by simp [World.cell?, h3, hx], by simp [World.frozen?, h3], fun y => ⟨fun A' z' q => (h.spots A' z' q).set h3, h.kp.set g k _ (fun hn => hn h1)⟩⟩
set_option maxRecDepth 100000 in
set_option maxHeartbeats 4000000 in
theorem spoil_any (Z : Nat → Prop) (A C : Option Addr) (n m c d : Nat) (w : World) (hA : SpotZ Z w A n) (hC : SpotZ Z w C m) (hn : n ≤ 140737488355328) (hm : m ≤ 140737488355328) : Calls Try.prog 32 #[.slice A n c, .slice C m d] w fun e w' => e = .returned (.tuple #[]) ∧ Mz Z w w' := by
  have HA := Lib.hid hA
  have HC := Lib.hid hC
  clear hA hC
  go_enter Try.func32, Try.ntmps32
  go_wp2_with fail
  go_loopw [8] (fun t8 wr => ∃ k : Nat, k ≤ n ∧ t8 = .int .i64 k ∧ Hid (Mz Z w wr)) (fun t8 _ => n - (intOf t8).toNat)
  case atStart => exact ⟨0, by omega, rfl, Lib.hid (Mz.refl _ _)⟩
  case round =>
    obtain ⟨k, hk, rfl, hr⟩ := hrel
    by_cases hlt : k < n
    · obtain ⟨g, x, rfl, d0, f0, hset⟩ := hr.out.mark HA.out hlt
      have HSET := Lib.hid hset
      have i0 : (k : Int) < n := by omega
      clear hset
      go_wp2_with fail
      go_roundw
      case rel => exact ⟨k + 1, by omega, by go_num, Lib.hid (HSET.out _)⟩
      case measure => simp [intOf]; omega
    · obtain rfl : k = n := by omega
      have HB := Lib.hid hr.out
      clear hr hlt hk
      generalize wr = w1 at HB ⊢
      go_wp2_with fail
      go_loopw [22] (fun t22 wr => ∃ j : Nat, j ≤ m ∧ t22 = .int .i64 j ∧ Hid (Mz Z w wr)) (fun t22 _ => m - (intOf t22).toNat)
      case atStart => exact ⟨0, by omega, rfl, HB⟩
      case round =>
        obtain ⟨j, hj, rfl, hr⟩ := hrel
        by_cases hlt : j < m
        · obtain ⟨g, x, rfl, d0, f0, hset⟩ := hr.out.mark HC.out hlt
          have HSET := Lib.hid hset
          have i0 : (j : Int) < m := by omega
          clear hset
          go_wp2_with fail
          go_roundw
          case rel => exact ⟨j + 1, by omega, by go_num, Lib.hid (HSET.out _)⟩
          case measure => simp [intOf]; omega
        · go_wp2_with fail
          go_end0
          exact ⟨rfl, hr.out⟩
end Go.Proofs.Ytkodhlaojlgejaa
namespace Go.Proofs.Ytkodhlaojlgejaa
open Go.RowKit
theorem AnsM.group {F G : List (List Er)} {R R1 R2 S : List Er} {e1 e2 er : Int} (h : AnsM (F ++ G) 0 R) (k1 : AnsM F e1 R1) (k2 : AnsM G e2 R2) : e1 = 0 ∧ e2 = 0 ∧ (AnsM [R1, R2] er S → er = 0 ∧ S = R) := by
  have h1 : e1 = 0 := h.part (fun l hl => h.ok.1 l (List.mem_append_left _ hl)) ⟨G.flatten, by rw [List.flatten_append]⟩ k1
  have h2 : e2 = 0 := h.part (fun l hl => h.ok.1 l (List.mem_append_right _ hl)) ⟨F.flatten, by rw [List.flatten_append]; exact List.perm_append_comm⟩ k2
  subst h1 h2
  refine ⟨rfl, rfl, fun k => ?_⟩
  have hp : ([R1, R2] : List (List Er)).flatten.Perm (F ++ G).flatten := by
    rw [List.flatten_append]
    simpa using k1.ok.2.2.append k2.ok.2.2
  have e : er = 0 := h.part (fun l hl => by
    rcases List.mem_cons.1 hl with e | e
    · rw [e]; exact k1.ok.2.1
    · rw [List.mem_singleton.1 e]; exact k2.ok.2.1) ⟨[], by simpa using hp⟩ k
  subst e
  exact ⟨rfl, (sorted_one (OrdL.pw.1 k.ok.2.1).2 (pw_le h.ok.2.1) ((k.ok.2.2.trans hp).trans h.ok.2.2.symm))⟩
end Go.Proofs.Ytkodhlaojlgejaa
namespace Go.Proofs.Ytkodhlaojlgejaa
open Go.RowKit
theorem fl_two (A1 A2 : Option Addr) (c1 c2 : Nat) (l1 l2 : List En) : fl [⟨A1, c1, l1⟩, ⟨A2, c2, l2⟩] = [ers l1, ers l2] := rfl
end Go.Proofs.Ytkodhlaojlgejaa
namespace Go.Proofs.Ytkodhlaojlgejaa
open Go.RowKit
theorem slice_lowG (A : Option Addr) (s n c : Nat) (hs : s ≤ n) (hc : n ≤ c) : ∀ W, (Instr.slice 42 (.slice A n c) (some (.int .i64 (s : Int))) none none).run Try.prog W = .ok (.slice (if c = s then A else A.map (·.add (s * 1))) (n - s) (c - s)) W := fun W => by
  rw [run_slice_l (P := Try.prog) W _ A n c underGl .i64 (s : Int) (by omega) (by omega), sizeGl]
  simp [Result.andThen, sliced]
theorem gvals_take (T : List Gl) (k : Nat) : gvals (T.take k) = (gvals T).take k := by simp [gvals, List.map_take]
theorem gvals_drop (T : List Gl) (k : Nat) : gvals (T.drop k) = (gvals T).drop k := by simp [gvals, List.map_drop]
theorem flat_parts (Ls : List Gl) (k : Nat) : flat Ls = flat (Ls.take k) ++ flat (Ls.drop k) := by
  unfold flat gets
  rw [← List.flatMap_append, ← List.map_append, List.take_append_drop]
theorem LF.high {w : World} {A : Option Addr} {Ls : List Gl} {n c : Nat} (h : LF w A Ls n c) (k : Nat) (hk : k ≤ n) : LF w A (Ls.take k) k c := by
  have hs : (flat (Ls.take k)).Sublist (flat Ls) := by
    rw [flat_parts Ls k]
    exact List.sublist_append_left _ _
  refine ⟨⟨by rw [List.length_take, h.ls.len]; omega, ?_, fun g hg => h.ls.each g (List.mem_of_mem_take hg)⟩, by have := h.few; omega, by have := h.tot; have := hs.length_le; omega, fun x hx => h.fit x (hs.subset hx), fun x hx => h.long x (hs.subset hx)⟩
  rw [gvals_take]
  rcases h.ls.lies with h | ⟨ad, e, h⟩
  · exact .inl (by rw [h]; simp)
  · exact .inr ⟨ad, e, fun j u hu => h j u (by rw [List.getElem?_take] at hu; split at hu; exact hu; cases hu)⟩
theorem LF.low {w : World} {A : Option Addr} {Ls : List Gl} {n c : Nat} (h : LF w A Ls n c) (k : Nat) (hk : k ≤ n) (hc : n ≤ c) : LF w (if c = k then A else A.map (·.add (k * 1))) (Ls.drop k) (n - k) (c - k) := by
  have hs : (flat (Ls.drop k)).Sublist (flat Ls) := by
    rw [flat_parts Ls k]
    exact List.sublist_append_right _ _
  refine ⟨⟨by rw [List.length_drop, h.ls.len], ?_, fun g hg => h.ls.each g (List.mem_of_mem_drop hg)⟩, by have := h.few; omega, by have := h.tot; have := hs.length_le; omega, fun x hx => h.fit x (hs.subset hx), fun x hx => h.long x (hs.subset hx)⟩
  rw [gvals_drop]
  rcases h.ls.lies with h' | ⟨ad, e, h'⟩
  · exact .inl (by rw [h']; simp)
  · subst e
    by_cases hkn : k = n
    · left
      rw [List.drop_eq_nil_of_le (by rw [gvals_len, h.ls.len]; omega)]
    · rw [if_neg (by omega)]
      refine .inr ⟨ad.add (k * 1), rfl, fun j u hu => ?_⟩
      rw [List.getElem?_drop] at hu
      rw [Nat.mul_one, add_add]
      exact h' _ _ hu
theorem fl_take (T : List Gl) (k : Nat) : fl (T.take k) = (fl T).take k := by simp [fl, List.map_take]
theorem fl_drop (T : List Gl) (k : Nat) : fl (T.drop k) = (fl T).drop k := by simp [fl, List.map_drop]
theorem rest_of (m n : Int) (h : 0 ≤ n ∧ n < 4611686018427387904) : 0 ≤ wrap64 ((IntKind.u64.wrap m).tmod (n + 1)) ∧ wrap64 ((IntKind.u64.wrap m).tmod (n + 1)) ≤ n := by
  have h1 : 0 ≤ IntKind.u64.wrap m := by
    unfold IntKind.wrap
    simp [IntKind.signed, IntKind.bits]
    omega
  rw [Int.tmod_eq_emod_of_nonneg h1]
  have h2 := Int.emod_nonneg (IntKind.u64.wrap m) (b := n + 1) (by omega)
  have h3 := Int.emod_lt_of_pos (IntKind.u64.wrap m) (b := n + 1) (by omega)
  generalize IntKind.u64.wrap m % (n + 1) = a at h2 h3 ⊢
  unfold wrap64
  omega
set_option maxRecDepth 100000 in
set_option maxHeartbeats 16000000 in
theorem lawParts (A : Option Addr) (Ls : List Gl) (n c : Nat) (m : Int) (w : World) (h : LF w A Ls n c) (hc : n ≤ c) (h9 : (c : Int) ≤ 9223372036854775807) :
    Calls Try.prog 9 #[.slice A n c, .int .i64 m] w fun e w' => e = .returned (.bool true) ∧ Below w.heap.size w w' := by
  have HH := Lib.hid h
  have HCC := Lib.hid (And.intro hc h9)
  have hn9 := h.few
  clear h hc h9
  go_enter Try.func9, Try.ntmps9
  go_upto_region 4 with (first
    | (go_at_call 22; refine (wakes_any _).mono ?_; rintro e w1 ⟨rfl, hb⟩; have B1 := Lib.hid hb; clear hb)
    | (go_at_call 24; refine (lists_lf (HH.out.kept B1.out)).mono ?_; rintro e w2 ⟨T, A2, c2, rfl, hf, h2, -, -, hb⟩; have E2 : Hid (fl T = fl Ls ∧ LF w2 A2 T n c2 ∧ Below w.heap.size w w2) := Lib.hid ⟨hf, h2, below_then B1.out hb⟩; clear hf h2 hb)
    | (go_at_call 23; refine (merge_m E2.out.2.1 E2.out.1).mono ?_; rintro e w3 ⟨M, A3, m3, c3, er, rfl, h1, h2, h3, h4, hb⟩; have E3 : Hid (M.length = m3 ∧ AnsM (fl Ls) er (ers M) ∧ EMades w3 w2.heap.size M ∧ Erow w3 w2.heap.size A3 c3 M ∧ Below w.heap.size w w3) := Lib.hid ⟨h1, h2, h3, h4, below_then E2.out.2.2 hb⟩; clear h1 h2 h3 h4 hb E2))
  by_cases her : er = 0
  · subst her
    have HEF : Hid (EF w3 A3 M m3 c3 ∧ ∀ x ∈ ers M, ErB x) := Lib.hid ⟨HH.out.out E3.out.2.1 E3.out.1 E3.out.2.2.2.1.lies (E3.out.2.2.1.ins (fun p hp => HH.out.byt p ((ansM_mem E3.out.2.1).1 p hp))), fun p hp => HH.out.byt p ((ansM_mem E3.out.2.1).1 p hp)⟩
    have HANS : Hid (AnsM (fl Ls) 0 (ers M) ∧ Below w.heap.size w w3) := Lib.hid ⟨E3.out.2.1, E3.out.2.2.2.2⟩
    have w1' : wrap64 ((n : Int) - 1) = (n : Int) - 1 := by unfold wrap64; omega
    clear E3
    go_wp2_with fail
    go_loopw [7, 8] (fun t7 t8 wr => ∃ (k : Nat) (v : Int) (Ab : Option Addr) (mb cb : Nat) (T : List Gl), k ≤ n ∧ t8 = .int .i64 v ∧ t7 = .slice Ab mb cb ∧ Hid (v = (k : Int) - 1 ∧ T.length = mb ∧ mb + k = n ∧ fl T = ((fl Ls).drop k).reverse ∧ GMades wr w3.heap.size T ∧ Grow wr w3.heap.size Ab cb T ∧ Below w3.heap.size w3 wr)) (fun _ t8 _ => ((intOf t8) + 1).toNat)
    case atStart => exact ⟨n, _, none, 0, 0, [], by omega, rfl, rfl, Lib.hid ⟨rfl, rfl, by omega, by rw [List.drop_eq_nil_of_le (by rw [fl_length, HH.out.ls.len]; exact Nat.le_refl _)]; rfl, GMades.nil _ _, Grow.nil _ _, Below.refl _ _⟩⟩
    case round =>
      obtain ⟨k, v, Ab, mb, cb, T, hk, rfl, rfl, hr⟩ := hrel
      obtain h0 | ⟨q, hq0⟩ : k = 0 ∨ ∃ q, k = q + 1 := by
        cases k with
        | zero => exact .inl rfl
        | succ q => exact .inr ⟨q, rfl⟩
      · obtain rfl : v = -1 := by have := hr.out.1; omega
        have HT : Hid (T.length = mb ∧ mb = n ∧ fl T = (fl Ls).reverse ∧ GMades wr w3.heap.size T ∧ Grow wr w3.heap.size Ab cb T ∧ Below w.heap.size w wr) := Lib.hid ⟨hr.out.2.1, by have := hr.out.2.2.1; omega, by have := hr.out.2.2.2.1; rw [h0] at this; exact this, hr.out.2.2.2.2.1, hr.out.2.2.2.2.2.1, below_then HANS.out.2 hr.out.2.2.2.2.2.2⟩
        have HE0 : Hid (EF wr A3 M m3 c3) := Lib.hid (HEF.out.1.kept hr.out.2.2.2.2.2.2)
        clear hr hk h0
        generalize wr = w4 at HT HE0 ⊢
        obtain ⟨kk, hkk, hkn⟩ : ∃ kk : Nat, wrap64 ((IntKind.u64.wrap m).tmod ((n : Int) + 1)) = (kk : Int) ∧ kk ≤ n := by
          have := rest_of m n (by omega)
          exact ⟨(wrap64 ((IntKind.u64.wrap m).tmod ((n : Int) + 1))).toNat, by omega, by omega⟩
        go_upto_region 12 with fail
        rw [hkk]
        have s1 := slice_highG A kk n c hkn HCC.out.1
        have s2 := slice_lowG A kk n c hkn HCC.out.1
        obtain ⟨A', hA'⟩ : ∃ A', (if c = kk then A else A.map (·.add (kk * 1))) = A' := ⟨_, rfl⟩
        obtain ⟨n', hn'⟩ : ∃ n', n - kk = n' := ⟨_, rfl⟩
        obtain ⟨c', hc'⟩ : ∃ c', c - kk = c' := ⟨_, rfl⟩
        have HLO := Lib.hid (HH.out.low kk hkn HCC.out.1)
        have HHI := Lib.hid (HH.out.high kk hkn)
        rw [hA', hn', hc'] at s2 HLO
        have HNN : Hid (kk ≤ n) := Lib.hid hkn
        clear hA' hn' hc' hkk hkn
        have T1 := Lib.hid trivial
        have T2 := Lib.hid trivial
        go_upto_region 13 with (first
          | (go_at_call 24; refine (lists_lf (HHI.out.kept HT.out.2.2.2.2.2)).mono ?_; rintro e w5 ⟨T5, A5, c5, rfl, hf, h2, -, -, hb⟩; have E5 : Hid (fl T5 = (fl Ls).take kk ∧ LF w5 A5 T5 kk c5 ∧ Below w4.heap.size w4 w5) := Lib.hid ⟨hf.trans (fl_take Ls kk), h2, hb⟩; clear hf h2 hb)
          | (go_at_call 23; refine (merge_m E5.out.2.1 E5.out.1).mono ?_; rintro e w6 ⟨M6, A6, m6, c6, e6, rfl, h1, h2, h3, h4, hb⟩; have E6 : Hid (M6.length = m6 ∧ AnsM ((fl Ls).take kk) e6 (ers M6) ∧ EMades w6 w5.heap.size M6 ∧ Erow w6 w5.heap.size A6 c6 M6 ∧ Below w4.heap.size w4 w6) := Lib.hid ⟨h1, h2, h3, h4, below_then E5.out.2.2 hb⟩; clear h1 h2 h3 h4 hb E5))
        go_upto_region 14 with (first
          | (go_at_call 24; refine (lists_lf (HLO.out.kept (below_then HT.out.2.2.2.2.2 E6.out.2.2.2.2))).mono ?_; rintro e w7 ⟨T7, A7, c7, rfl, hf, h2, -, -, hb⟩; have E7 : Hid (fl T7 = (fl Ls).drop kk ∧ LF w7 A7 T7 n' c7 ∧ Below w6.heap.size w6 w7) := Lib.hid ⟨hf.trans (fl_drop Ls kk), h2, hb⟩; clear hf h2 hb)
          | (go_at_call 23; refine (merge_m E7.out.2.1 E7.out.1).mono ?_; rintro e w8 ⟨M8, A8, m8, c8, e8, rfl, h1, h2, h3, h4, hb⟩; have E8 : Hid (M8.length = m8 ∧ AnsM ((fl Ls).drop kk) e8 (ers M8) ∧ EMades w8 w7.heap.size M8 ∧ Erow w8 w7.heap.size A8 c8 M8 ∧ Below w6.heap.size w6 w8) := Lib.hid ⟨h1, h2, h3, h4, below_then E7.out.2.2 hb⟩; clear h1 h2 h3 h4 hb E7))
        have HAN : Hid (AnsM ((fl Ls).take kk ++ (fl Ls).drop kk) 0 (ers M)) := Lib.hid (by rw [List.take_append_drop]; exact HANS.out.1)
        obtain ⟨z6, z8, -⟩ := HAN.out.group E6.out.2.1 E8.out.2.1 (er := 0) (S := [])
        have Z6 := Lib.hid z6
        have Z8 := Lib.hid z8
        clear z6 z8 s1 s2
        have HF6 : Hid (EF w6 A6 M6 m6 c6) := Lib.hid (by
          have hx : ∀ x ∈ ers M6, x ∈ (fl Ls).flatten := fun x hx => by
            have := (ansM_mem E6.out.2.1).1 x hx
            rw [← List.take_append_drop kk (fl Ls), List.flatten_append]
            exact List.mem_append_left _ this
          have h2 := (ansM_mem E6.out.2.1).2
          have h3 := HHI.out.tot
          rw [← flat_fl, fl_take] at h3
          rw [ers_len, E6.out.1] at h2
          exact ⟨E6.out.1, E6.out.2.2.2.1.lies, E6.out.2.2.1.ins (fun p hp => HH.out.byt p (hx p hp)), by omega, fun x h => HH.out.fit x (by rw [← flat_fl]; exact hx x h), fun x h => HH.out.long x (by rw [← flat_fl]; exact hx x h)⟩)
        have HF8 : Hid (EF w8 A8 M8 m8 c8) := Lib.hid (by
          have hx : ∀ x ∈ ers M8, x ∈ (fl Ls).flatten := fun x hx => by
            have := (ansM_mem E8.out.2.1).1 x hx
            rw [← List.take_append_drop kk (fl Ls), List.flatten_append]
            exact List.mem_append_right _ this
          have h2 := (ansM_mem E8.out.2.1).2
          have h3 := HLO.out.tot
          rw [← flat_fl, fl_drop] at h3
          rw [ers_len, E8.out.1] at h2
          exact ⟨E8.out.1, E8.out.2.2.2.1.lies, E8.out.2.2.1.ins (fun p hp => HH.out.byt p (hx p hp)), by omega, fun x h => HH.out.fit x (by rw [← flat_fl]; exact hx x h), fun x h => HH.out.long x (by rw [← flat_fl]; exact hx x h)⟩)
        have HC6 := Lib.hid (own_cap E6.out.2.2.2.1)
        have HC8 := Lib.hid (own_cap E8.out.2.2.2.1)
        have HTOT : Hid ((m6 + m8) * 64 ≤ 140737488351232) := Lib.hid (by
          have h1 := (ansM_mem E6.out.2.1).2
          have h2 := (ansM_mem E8.out.2.1).2
          have h3 := HH.out.tot
          rw [← flat_fl, ← List.take_append_drop kk (fl Ls), List.flatten_append, List.length_append] at h3
          rw [ers_len, E6.out.1] at h1
          rw [ers_len, E8.out.1] at h2
          omega)
        have BW8 : Hid (Below w4.heap.size w4 w8) := Lib.hid (below_then E6.out.2.2.2.2 E8.out.2.2.2.2)
        have HBK : Hid (LF w8 Ab T mb cb) := Lib.hid (HH.out.made (.inr (by rw [← flat_fl, ← flat_fl, HT.out.2.2.1]; exact (List.reverse_perm _).flatten)) HT.out.1 (by have := HT.out.2.1; omega) (HT.out.2.2.2.2.1.lies.kept BW8.out) (HT.out.2.2.2.1.kept BW8.out (Nat.le_refl _)))
        have HMB : Hid (fl T = (fl Ls).reverse) := Lib.hid HT.out.2.2.1
        have B8 : Hid (Below w.heap.size w w8) := Lib.hid (below_then HT.out.2.2.2.2.2 BW8.out)
        have HE8 : Hid (EF w8 A3 M m3 c3) := Lib.hid (HE0.out.kept BW8.out)
        clear HT HLO HHI HE0 BW8
        go_upto_region 15 with (go_at_call 23; refine (merge_m HBK.out HMB.out).mono ?_; rintro e w9 ⟨M9, A9, m9, c9, e9, rfl, h1, h2, h3, h4, hb⟩; have E9 : Hid (M9.length = m9 ∧ AnsM (fl Ls).reverse e9 (ers M9) ∧ EMades w9 w8.heap.size M9 ∧ Erow w9 w8.heap.size A9 c9 M9 ∧ Below w8.heap.size w8 w9) := Lib.hid ⟨h1, h2, h3, h4, hb⟩; clear h1 h2 h3 h4 hb HBK)
        obtain ⟨z9, y9⟩ := HANS.out.1.turn (List.reverse_perm _) E9.out.2.1
        subst z9
        have Y9 := Lib.hid y9
        clear y9
        have HF69 : Hid (EF w9 A6 M6 m6 c6) := Lib.hid (HF6.out.kept (below_then E8.out.2.2.2.2 E9.out.2.2.2.2))
        have HF89 : Hid (EF w9 A8 M8 m8 c8) := Lib.hid (HF8.out.kept E9.out.2.2.2.2)
        have HCP6 : Hid (m6 ≤ c6 ∧ (c6 : Int) ≤ 9223372036854775807) := Lib.hid (by have := HC6.out; have := E6.out.1; omega)
        have HCP8 : Hid (m8 ≤ c8 ∧ (c8 : Int) ≤ 9223372036854775807) := Lib.hid (by have := HC8.out; have := E8.out.1; omega)
        go_upto_region 16 with (go_at_call 23; refine (merge_m (lf_two HF69.out HF89.out HCP6.out HCP8.out HTOT.out) (fl_two ..)).mono ?_; rintro e w10 ⟨M10, A10, m10, c10, e10, rfl, h1, h2, h3, h4, hb⟩; have E10 : Hid (M10.length = m10 ∧ AnsM [ers M6, ers M8] e10 (ers M10) ∧ EMades w10 w9.heap.size M10 ∧ Erow w10 w9.heap.size A10 c10 M10 ∧ Below w9.heap.size w9 w10) := Lib.hid ⟨h1, h2, h3.mono (by simp), h4.mono (by simp), below_then (below_new _ _) hb⟩; clear h1 h2 h3 h4 hb)
        obtain ⟨z10, y10⟩ := (HAN.out.group E6.out.2.1 E8.out.2.1).2.2 E10.out.2.1
        subst z10
        have Y10 := Lib.hid y10
        clear y10
        have d6 : (e6 == 0) = true := by rw [Z6.out]; rfl
        have d8 : (e8 == 0) = true := by rw [Z8.out]; rfl
        have hMB : ∀ (M' : List En), ers M' = ers M → ∀ p ∈ ers M', ErB p := fun M' e p hp => HEF.out.2 p (by rw [← e]; exact hp)
        have HS9 : Hid (Calls Try.prog 20 #[.slice A3 m3 c3, .slice A9 m9 c9] w10 fun e w' => e = .returned (.bool true) ∧ Below w10.heap.size w10 w') := Lib.hid (by
          have h3 := HE8.out.kept (below_then E9.out.2.2.2.2 E10.out.2.2.2.2)
          exact sameEns h3.len E9.out.1 h3.lies (E9.out.2.2.2.1.kept E10.out.2.2.2.2 (Nat.le_refl _)).lies h3.ins ((E9.out.2.2.1.kept E10.out.2.2.2.2 (Nat.le_refl _)).ins (hMB _ Y9.out)) Y9.out.symm h3.few)
        have HS10 : Hid (∀ W, Below w10.heap.size w10 W → Calls Try.prog 20 #[.slice A3 m3 c3, .slice A10 m10 c10] W fun e w' => e = .returned (.bool true) ∧ Below W.heap.size W w') := Lib.hid (fun W hW => by
          have h3 := HE8.out.kept (below_then (below_then E9.out.2.2.2.2 E10.out.2.2.2.2) hW)
          exact sameEns h3.len E10.out.1 h3.lies (E10.out.2.2.2.1.kept hW (Nat.le_refl _)).lies h3.ins ((E10.out.2.2.1.kept hW (Nat.le_refl _)).ins (hMB _ Y10.out)) Y10.out.symm h3.few)
        have B10 : Hid (Below w.heap.size w w10) := Lib.hid (below_then B8.out (below_then E9.out.2.2.2.2 E10.out.2.2.2.2))
        clear hMB HE8 E9 E10 E6 E8 HF69 HF89 HF6 HF8
        go_wp2_with (first
          | (go_at_call 20; refine HS9.out.mono ?_; rintro e w11 ⟨rfl, hb⟩; have B11 := Lib.hid hb; clear hb HS9)
          | (go_at_call 20; refine (HS10.out _ B11.out).mono ?_; rintro e w12 ⟨rfl, hb⟩; have B12 := Lib.hid (below_then (below_then B10.out B11.out) hb); clear hb))
        go_ret
        exact ⟨rfl, B12.out⟩
      · subst hq0
        obtain rfl : v = (q : Int) := by have := hr.out.1; omega
        have hq := List.getElem?_eq_getElem (l := Ls) (i := q) (by have := HH.out.ls.len; omega)
        generalize Ls[q]'(by have := HH.out.ls.len; omega) = g at hq
        have hbw : Below w.heap.size w wr := below_then HANS.out.2 hr.out.2.2.2.2.2.2
        obtain ⟨ad, rfl, a0⟩ := take_gvals (HH.out.ls.lies.kept hbw) hq
        have hmem := List.mem_of_getElem? hq
        obtain ⟨gn, hgn⟩ : ∃ m, g.l.length = m := ⟨_, rfl⟩
        have HE := (HH.out.each hmem).kept hbw
        rw [hgn] at HE
        have HCP : Hid (EF wr g.a g.l gn g.c) := Lib.hid HE
        have HFL : Hid ((fl Ls).drop q = ers g.l :: (fl Ls).drop (q + 1)) := Lib.hid (by
          have := fl_get hq
          obtain ⟨h1, h2⟩ := List.getElem?_eq_some_iff.1 this
          rw [List.drop_eq_getElem_cons h1, h2])
        have q0 : (0 : Int) ≤ q := by omega
        have q1 : (q : Int) < n := by omega
        have HL1 := Lib.hid hr.out.2.1
        have w2' : wrap64 ((q : Int) - 1) = (q : Int) - 1 := by unfold wrap64; omega
        unfold Gl.val at a0
        rw [hgn] at a0
        clear hq hmem HE hgn hbw
        go_upto_region 9 with (first
          | (go_at_call 19; refine (copy_ef HCP.out).mono ?_; rintro e w6 ⟨l', A6, c6, he, rfl, hm, hrow, hb⟩; obtain ⟨ln, hln⟩ : ∃ m, l'.length = m := ⟨_, rfl⟩; rw [hln]; have H6 : Hid (l'.length = ln ∧ ers l' = ers g.l ∧ EMades w6 wr.heap.size l' ∧ Erow w6 wr.heap.size A6 c6 l' ∧ Below wr.heap.size wr w6) := Lib.hid ⟨hln, he, hm, hrow, hb⟩; clear hln he hm hrow hb HCP)
          | (at_builtin; refine wpList_append_grow _ (by rfl) (.tmp 38) (.tmp 44) (by rfl) w3.heap.size Ab cb T [⟨A6, c6, l'⟩] _ mb 1 1 (by first | rfl | (simp [Act.eval]; done)) (by first | rfl | (simp [Act.eval]; done)) HL1.out rfl ((hr.out.2.2.2.2.2.1.kept H6.out.2.2.2.2 (Nat.le_refl _)).alloc _) (lit_list w6 A6 c6 ln l' H6.out.1) (by have := hr.out.2.2.2.2.2.2.size; have := H6.out.2.2.2.2.size; simp; omega) (by have := HL1.out; have := hr.out.2.2.1; simp only [List.length_singleton]; omega) ?_; intro A8 c8 w8 r8 b8 g8; have H8 : Hid (Grow w8 w3.heap.size A8 c8 (T ++ [⟨A6, c6, l'⟩]) ∧ GMades w8 w3.heap.size (T ++ [⟨A6, c6, l'⟩]) ∧ Below w3.heap.size w3 w8) := (by
              have W6 : w3.heap.size ≤ wr.heap.size := hr.out.2.2.2.2.2.2.size
              have hGr := ((hr.out.2.2.2.2.2.1.kept H6.out.2.2.2.2 (Nat.le_refl _)).alloc (.cells #[.slice A6 ln c6] 22))
              have g9 : (w6.alloc (.cells #[.slice A6 ln c6] 22)).grownBy w8 (Value.slice Ab T.length cb).ownBlock := by rw [HL1.out]; exact g8
              have n1 : GMades (w6.alloc (.cells #[.slice A6 ln c6] 22)) w3.heap.size (T ++ [⟨A6, c6, l'⟩]) := ((hr.out.2.2.2.2.1.kept H6.out.2.2.2.2 (Nat.le_refl _)).kept (below_new w6 _) (Nat.le_refl _)).snoc ((H6.out.2.2.2.1.alloc _).mono W6) ((H6.out.2.2.1.kept (below_new w6 _) (Nat.le_refl _)).mono W6)
              exact Lib.hid ⟨r8, n1.besideG hGr g9, ((hr.out.2.2.2.2.2.2.trans (H6.out.2.2.2.2.mono W6)).alloc (by have := H6.out.2.2.2.2.size; omega) _).trans b8⟩); clear r8 b8 g8))
        go_wp2_with fail
        go_roundw
        case rel => exact ⟨q, _, A8, mb + 1, c8, T ++ [⟨A6, c6, l'⟩], by omega, rfl, rfl, Lib.hid ⟨rfl, by rw [List.length_append, HL1.out]; rfl, by have := hr.out.2.2.1; omega, by rw [fl_append, hr.out.2.2.2.1, HFL.out, List.reverse_cons, ← H6.out.2.1]; rfl, H8.out.2.1, H8.out.1, H8.out.2.2⟩⟩
        case measure => simp [intOf]
  · have HR : Hid (m3 = 0) := Lib.hid (by have := E3.out.2.1.no her; rw [← E3.out.1, ← ers_len, this]; rfl)
    have E3' : Hid (Below w.heap.size w w3) := Lib.hid E3.out.2.2.2.2
    have d0 : (er == 0) = false := by simpa using her
    have d1 : (er != 0) = true := by simpa using her
    clear her E3
    obtain rfl : 0 = m3 := HR.out.symm
    go_wp2_with fail
    go_ret
    exact ⟨rfl, E3'.out⟩
end Go.Proofs.Ytkodhlaojlgejaa
namespace Go.Proofs.Ytkodhlaojlgejaa
open Go.RowKit
theorem Mz.drew {Z : Nat → Prop} {w0 w : World} (h : Mz Z w0 w) : Mz Z w0 w.drew := ⟨fun A z q => h.spots A z q, ⟨h.kp.os, h.kp.tape, h.kp.output, h.kp.size, h.kp.block⟩⟩
def PsB (l : List Bp) (g : Nat) : Prop := ∃ q ∈ l, SlB q.k.a g ∨ SlB q.v.a g
theorem row_u8 {w : World} {B : Nat} {A : Option Addr} {c : Nat} {L : List Int} (h : Row w B A c L) {g : Nat} (hg : SlB A g) : B ≤ g ∧ g < w.heap.size ∧ ∃ cs, w.heap[g]? = some (.cells cs 5 (0, 0)) := by
  obtain ⟨ad, e, rfl⟩ := hg
  have h1 := own_in h ad e
  refine ⟨h1.1, h1.2, ?_⟩
  rcases h.2 with ⟨hn, _⟩ | ⟨g, cap, cur, e', _, h2, _⟩
  · rw [e] at hn; cases hn
  · rw [e] at e'
    injection e' with e'
    injection e' with e'
    subst e'
    exact ⟨_, h2⟩
theorem enB_u8 {w : World} {B : Nat} {T : List En} (hm : EMades w B T) {g : Nat} (hg : EnB T g) : B ≤ g ∧ g < w.heap.size ∧ ∃ cs, w.heap[g]? = some (.cells cs 5 (0, 0)) := by
  obtain ⟨q, hq, h | h⟩ := hg
  · exact row_u8 (hm q hq).1 h
  · exact row_u8 (hm q hq).2 h
theorem psB_u8 {w : World} {B : Nat} {T : List Bp} (hm : Mades w B T) {g : Nat} (hg : PsB T g) : B ≤ g ∧ g < w.heap.size ∧ ∃ cs, w.heap[g]? = some (.cells cs 5 (0, 0)) := by
  obtain ⟨q, hq, h | h⟩ := hg
  · exact row_u8 (hm q hq).1 h
  · exact row_u8 (hm q hq).2 h
theorem own_type {w : World} {B : Nat} {e : TypeId} {size : Nat} {A : Option Addr} {n c m : Nat} {xs : List Value} (h : w.ownsRow B e size (.slice A n c) m xs) : ∀ ad, A = some ad → ∃ cs, w.heap[ad.block]? = some (.cells cs e (0, 0)) := fun ad ha => by
  rcases h.2 with ⟨hn, _⟩ | ⟨g, cap, cur, e', _, h2, _⟩
  · rw [ha] at hn; cases hn
  · rw [ha] at e'
    injection e' with e'
    injection e' with e'
    subst e'
    exact ⟨_, h2⟩
/-- All marked blocks are of bytes, and none of them lies where others must stand. -/
structure Zs (Z : Nat → Prop) (w : World) (lo hi top : Nat) : Prop where
  u8 : ∀ g, Z g → ∃ cs, w.heap[g]? = some (.cells cs 5 (0, 0))
  out : ∀ g, Z g → (lo ≤ g ∧ g < hi) ∨ top ≤ g
/-- A row of other things stands. -/
theorem Zs.row {Z : Nat → Prop} {w0 w : World} {lo hi top : Nat} (hz : Zs Z w0 lo hi top) (hk : Kp (fun b => ¬ Z b) w0 w) {B : Nat} {e : TypeId} {size : Nat} {A : Option Addr} {n c : Nat} {xs : List Value} (h : w0.ownsRow B e size (.slice A n c) n xs) (ht : e ≠ 5) : w.ownsRow B e size (.slice A n c) n xs :=
  own_kp h hk (fun ad ha hZ => by
    obtain ⟨cs, h1⟩ := own_type h ad ha
    obtain ⟨cs', h2⟩ := hz.u8 _ hZ
    rw [h1] at h2
    injection h2 with h2
    injection h2 with _ h2
    exact ht h2)
/-- Bytes between stand. -/
theorem Zs.bytes {Z : Nat → Prop} {w0 w : World} {lo hi top : Nat} (hz : Zs Z w0 lo hi top) (hk : Kp (fun b => ¬ Z b) w0 w) {B c : Nat} {A : Option Addr} {L : List Int} (h : Row w0 B A c L) (hs : ∀ ad, A = some ad → hi ≤ ad.block ∧ ad.block < top) : Row w B A c L :=
  own_kp h hk (fun ad ha hZ => by
    have := hs ad ha
    rcases hz.out _ hZ with h | h <;> omega)
theorem Zs.mades {Z : Nat → Prop} {w0 w : World} {lo hi top : Nat} (hz : Zs Z w0 lo hi top) (hk : Kp (fun b => ¬ Z b) w0 w) {T : List En} {w1 : World} (h1 : EMades w1 hi T) (ht : w1.heap.size ≤ top) (h : EMades w0 hi T) : EMades w hi T := fun q hq =>
  ⟨hz.bytes hk (h q hq).1 (fun ad ha => by have := own_in (h1 q hq).1 ad ha; omega), hz.bytes hk (h q hq).2 (fun ad ha => by have := own_in (h1 q hq).2 ad ha; omega)⟩
set_option maxRecDepth 100000 in
set_option maxHeartbeats 16000000 in
theorem lawOwn (A : Option Addr) (Ls : List Gl) (n c : Nat) (m : Int) (w : World) (h : LF w A Ls n c) :
    Calls Try.prog 10 #[.slice A n c, .int .i64 m] w fun e w' => e = .returned (.bool true) ∧ Below w.heap.size w w' := by
  have HH := Lib.hid h
  have hn9 := h.few
  clear h
  go_enter Try.func10, Try.ntmps10
  go_upto_region 5 with (first
    | (go_at_call 22; refine (wakes_any _).mono ?_; rintro e w1 ⟨rfl, hb⟩; have B1 := Lib.hid hb; clear hb)
    | (go_at_call 24; refine (lists_lf (HH.out.kept B1.out)).mono ?_; rintro e w2 ⟨T, A2, c2, rfl, hf, h2, -, hg, hb⟩; have E2 : Hid (fl T = fl Ls ∧ LF w2 A2 T n c2 ∧ Below w.heap.size w w2) := Lib.hid ⟨hf, h2, below_then B1.out hb⟩; clear hf h2 hg hb)
    | (go_at_call 23; refine (merge_m E2.out.2.1 E2.out.1).mono ?_; rintro e w3 ⟨M3, A3, m3, c3, er3, rfl, h1, h2, h3, h4, hb⟩; have E3 : Hid (M3.length = m3 ∧ AnsM (fl Ls) er3 (ers M3) ∧ EMades w3 w2.heap.size M3 ∧ Erow w3 w2.heap.size A3 c3 M3 ∧ Below w2.heap.size w2 w3) := Lib.hid ⟨h1, h2, h3, h4, hb⟩; clear h1 h2 h3 h4 hb))
  go_upto_region 6 with (go_at_call 23; refine (merge_m (E2.out.2.1.kept E3.out.2.2.2.2) E2.out.1).mono ?_; rintro e w4 ⟨M4, A4, m4, c4, er4, rfl, h1, h2, h3, h4, hb⟩; have E4 : Hid (M4.length = m4 ∧ AnsM (fl Ls) er4 (ers M4) ∧ EMades w4 w3.heap.size M4 ∧ Erow w4 w3.heap.size A4 c4 M4 ∧ Below w3.heap.size w3 w4) := Lib.hid ⟨h1, h2, h3, h4, hb⟩; clear h1 h2 h3 h4 hb)
  have HEF4 : Hid (EF w4 A4 M4 m4 c4) := Lib.hid (HH.out.out E4.out.2.1 E4.out.1 E4.out.2.2.2.1.lies (E4.out.2.2.1.ins (fun p hp => HH.out.byt p ((ansM_mem E4.out.2.1).1 p hp))))
  obtain ⟨⟨er5, P5⟩, hr5⟩ : ∃ r, thinA m true (ers M4) = r := ⟨_, rfl⟩
  obtain ⟨⟨er6, P6⟩, hr6⟩ : ∃ r, visA m (ers M4) = r := ⟨_, rfl⟩
  have HR5 := Lib.hid hr5
  have HR6 := Lib.hid hr6
  clear hr5 hr6
  go_upto_region 8 with (first
    | (go_at_call 29; refine (thin_r HEF4.out rfl HR5.out).mono ?_; rintro e w5 ⟨M5, A5, m5, c5, rfl, h1, h2, h3, h4, hb⟩; have E5 : Hid (M5.length = m5 ∧ ers M5 = P5 ∧ EMades w5 w4.heap.size M5 ∧ Erow w5 w4.heap.size A5 c5 M5 ∧ Below w4.heap.size w4 w5) := Lib.hid ⟨h1, h2, h3, h4, hb⟩; clear h1 h2 h3 h4 hb)
    | (go_at_call 26; refine (visible_r (HEF4.out.kept E5.out.2.2.2.2) rfl HR6.out).mono ?_; rintro e w6 ⟨M6, A6, m6, c6, rfl, h1, h2, h3, h4, hb⟩; have E6 : Hid (M6.length = m6 ∧ rds M6 = P6 ∧ Mades w6 w5.heap.size M6 ∧ Prow w6 w5.heap.size A6 c6 M6 ∧ Below w5.heap.size w5 w6) := Lib.hid ⟨h1, h2, h3, h4, hb⟩; clear h1 h2 h3 h4 hb))
  obtain ⟨Z, hZ⟩ : ∃ Z : Nat → Prop, Z = fun g => EnB M3 g ∨ EnB M5 g ∨ PsB M6 g := ⟨_, rfl⟩
  have B46 : Hid (Below w4.heap.size w4 w6) := Lib.hid (below_then E5.out.2.2.2.2 E6.out.2.2.2.2)
  have B36 : Hid (Below w3.heap.size w3 w6) := Lib.hid (below_then E4.out.2.2.2.2 B46.out)
  have B26 : Hid (Below w2.heap.size w2 w6) := Lib.hid (below_then E3.out.2.2.2.2 B36.out)
  have K3 : Hid (EMades w6 w2.heap.size M3 ∧ Erow w6 w2.heap.size A3 c3 M3) := Lib.hid ⟨E3.out.2.2.1.kept B36.out (Nat.le_refl _), E3.out.2.2.2.1.kept B36.out (Nat.le_refl _)⟩
  have K4 : Hid (EMades w6 w3.heap.size M4 ∧ Erow w6 w3.heap.size A4 c4 M4) := Lib.hid ⟨E4.out.2.2.1.kept B46.out (Nat.le_refl _), E4.out.2.2.2.1.kept B46.out (Nat.le_refl _)⟩
  have K5 : Hid (EMades w6 w4.heap.size M5 ∧ Erow w6 w4.heap.size A5 c5 M5) := Lib.hid ⟨E5.out.2.2.1.kept E6.out.2.2.2.2 (Nat.le_refl _), E5.out.2.2.2.1.kept E6.out.2.2.2.2 (Nat.le_refl _)⟩
  have HZS : Hid (Zs Z w6 w2.heap.size w3.heap.size w4.heap.size) := Lib.hid (by
    subst hZ
    refine ⟨fun g hg => ?_, fun g hg => ?_⟩
    · rcases hg with hg | hg | hg
      · exact (enB_u8 K3.out.1 hg).2.2
      · exact (enB_u8 K5.out.1 hg).2.2
      · exact (psB_u8 E6.out.2.2.1 hg).2.2
    · rcases hg with hg | hg | hg
      · have := enB_u8 E3.out.2.2.1 hg; exact .inl ⟨this.1, this.2.1⟩
      · exact .inr (enB_u8 K5.out.1 hg).1
      · exact .inr (Nat.le_trans E5.out.2.2.2.2.size (psB_u8 E6.out.2.2.1 hg).1))
  have HS3 : Hid (∀ q ∈ M3, SpotZ Z w6 q.k.a q.k.l.length ∧ SpotZ Z w6 q.v.a q.v.l.length) := Lib.hid (fun q hq => ⟨(K3.out.1 q hq).1.spotZ (fun g hg => by subst hZ; exact .inl ⟨q, hq, .inl hg⟩), (K3.out.1 q hq).2.spotZ (fun g hg => by subst hZ; exact .inl ⟨q, hq, .inr hg⟩)⟩)
  have HS5 : Hid (∀ q ∈ M5, SpotZ Z w6 q.k.a q.k.l.length ∧ SpotZ Z w6 q.v.a q.v.l.length) := Lib.hid (fun q hq => ⟨(K5.out.1 q hq).1.spotZ (fun g hg => by subst hZ; exact .inr (.inl ⟨q, hq, .inl hg⟩)), (K5.out.1 q hq).2.spotZ (fun g hg => by subst hZ; exact .inr (.inl ⟨q, hq, .inr hg⟩))⟩)
  have HS6 : Hid (∀ q ∈ M6, SpotZ Z w6 q.k.a q.k.l.length ∧ SpotZ Z w6 q.v.a q.v.l.length) := Lib.hid (fun q hq => ⟨(E6.out.2.2.1 q hq).1.spotZ (fun g hg => by subst hZ; exact .inr (.inr ⟨q, hq, .inl hg⟩)), (E6.out.2.2.1 q hq).2.spotZ (fun g hg => by subst hZ; exact .inr (.inr ⟨q, hq, .inr hg⟩))⟩)
  have HL4 : Hid (∀ x ∈ ers M4, x.1.length ≤ 140737488351232 ∧ x.2.2.2.length ≤ 140737488351232) := Lib.hid HEF4.out.long
  have HLN3 : Hid (m3 * 64 ≤ 140737488351232 ∧ ∀ q ∈ M3, q.k.l.length ≤ 140737488355328 ∧ q.v.l.length ≤ 140737488355328) := Lib.hid (by
    have e3 := HH.out.out E3.out.2.1 E3.out.1 E3.out.2.2.2.1.lies (E3.out.2.2.1.ins (fun p hp => HH.out.byt p ((ansM_mem E3.out.2.1).1 p hp))) (c' := c3)
    exact ⟨e3.few, fun q hq => by have := e3.longs q hq; omega⟩)
  have HLN5 : Hid (m5 * 64 ≤ 140737488351232 ∧ ∀ q ∈ M5, q.k.l.length ≤ 140737488355328 ∧ q.v.l.length ≤ 140737488355328) := Lib.hid (by
    have hs := thinA_sub m true (ers M4)
    rw [HR5.out] at hs
    replace hs : List.Sublist P5 (ers M4) := hs
    refine ⟨?_, fun q hq => ?_⟩
    · have h1 := hs.length_le
      rw [← E5.out.2.1, ers_len, ers_len, E5.out.1, HEF4.out.len] at h1
      have := HEF4.out.few
      omega
    · have h1 : q.rd ∈ ers M5 := List.mem_map_of_mem hq
      rw [E5.out.2.1] at h1
      have h2 := HL4.out _ (hs.subset h1)
      have e1 : q.rd.1 = q.k.l := rfl
      have e2 : q.rd.2.2.2 = q.v.l := rfl
      rw [e1, e2] at h2
      omega)
  have HLN6 : Hid (m6 * 64 ≤ 140737488351232 ∧ ∀ q ∈ M6, q.k.l.length ≤ 140737488355328 ∧ q.v.l.length ≤ 140737488355328) := Lib.hid (by
    have hs := visA_len m (ers M4)
    rw [HR6.out] at hs
    replace hs : P6.length ≤ (ers M4).length := hs
    refine ⟨?_, fun q hq => ?_⟩
    · rw [← E6.out.2.1, rds_len, ers_len, E6.out.1, HEF4.out.len] at hs
      have := HEF4.out.few
      omega
    · have h1 : q.rd ∈ rds M6 := List.mem_map_of_mem hq
      rw [E6.out.2.1] at h1
      have h3 : P6 = (visA m (ers M4)).2 := by rw [HR6.out]
      rw [h3] at h1
      unfold visA at h1
      split at h1
      · obtain ⟨x, hx, e⟩ := List.mem_map.1 h1
        have h2 := HL4.out _ ((pickF_sub _ _ _).subset hx)
        have e1 : q.rd = (q.k.l, q.v.l) := rfl
        rw [e1] at e
        unfold keyval at e
        injection e with e2 e3
        rw [e2, e3] at h2
        omega
      · cases h1)
  have n3 : m3 * 64 ≤ 140737488351232 := HLN3.out.1
  have n5 : m5 * 64 ≤ 140737488351232 := HLN5.out.1
  have n6 : m6 * 64 ≤ 140737488351232 := HLN6.out.1
  clear hZ HL4
  go_wp2_with fail
  go_loopw [48] (fun t48 wr => ∃ i : Nat, i ≤ m3 ∧ t48 = .int .i64 i ∧ Hid (Mz Z w6 wr)) (fun t48 _ => m3 - (intOf t48).toNat)
  case atStart => exact ⟨0, by omega, rfl, Lib.hid (Mz.refl _ _)⟩
  case round =>
    obtain ⟨i, hi, rfl, hr⟩ := hrel
    by_cases hlt : i < m3
    · have hq := List.getElem?_eq_getElem (l := M3) (i := i) (by have := E3.out.1; omega)
      generalize M3[i]'(by have := E3.out.1; omega) = x at hq
      have hrow : Lies wr A3 (evals M3) := Erow.lies (HZS.out.row hr.out.kp K3.out.2 (by decide))
      obtain ⟨ad, rfl, a0, a1, a2, a3⟩ := lies_entry hrow hq
      have hmem := List.mem_of_getElem? hq
      have i0 : (i : Int) < m3 := by omega
      obtain ⟨xn, hxn⟩ : ∃ m, x.k.l.length = m := ⟨_, rfl⟩
      obtain ⟨xv, hxv⟩ : ∃ m, x.v.l.length = m := ⟨_, rfl⟩
      have HSP : Hid (∀ W, Mz Z w6 W → Calls Try.prog 32 #[.slice x.k.a xn x.k.c, .slice x.v.a xv x.v.c] W fun e w' => e = .returned (.tuple #[]) ∧ Mz Z w6 w') := Lib.hid (fun W hW => by
        have hs := HS3.out x hmem
        have hl := HLN3.out.2 x hmem
        rw [hxn, hxv] at hs hl
        refine (spoil_any Z x.k.a x.v.a xn xv x.k.c x.v.c W (hW.spots _ _ hs.1) (hW.spots _ _ hs.2) hl.1 hl.2).mono ?_
        rintro e w' ⟨rfl, hz⟩
        exact ⟨rfl, hW.trans hz⟩)
      have HLY : Hid (∀ W, Mz Z w6 W → W.cell? (ad.add (i * 4)) = some (.slice x.k.a xn x.k.c) ∧ W.cell? ⟨(ad.add (i * 4)).block, (ad.add (i * 4)).off + 3, none⟩ = some (.slice x.v.a xv x.v.c)) := Lib.hid (fun W hW => by
        have := lies_entry_at (Erow.lies (HZS.out.row hW.kp K3.out.2 (by decide))) hq
        unfold AtE at this
        rw [hxn, hxv] at this
        exact ⟨this.1, this.2.2.2⟩)
      clear hq hmem hrow hxn hxv a0 a1 a2 a3
      have RR := Lib.hid hr.out
      go_upto_region 11 with fail
      go_region_held3 (fun W => W.cell? (ad.add (i * 4)) = some (.slice x.k.a xn x.k.c) ∧ W.cell? ⟨(ad.add (i * 4)).block, (ad.add (i * 4)).off + 3, none⟩ = some (.slice x.v.a xv x.v.c)) (first | exact HLY.out _ RR.out | exact HLY.out _ RR.out.drew | go_keep) (first
        | (go_at_call 32; refine (HSP.out _ (by first | exact RR.out | exact RR.out.drew)).mono ?_; rintro e w7 ⟨rfl, hz⟩; have RR : Hid (Mz Z w6 w7) := Lib.hid hz; clear hz))
      all_goals
        go_wp2_with fail
        go_roundw
        case rel => exact ⟨i + 1, by omega, by go_num, RR⟩
        case measure => simp [intOf]; omega
    · obtain rfl : m3 = i := by omega
      have H1 := Lib.hid hr.out
      clear hr hlt hi
      generalize wr = u1 at H1 ⊢
      go_wp2_with fail
      go_loopw [65] (fun t65 wr => ∃ i : Nat, i ≤ m5 ∧ t65 = .int .i64 i ∧ Hid (Mz Z w6 wr)) (fun t65 _ => m5 - (intOf t65).toNat)
      case atStart => exact ⟨0, by omega, rfl, H1⟩
      case round =>
        obtain ⟨i, hi, rfl, hr⟩ := hrel
        by_cases hlt : i < m5
        · have hq := List.getElem?_eq_getElem (l := M5) (i := i) (by have := E5.out.1; omega)
          generalize M5[i]'(by have := E5.out.1; omega) = x at hq
          have hrow : Lies wr A5 (evals M5) := Erow.lies (HZS.out.row hr.out.kp K5.out.2 (by decide))
          obtain ⟨ad, rfl, a0, a1, a2, a3⟩ := lies_entry hrow hq
          have hmem := List.mem_of_getElem? hq
          have i0 : (i : Int) < m5 := by omega
          obtain ⟨xn, hxn⟩ : ∃ m, x.k.l.length = m := ⟨_, rfl⟩
          obtain ⟨xv, hxv⟩ : ∃ m, x.v.l.length = m := ⟨_, rfl⟩
          have HSP : Hid (∀ W, Mz Z w6 W → Calls Try.prog 32 #[.slice x.k.a xn x.k.c, .slice x.v.a xv x.v.c] W fun e w' => e = .returned (.tuple #[]) ∧ Mz Z w6 w') := Lib.hid (fun W hW => by
            have hs := HS5.out x hmem
            have hl := HLN5.out.2 x hmem
            rw [hxn, hxv] at hs hl
            refine (spoil_any Z x.k.a x.v.a xn xv x.k.c x.v.c W (hW.spots _ _ hs.1) (hW.spots _ _ hs.2) hl.1 hl.2).mono ?_
            rintro e w' ⟨rfl, hz⟩
            exact ⟨rfl, hW.trans hz⟩)
          have HLY : Hid (∀ W, Mz Z w6 W → W.cell? (ad.add (i * 4)) = some (.slice x.k.a xn x.k.c) ∧ W.cell? ⟨(ad.add (i * 4)).block, (ad.add (i * 4)).off + 3, none⟩ = some (.slice x.v.a xv x.v.c)) := Lib.hid (fun W hW => by
            have := lies_entry_at (Erow.lies (HZS.out.row hW.kp K5.out.2 (by decide))) hq
            unfold AtE at this
            rw [hxn, hxv] at this
            exact ⟨this.1, this.2.2.2⟩)
          clear hq hmem hrow hxn hxv a0 a1 a2 a3
          have RR := Lib.hid hr.out
          go_upto_region 16 with fail
          go_region_held3 (fun W => W.cell? (ad.add (i * 4)) = some (.slice x.k.a xn x.k.c) ∧ W.cell? ⟨(ad.add (i * 4)).block, (ad.add (i * 4)).off + 3, none⟩ = some (.slice x.v.a xv x.v.c)) (first | exact HLY.out _ RR.out | exact HLY.out _ RR.out.drew | go_keep) (first
            | (go_at_call 32; refine (HSP.out _ (by first | exact RR.out | exact RR.out.drew)).mono ?_; rintro e w7 ⟨rfl, hz⟩; have RR : Hid (Mz Z w6 w7) := Lib.hid hz; clear hz))
          all_goals
            go_wp2_with fail
            go_roundw
            case rel => exact ⟨i + 1, by omega, by go_num, RR⟩
            case measure => simp [intOf]; omega
        · obtain rfl : m5 = i := by omega
          have H2 := Lib.hid hr.out
          clear hr hlt hi H1
          generalize wr = u2 at H2 ⊢
          go_wp2_with fail
          go_loopw [82] (fun t82 wr => ∃ i : Nat, i ≤ m6 ∧ t82 = .int .i64 i ∧ Hid (Mz Z w6 wr)) (fun t82 _ => m6 - (intOf t82).toNat)
          case atStart => exact ⟨0, by omega, rfl, H2⟩
          case round =>
            obtain ⟨i, hi, rfl, hr⟩ := hrel
            by_cases hlt : i < m6
            · have hq := List.getElem?_eq_getElem (l := M6) (i := i) (by have := E6.out.1; omega)
              generalize M6[i]'(by have := E6.out.1; omega) = x at hq
              have hrow : Lies wr A6 (pvals M6) := Prow.lies (HZS.out.row hr.out.kp E6.out.2.2.2.1 (by decide))
              obtain ⟨ad, rfl, a0, a1⟩ := lies_pair hrow hq
              have hmem := List.mem_of_getElem? hq
              have i0 : (i : Int) < m6 := by omega
              obtain ⟨xn, hxn⟩ : ∃ m, x.k.l.length = m := ⟨_, rfl⟩
              obtain ⟨xv, hxv⟩ : ∃ m, x.v.l.length = m := ⟨_, rfl⟩
              have HSP : Hid (∀ W, Mz Z w6 W → Calls Try.prog 32 #[.slice x.k.a xn x.k.c, .slice x.v.a xv x.v.c] W fun e w' => e = .returned (.tuple #[]) ∧ Mz Z w6 w') := Lib.hid (fun W hW => by
                have hs := HS6.out x hmem
                have hl := HLN6.out.2 x hmem
                rw [hxn, hxv] at hs hl
                refine (spoil_any Z x.k.a x.v.a xn xv x.k.c x.v.c W (hW.spots _ _ hs.1) (hW.spots _ _ hs.2) hl.1 hl.2).mono ?_
                rintro e w' ⟨rfl, hz⟩
                exact ⟨rfl, hW.trans hz⟩)
              have HLY : Hid (∀ W, Mz Z w6 W → W.cell? (ad.add (i * 2)) = some (.slice x.k.a xn x.k.c) ∧ W.cell? ⟨(ad.add (i * 2)).block, (ad.add (i * 2)).off + 1, none⟩ = some (.slice x.v.a xv x.v.c)) := Lib.hid (fun W hW => by
                have := lies_pair_at (Prow.lies (HZS.out.row hW.kp E6.out.2.2.2.1 (by decide))) hq
                unfold AtP at this
                rw [hxn, hxv] at this
                exact this)
              clear hq hmem hrow hxn hxv a0 a1
              have RR := Lib.hid hr.out
              go_upto_region 21 with fail
              go_region_held3 (fun W => W.cell? (ad.add (i * 2)) = some (.slice x.k.a xn x.k.c) ∧ W.cell? ⟨(ad.add (i * 2)).block, (ad.add (i * 2)).off + 1, none⟩ = some (.slice x.v.a xv x.v.c)) (first | exact HLY.out _ RR.out | exact HLY.out _ RR.out.drew | go_keep) (first
                | (go_at_call 32; refine (HSP.out _ (by first | exact RR.out | exact RR.out.drew)).mono ?_; rintro e w7 ⟨rfl, hz⟩; have RR : Hid (Mz Z w6 w7) := Lib.hid hz; clear hz))
              all_goals
                go_wp2_with fail
                go_roundw
                case rel => exact ⟨i + 1, by omega, by go_num, RR⟩
                case measure => simp [intOf]; omega
            · obtain rfl : m6 = i := by omega
              have H3 := Lib.hid hr.out
              clear hr hlt hi H2
              generalize wr = u3 at H3 ⊢
              have B23 : Hid (Below w2.heap.size w2 u3) := Lib.hid (B26.out.trans (H3.out.kp.below (fun g hg hZ => by rcases HZS.out.out g hZ with h | h; (have := E3.out.2.2.2.2.size; omega); (have := E3.out.2.2.2.2.size; have := E4.out.2.2.2.2.size; omega))))
              have BW3 : Hid (Below w.heap.size w u3) := Lib.hid (below_then E2.out.2.2 B23.out)
              have K4' : Hid (EMades u3 w3.heap.size M4 ∧ Erow u3 w3.heap.size A4 c4 M4) := Lib.hid ⟨HZS.out.mades H3.out.kp E4.out.2.2.1 (Nat.le_refl _) K4.out.1, HZS.out.row H3.out.kp K4.out.2 (by decide)⟩
              have HT : Hid (LF u3 A2 T n c2) := Lib.hid (E2.out.2.1.kept B23.out)
              have HLL : Hid (LF u3 A Ls n c) := Lib.hid (HH.out.kept BW3.out)
              have HFT := Lib.hid E2.out.1
              have HA4 : Hid (M4.length = m4 ∧ AnsM (fl Ls) er4 (ers M4)) := Lib.hid ⟨E4.out.1, E4.out.2.1⟩
              clear E2 E3 E4 E5 E6 K3 K4 K5 HS3 HS5 HS6 HLN3 HLN5 HLN6 HZS H3 B23 B26 B36 B46
              go_wp2_with fail
              go_loopw [99] (fun t99 wr => ∃ i : Nat, i ≤ n ∧ t99 = .int .i64 i ∧ Hid (Below u3.heap.size u3 wr)) (fun t99 _ => n - (intOf t99).toNat)
              case atStart => exact ⟨0, by omega, rfl, Lib.hid (Below.refl _ _)⟩
              case round =>
                obtain ⟨i, hi, rfl, hr⟩ := hrel
                by_cases hlt : i < n
                · have hq := List.getElem?_eq_getElem (l := T) (i := i) (by have := HT.out.ls.len; omega)
                  generalize T[i]'(by have := HT.out.ls.len; omega) = x at hq
                  have hq' := List.getElem?_eq_getElem (l := Ls) (i := i) (by have := HLL.out.ls.len; omega)
                  generalize Ls[i]'(by have := HLL.out.ls.len; omega) = y at hq'
                  obtain ⟨ad, rfl, a0⟩ := take_gvals HT.out.ls.lies hq
                  obtain ⟨ad', rfl, b0⟩ := take_gvals HLL.out.ls.lies hq'
                  have hxy : ers x.l = ers y.l := by
                    have h1 := fl_get hq
                    have h2 := fl_get hq'
                    rw [HFT.out, h2] at h1
                    injection h1 with h1
                    exact h1.symm
                  have i0 : (i : Int) < n := by omega
                  obtain ⟨xn, hxn⟩ : ∃ m, x.l.length = m := ⟨_, rfl⟩
                  obtain ⟨yn, hyn⟩ : ∃ m, y.l.length = m := ⟨_, rfl⟩
                  have HSM : Hid (∀ W, Below u3.heap.size u3 W → Calls Try.prog 20 #[.slice x.a xn x.c, .slice y.a yn y.c] W fun e w' => e = .returned (.bool true) ∧ Below W.heap.size W w') := Lib.hid (fun W hW => by
                    have h1 := (HT.out.each (List.mem_of_getElem? hq)).kept hW
                    have h2 := (HLL.out.each (List.mem_of_getElem? hq')).kept hW
                    exact sameEns hxn hyn h1.lies h2.lies h1.ins h2.ins hxy (by rw [← hxn]; exact h1.few))
                  have HLY : Hid (∀ W, Below u3.heap.size u3 W → W.cell? (ad.add i) = some (.slice x.a xn x.c) ∧ W.cell? (ad'.add i) = some (.slice y.a yn y.c)) := Lib.hid (fun W hW => by
                    obtain ⟨d, e, h1⟩ := take_gvals (HT.out.ls.lies.kept hW) hq
                    obtain ⟨d', e', h2⟩ := take_gvals (HLL.out.ls.lies.kept hW) hq'
                    injection e with e
                    injection e' with e'
                    subst e e'
                    unfold Gl.val at h1 h2
                    rw [hxn] at h1
                    rw [hyn] at h2
                    exact ⟨h1, h2⟩)
                  clear hq hq' hxy hxn hyn a0 b0
                  have RR := Lib.hid hr.out
                  go_upto_region 26 with fail
                  go_region_held3 (fun W => W.cell? (ad.add i) = some (.slice x.a xn x.c) ∧ W.cell? (ad'.add i) = some (.slice y.a yn y.c)) (first | exact HLY.out _ RR.out | exact HLY.out _ RR.out.drew | go_keep) (first
                    | (go_at_call 20; refine (HSM.out _ (by first | exact RR.out | exact RR.out.drew)).mono ?_; rintro e w7 ⟨rfl, hz⟩; have RR : Hid (Below u3.heap.size u3 w7) := Lib.hid (below_then (by first | exact RR.out | exact RR.out.drew) hz); clear hz))
                  all_goals
                    go_wp2_with fail
                    go_roundw
                    case rel => exact ⟨i + 1, by omega, by go_num, RR⟩
                    case measure => simp [intOf]; omega
                · obtain rfl : n = i := by omega
                  have H4 := Lib.hid hr.out
                  clear hr hlt hi
                  generalize wr = u4 at H4 ⊢
                  go_upto_region 30 with (go_at_call 25; refine (refMerge_m (HLL.out.kept H4.out) rfl).mono ?_; rintro e u5 ⟨M7, A7, m7, c7, er7, rfl, h1, h2, h3, h4, hb⟩; have E7 : Hid (M7.length = m7 ∧ ers M4 = ers M7 ∧ Lies u5 A7 (evals M7) ∧ EIns u5 M7 ∧ Below u3.heap.size u3 u5) := Lib.hid ⟨h1, (HA4.out.2.one h2).2, h3, h4, below_then H4.out hb⟩; clear h1 h2 h3 h4 hb)
                  have HSM : Hid (Calls Try.prog 20 #[.slice A4 m4 c4, .slice A7 m7 c7] u5 fun e w' => e = .returned (.bool true) ∧ Below u5.heap.size u5 w') := Lib.hid (sameEns HA4.out.1 E7.out.1 (K4'.out.2.kept E7.out.2.2.2.2 (Nat.le_refl _)).lies E7.out.2.2.1 ((K4'.out.1.kept E7.out.2.2.2.2 (Nat.le_refl _)).ins (fun p hp => HH.out.byt p ((ansM_mem HA4.out.2).1 p hp))) E7.out.2.2.2.1 E7.out.2.1 (by
                    have h1 := (ansM_mem HA4.out.2).2
                    rw [ers_len, HA4.out.1, flat_fl] at h1
                    have h2 := HH.out.tot
                    omega))
                  go_wp2_with (go_at_call 20; refine HSM.out.mono ?_; rintro e u6 ⟨rfl, hb⟩; have B6 := Lib.hid (below_then (below_then BW3.out E7.out.2.2.2.2) hb); clear hb)
                  go_ret
                  exact ⟨rfl, B6.out⟩
end Go.Proofs.Ytkodhlaojlgejaa
