/-
  Walks: a log that is written to, by what it has of records.
-/
import Derived.Test.YtjppklgegpmfpaaGreatDoorSgE
import Derived.Test.YtjppklgegpmfpaaGreatDoorWgN
namespace Go.Proofs.YtjppklgegpmfpaaGreatDoor
open Go.RowKit
open Go.Maps

theorem rise_len : ∀ (L : List Sg) (k N : Nat), L.Pairwise (fun a b => a.1 < b.1) → (∀ x ∈ L, k < x.1 ∧ x.1 ≤ N) → k ≤ N → L.length + k ≤ N
  | [], _, _, _, _, h => by simpa using h
  | x :: L, k, N, hp, h, hk => by
    obtain ⟨h1, h2⟩ := List.pairwise_cons.1 hp
    have hx := h x (by simp)
    have := rise_len L x.1 N h2 (fun y hy => ⟨h1 y hy, (h y (List.mem_cons_of_mem _ hy)).2⟩) hx.2
    rw [List.length_cons]
    omega
theorem K.len {p : ByteArray} {m : Vm} {G : List Gr} {N : Nat} (h : K p m G) (ht : ∀ x ∈ G, x.1 ≤ N) : G.length ≤ N := by
  have := rise_len (G.map raw) 0 N h.rise.lt (fun x hx => ⟨(h.rise.inn x hx).1, by obtain ⟨y, hy, rfl⟩ := List.mem_map.1 hx; exact ht y hy⟩) (Nat.zero_le _)
  simpa using this
theorem K.sum {p : ByteArray} {m : Vm} {G : List Gr} (h : K p m G) (ht : (total G).length ≤ 100000) : sumM m.fs ≤ 500800000 := by
  have := sum_raw G h.fine
  rw [h.fs, sum_segFs]
  omega
theorem long_le' : ∀ {fs : List (ByteArray × List Int × Int)} {x : ByteArray × List Int × Int}, x ∈ fs → x.2.1.length ≤ sumM fs := fun {fs x} h => le_sum (List.mem_map_of_mem (f := fun p : ByteArray × List Int × Int => p.2.1.length) h)
theorem K.fits {p : ByteArray} {m : Vm} {G : List Gr} {N : Nat} (hp : IsPre p) (h : K p m G) (ht : ∀ x ∈ G, x.1 ≤ N) (hN : N ≤ 999999) (hl : (total G).length ≤ 100000) : Fits m 1099511627776 := by
  have h1 := h.len ht
  have h2 := h.sum hl
  refine ⟨?_, fun x hx => ?_, fun x hx => ?_⟩
  · rw [h.fs]; unfold segFs; rw [List.length_map, List.length_map]; omega
  · have := long_le' hx; omega
  · rw [h.fs] at hx; obtain ⟨y, hy, rfl⟩ := List.mem_map.1 hx; exact pre_size hp _
theorem Went.total_le {p : ByteArray} {s s' : Ls} {r : Int} {G G' : List Gr} {more : List (List Int)} (h : Went p s s' r G G' more) : (total G').length ≤ (total G).length + more.length := by
  rcases h.ways with ⟨-, -, -, e⟩ | ⟨-, e⟩
  · rw [e, List.length_append]; exact Nat.le_refl _
  · rw [e]; omega
theorem J.len_le {p : ByteArray} {s : Ls} {G : List Gr} (h : J p s G) (hl : (total G).length ≤ 100000) : s.len ≤ 500800000 := by
  rcases h.cur with ⟨e, -⟩ | ⟨M, ps, a, rfl, e, -⟩
  · omega
  · have hf := h.k.fine
    rw [total_append, total_one] at hf hl
    rw [List.length_append] at hl
    have := flat_le ps (fun r hr => hf r (List.mem_append_right _ hr))
    simp only at hl
    omega

/-- What a call on a log answers and leaves. -/
def LogTo (w : World) (B g lb : Nat) (d : Pk) (s : Ls) (G : List Gr) (p : ByteArray) (size : Nat) (more : List (List Int)) (P : Ls → Int → List Gr → Prop) (e : Ending) (w' : World) : Prop :=
  ∃ r s' G' d', e = .returned (.int .i64 r) ∧ Went p s s' r G G' more ∧ P s' r G' ∧ LSt w' B g lb d' s' p size ∧ Does (lown d g lb) (lown d' g lb) w w'

theorem appendJ (B g lb N : Nat) (d : Pk) (s : Ls) (G : List Gr) (p : ByteArray) (size : Nat) (A : Option Addr) (L : List Int) (n c : Nat) (w : World) (h : LSt w B g lb d s p size) (hp : IsPre p) (hz : 1 ≤ size) (hj : J p s G) (hd : s.m.down = false) (hT : Tab B w) (hi : In w A L n c) (hn5 : n ≤ 5000)
    (hnum : s.num + 1 ≤ N) (hN : N ≤ 999998) (ht : ∀ x ∈ G, x.1 ≤ N) (hl : (total G).length + 1 ≤ 100000) :
    Calls Tryz.prog 11 #[.pointer (some ⟨lb, 0, none⟩), .slice A n c] w (LogTo w B g lb d s G p size [L] (fun s' r _ => r = 0 → (s'.num = if s.len < size then s.num else s.num + 1) ∧ (s'.len = (if s.len < size then s.len else 0) + (8 + n)))) := by
  have hb : Fine L := ⟨hi.byt, by rw [hi.len]; exact hn5⟩
  obtain ⟨G1, hw1⟩ := hj.advance (size := size) hp hz hd
  obtain ⟨G2, hw2⟩ := hj.append (size := size) (b := L) hp hz hd hb (by omega)
  have h1 := hw1.total_le
  have hf := hw1.k.fits hp (hw1.top N hnum ht) (by omega) (by simp at h1; omega)
  have hs := hw1.k.sum (by simp at h1; omega)
  have hln := hj.len_le (by omega)
  refine (appendLog_any B g lb d s _ p size _ A L n c w h hp (by omega) hT hi hn5 ⟨hf.few, fun x hx => by have := hf.long x hx; omega, hf.names⟩ (by omega) (by omega) rfl).mono ?_
  rintro e w' ⟨rfl, d', h2, h3⟩
  refine ⟨_, _, G2, d', rfl, hw2, fun e => ?_, h2, h3⟩
  have := app_at e
  rwa [hi.len] at this
theorem syncJ (B g lb N : Nat) (d : Pk) (s : Ls) (G : List Gr) (p : ByteArray) (size : Nat) (w : World) (h : LSt w B g lb d s p size) (hp : IsPre p) (hj : J p s G) (hd : s.m.down = false) (hT : Tab B w) (hnum : s.num ≤ 999999) :
    Calls Tryz.prog 12 #[.pointer (some ⟨lb, 0, none⟩)] w (LogTo w B g lb d s G p size [] (fun s' r G' => s'.num = s.num ∧ s'.len = s.len ∧ (r = 0 → sureG G' = (total G').length))) := by
  obtain ⟨G2, hw, h1, h2⟩ := hj.sync hp hd
  refine (syncLog_any B g lb d s _ p size _ w h hp hnum hT rfl).mono ?_
  rintro e w' ⟨rfl, d', h3, h4⟩
  exact ⟨_, _, G2, d', rfl, hw, ⟨h1, (sync_num p s).2, fun e => (h2 e).1⟩, h3, h4⟩
/-- A new disk's log, opened. -/
theorem openNew (B g : Nat) (d : Pk) (m : Vm) (p : ByteArray) (size : Nat) (w : World) (h : PSt w B g d) (hv : d.vm = m) (hfs : m.fs = []) (hd : m.down = false) (hp : IsPre p) (hz : 1 ≤ size ∧ size ≤ 1048576) (hT : Tab B w) :
    Calls Tryz.prog 10 #[.pointer (some ⟨g, 0, none⟩), .string p, .int .i64 (size : Int)] w fun e w' => ∃ lb A c d', e = .returned (.tuple #[.pointer (some ⟨lb, 0, none⟩), .slice A 0 c, .int .i64 0]) ∧ LSt w' B g lb d' ⟨m, 1, 0⟩ p size ∧ Does (d.own g) (lown d' g lb) w w' ∧ w.heap.size ≤ lb := by
  have hg : Found ⟨m, 0, 0⟩ p [] 0 := ⟨hfs, ⟨List.Pairwise.nil, fun x hx => (List.not_mem_nil hx).elim⟩, rfl, hd, fun e => absurd rfl e, fun x hx => (List.not_mem_nil hx).elim, fun x hx => (List.not_mem_nil hx).elim, fun i x hi => by omega, by simp [pays], by omega, by show sumM m.fs ≤ _; rw [hfs]; simp [sumM]⟩
  refine (open_any B g d m p size 0 [] w h hv hp hz hT hg (by decide)).mono ?_
  rintro e w' ⟨lb, T, A, c, k, d', rfl, hk, ht, -, -, hl, hdo, hlb⟩
  have e0 : k = 0 := by
    have := congrArg List.length ht
    rw [byts_len, hk] at this
    simpa [pays] using this
  subst e0
  refine ⟨lb, A, c, d', rfl, ?_, hdo, hlb⟩
  have e1 : ({ m with fs := segFs p (([] : List Sg).map fixS) } : Vm) = m := by
    show ({ m with fs := [] } : Vm) = m
    rw [← hfs]
  rw [e1] at hl
  exact hl

end Go.Proofs.YtjppklgegpmfpaaGreatDoor
