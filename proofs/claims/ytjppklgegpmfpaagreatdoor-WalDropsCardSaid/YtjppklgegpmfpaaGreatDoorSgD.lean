/-
  Plain: a log that is written to: its segments' records, and how many of them are synced.
-/
import Derived.Test.YtjppklgegpmfpaaGreatDoorSgC
import Derived.Test.YtjppklgegpmfpaaGreatDoorWgF
namespace Go.Proofs.YtjppklgegpmfpaaGreatDoor
open Go.RowKit

/-- What a call does that counts. -/
theorem does_ways (m : Vm) (f : List (ByteArray × List Int × Int) → List (ByteArray × List Int × Int)) : (m.left = 0 ∧ m.does 0 f = ({ m with down := true }, 20)) ∨ (m.left ≠ 0 ∧ m.does 0 f = ({ m with left := if 0 < m.left then m.left - 1 else m.left, fs := f m.fs }, 0)) := by
  unfold Vm.does
  rw [if_neg (by simp)]
  unfold Vm.step
  by_cases h0 : m.left = 0
  · refine .inl ⟨h0, ?_⟩
    rw [if_pos h0, if_pos (show (20 : Int) ≠ 0 by decide)]
  · refine .inr ⟨h0, ?_⟩
    rw [if_neg h0]
    by_cases h1 : 0 < m.left
    · rw [if_pos h1, if_neg (by simp), if_pos h1]
    · rw [if_neg h1, if_neg (by simp), if_neg h1]
theorem append_ways (m : Vm) (s : ByteArray) (b : List Int) (h : readyE m.down [s] = 0) : (0 ≤ m.room ∧ m.append s b = (m, 21)) ∨ (m.left = 0 ∧ m.append s b = ({ m with down := true }, 20)) ∨ (m.left ≠ 0 ∧ m.append s b = ({ m with left := if 0 < m.left then m.left - 1 else m.left, fs := appM s b (if findM s m.fs = none then insM (s, [], 0) m.fs else m.fs) }, 0)) := by
  unfold Vm.append
  rw [h, if_neg (by simp)]
  by_cases hr : 0 ≤ m.room ∧ m.room < ((b.length + sumM m.fs : Nat) : Int)
  · exact .inl ⟨hr.1, by rw [if_pos hr]⟩
  · rw [if_neg hr]
    unfold Vm.step
    by_cases h0 : m.left = 0
    · refine .inr (.inl ⟨h0, ?_⟩)
      rw [if_pos h0, if_pos (show (20 : Int) ≠ 0 by decide)]
    · refine .inr (.inr ⟨h0, ?_⟩)
      rw [if_neg h0]
      by_cases h1 : 0 < m.left
      · rw [if_pos h1, if_neg (by simp), if_pos h1]
      · rw [if_neg h1, if_neg (by simp), if_neg h1]

/-- A segment: its number, its records, how many of them are synced. -/
abbrev Gr := Nat × List (List Int) × Nat
def raw (x : Gr) : Sg := (x.1, flatL x.2.1, ((flatL (x.2.1.take x.2.2)).length : Int))
def total (G : List Gr) : List (List Int) := (G.map (fun x => x.2.1)).flatten
def sureG (G : List Gr) : Nat := (G.map (fun x => x.2.2)).sum
theorem total_append (G M : List Gr) : total (G ++ M) = total G ++ total M := by unfold total; rw [List.map_append, List.flatten_append]
theorem total_one (x : Gr) : total [x] = x.2.1 := by unfold total; simp
theorem sure_append (G M : List Gr) : sureG (G ++ M) = sureG G + sureG M := by unfold sureG; rw [List.map_append, List.sum_append]
theorem sure_one (x : Gr) : sureG [x] = x.2.2 := by unfold sureG; simp
theorem sure_full : ∀ {G : List Gr}, (∀ x ∈ G, x.2.2 = x.2.1.length) → sureG G = (total G).length
  | [], _ => rfl
  | x :: G, h => by
    have ih := sure_full (G := G) (fun y hy => h y (List.mem_cons_of_mem _ hy))
    rw [show x :: G = [x] ++ G from rfl, sure_append, total_append, List.length_append, ih, sure_one, total_one, h x (by simp)]
/-- What a log's disk has. -/
structure K (p : ByteArray) (m : Vm) (G : List Gr) : Prop where
  fs : m.fs = segFs p (G.map raw)
  rise : Rising (G.map raw)
  fine : ∀ r ∈ total G, Fine r
  part : ∀ x ∈ G, x.2.2 ≤ x.2.1.length
  full : ∀ (M : List Gr) (x : Gr), G = M ++ [x] → ∀ y ∈ M, y.2.2 = y.2.1.length
/-- .. and a log that goes on. -/
structure J (p : ByteArray) (s : Ls) (G : List Gr) : Prop where
  k : K p s.m G
  num : 1 ≤ s.num
  cur : (s.len = 0 ∧ ∀ x ∈ G, x.1 < s.num ∧ x.2.2 = x.2.1.length) ∨ (∃ M ps a, G = M ++ [(s.num, ps, a)] ∧ s.len = (flatL ps).length ∧ ps ≠ [])
  seq : G.map (fun x => x.1) = List.range' 1 G.length
  cnt : (s.len = 0 → s.num = G.length + 1) ∧ (s.len ≠ 0 → s.num = G.length)
theorem K.of {p : ByteArray} {m m' : Vm} {G : List Gr} (h : K p m G) (e : m'.fs = m.fs) : K p m' G := ⟨e.trans h.fs, h.rise, h.fine, h.part, h.full⟩
theorem flat_ne {ps : List (List Int)} (h : ps ≠ []) : 0 < (flatL ps).length := by
  cases ps with
  | nil => exact absurd rfl h
  | cons p ps => rw [flatL, List.length_append, putL_len]; omega
theorem nums_raw (G : List Gr) : (G.map raw).map Prod.fst = G.map (fun x => x.1) := by rw [List.map_map]; rfl
theorem rise_last {M : List Gr} {x x' : Gr} (h : Rising ((M ++ [x]).map raw)) (e : x'.1 = x.1) : Rising ((M ++ [x']).map raw) := h.same (by rw [nums_raw, nums_raw, List.map_append, List.map_append]; simp [e])
theorem rise_lt {M : List Gr} {x : Gr} (h : Rising ((M ++ [x]).map raw)) : ∀ y ∈ M, y.1 < x.1 := fun y hy => by
  have h1 := h.lt
  rw [List.map_append, List.pairwise_append] at h1
  exact h1.2.2 (raw y) (List.mem_map_of_mem hy) (raw x) (by simp)
theorem rise_more {G : List Gr} {x : Gr} (h : Rising (G.map raw)) (hx : 1 ≤ x.1 ∧ x.1 ≤ 999999) (hl : ∀ y ∈ G, y.1 < x.1) : Rising ((G ++ [x]).map raw) := by
  rw [List.map_append]
  refine ⟨List.pairwise_append.2 ⟨h.lt, by simp, fun a ha b hb => ?_⟩, fun y hy => ?_⟩
  · obtain ⟨y, hy, rfl⟩ := List.mem_map.1 ha
    simp at hb
    rw [hb]
    exact hl y hy
  · rcases List.mem_append.1 hy with hy | hy
    · exact h.inn y hy
    · simp at hy
      rw [hy]
      exact hx
/-- Of each record the segment that it lies in. -/
def tags (G : List Gr) : List Nat := (G.map (fun x => List.replicate x.2.1.length x.1)).flatten
theorem tags_append (G M : List Gr) : tags (G ++ M) = tags G ++ tags M := by unfold tags; rw [List.map_append, List.flatten_append]
theorem tags_one (x : Gr) : tags [x] = List.replicate x.2.1.length x.1 := by unfold tags; simp
/-- What a call leaves. -/
structure Went (p : ByteArray) (s s' : Ls) (r : Int) (G G' : List Gr) (more : List (List Int)) : Prop where
  k : K p s'.m G'
  sure : sureG G ≤ sureG G'
  room : s'.m.room = s.m.room
  keep : s'.m.keep = s.m.keep
  num : s'.num ≤ s.num + 1
  top : ∀ N, s.num + 1 ≤ N → (∀ x ∈ G, x.1 ≤ N) → ∀ x ∈ G', x.1 ≤ N
  ways : (r = 0 ∧ J p s' G' ∧ s'.m.down = false ∧ total G' = total G ++ more) ∨ ((r = 20 ∨ r = 21) ∧ total G' = total G)
  still : Still s.m → r = 0 ∧ s'.m.left = s.m.left
  tag : r = 0 → tags G' = tags G ++ List.replicate more.length s'.num
theorem last_get (M : List Gr) (x : Gr) : ((M ++ [x]).map raw)[M.length]? = some (raw x) := by rw [List.map_append, List.getElem?_append_right (by simp)]; simp

theorem J.sync {p : ByteArray} {s : Ls} {G : List Gr} (hp : IsPre p) (h : J p s G) (hd : s.m.down = false) : ∃ G', Went p s (s.sync p).1 (s.sync p).2 G G' [] ∧ (s.sync p).1.num = s.num ∧ ((s.sync p).2 = 0 → sureG G' = (total G').length ∧ ∀ x ∈ G', x.1 ≤ s.num ∧ x.2.2 = x.2.1.length) := by
  unfold Ls.sync
  by_cases h0 : s.len = 0
  · rw [if_pos h0]
    have hfull : ∀ x ∈ G, x.1 < s.num ∧ x.2.2 = x.2.1.length := by
      rcases h.cur with ⟨-, h2⟩ | ⟨M, ps, a, rfl, h2, h3⟩
      · exact h2
      · have := flat_ne h3
        omega
    exact ⟨G, ⟨h.k, Nat.le_refl _, rfl, rfl, Nat.le_succ _, fun _ _ h => h, .inl ⟨rfl, h, hd, by simp⟩, fun hs => ⟨rfl, rfl⟩, fun _ => by simp⟩, rfl, fun _ => ⟨sure_full (fun x hx => (hfull x hx).2), fun x hx => ⟨Nat.le_of_lt (hfull x hx).1, (hfull x hx).2⟩⟩⟩
  · rw [if_neg h0]
    obtain ⟨M, ps, a, rfl, h2, h3⟩ := h.cur.resolve_left (fun e => h0 e.1)
    have hget := last_get M (s.num, ps, a)
    have hh := hinder_seg hp hd h.k.fs h.k.rise hget
    have ha := h.k.part _ (List.mem_append_right M (List.mem_singleton.2 rfl))
    have hm0 := h.k.full M _ rfl
    show ∃ G', Went p s ⟨(s.m.sync (seg p s.num)).1, s.num, s.len⟩ (s.m.sync (seg p s.num)).2 _ G' [] ∧ _ ∧ ((s.m.sync (seg p s.num)).2 = 0 → _)
    have hsy : s.m.sync (seg p s.num) = s.m.does 0 (syncM (seg p s.num)) := by
      unfold Vm.sync
      rw [show s.m.hinder [seg p s.num] (seg p s.num) = 0 from hh]
    rw [hsy]
    rcases does_ways s.m (syncM (seg p s.num)) with ⟨e1, e2⟩ | ⟨e1, e2⟩
    · rw [e2]
      refine ⟨_, ⟨h.k.of rfl, Nat.le_refl _, rfl, rfl, Nat.le_succ _, fun _ _ h => h, .inr ⟨.inl rfl, rfl⟩, fun hs => by have := hs.left; omega, fun e => by cases e⟩, rfl, fun e => by cases e⟩
    · rw [e2]
      have hfs : syncM (seg p s.num) s.m.fs = segFs p ((M ++ [(s.num, ps, ps.length)]).map raw) := by
        unfold syncM
        rw [h.k.fs, show seg p s.num = seg p (raw (s.num, ps, a)).1 from rfl, findM_seg h.k.rise hget]
        simp only [segFs_get hget]
        rw [List.map_append, List.map_append]
        unfold segFs
        rw [List.map_append, List.map_append, List.set_append_right _ _ (by simp)]
        simp [raw]
      have hK : K p { s.m with left := if 0 < s.m.left then s.m.left - 1 else s.m.left, fs := syncM (seg p s.num) s.m.fs } (M ++ [(s.num, ps, ps.length)]) := by
        refine ⟨hfs, rise_last h.k.rise rfl, fun r hr => h.k.fine r ?_, fun x hx => ?_, fun M' x' e y hy => ?_⟩
        · rw [total_append, total_one] at hr ⊢
          exact hr
        · rcases List.mem_append.1 hx with hx | hx
          · exact h.k.part x (List.mem_append_left _ hx)
          · rw [List.mem_singleton.1 hx]
            exact Nat.le_refl _
        · have := (List.append_inj' e rfl).1
          rw [← this] at hy
          exact hm0 y hy
      refine ⟨M ++ [(s.num, ps, ps.length)], ⟨hK, ?_, rfl, rfl, Nat.le_succ _, fun N hN h x hx => by rcases List.mem_append.1 hx with hx | hx <;> first | exact h x (List.mem_append_left _ hx) | (rw [List.mem_singleton.1 hx]; simp only; omega), .inl ⟨rfl, ⟨hK, h.num, .inr ⟨M, ps, ps.length, rfl, h2, h3⟩, by have := h.seq; simpa using this, by have := h.cnt; simpa using this⟩, hd, ?_⟩, fun hs => ⟨rfl, by have := hs.left; show (if 0 < s.m.left then s.m.left - 1 else s.m.left) = _; rw [if_neg (by omega)]⟩, fun _ => by rw [tags_append, tags_append, tags_one, tags_one]; simp⟩, rfl, fun _ => ⟨?_, fun x hx => ?_⟩⟩
      · rw [sure_append, sure_append, sure_one, sure_one]
        simp only at ha ⊢
        omega
      · rw [total_append, total_append, total_one, total_one, List.append_nil]
      · refine sure_full (fun x hx => ?_)
        rcases List.mem_append.1 hx with hx | hx
        · exact hm0 x hx
        · rw [List.mem_singleton.1 hx]
      · rcases List.mem_append.1 hx with hx | hx
        · exact ⟨Nat.le_of_lt (rise_lt h.k.rise x hx), hm0 x hx⟩
        · rw [List.mem_singleton.1 hx]
          exact ⟨Nat.le_refl _, rfl⟩

theorem J.advance {p : ByteArray} {s : Ls} {G : List Gr} {size : Nat} (hp : IsPre p) (hz : 1 ≤ size) (h : J p s G) (hd : s.m.down = false) : ∃ G', Went p s (s.advance p size).1 (s.advance p size).2 G G' [] := by
  unfold Ls.advance
  by_cases h1 : s.len < size
  · rw [if_pos h1]
    exact ⟨G, h.k, Nat.le_refl _, rfl, rfl, Nat.le_succ _, fun _ _ h => h, .inl ⟨rfl, h, hd, by simp⟩, fun hs => ⟨rfl, rfl⟩, fun _ => by simp⟩
  · rw [if_neg h1]
    obtain ⟨G', hw, hn, hf⟩ := h.sync hp hd
    by_cases h0 : (s.sync p).2 = 0
    · rw [if_neg (by simp [h0])]
      obtain ⟨h2, h3⟩ := hf h0
      rcases hw.ways with ⟨-, h5, h6, h7⟩ | ⟨h5, -⟩
      · exact ⟨G', hw.k, hw.sure, hw.room, hw.keep, Nat.le_refl _, hw.top, .inl ⟨rfl, ⟨hw.k, Nat.le_add_left 1 s.num, .inl ⟨rfl, fun x hx => ⟨by have := (h3 x hx).1; simp only; omega, (h3 x hx).2⟩⟩, h5.seq, fun _ => by have h9 := h5.cnt.2 (by rw [(sync_num p s).2]; omega); rw [(sync_num p s).1] at h9; simp only; omega, fun e => absurd rfl e⟩, h6, h7⟩, fun hs => ⟨rfl, (hw.still hs).2⟩, fun _ => by have := hw.tag h0; simpa using this⟩
      · rw [h0] at h5
        rcases h5 with h5 | h5 <;> cases h5
    · rw [if_pos h0]
      exact ⟨G', hw⟩

theorem J.append {p : ByteArray} {s : Ls} {G : List Gr} {size : Nat} {b : List Int} (hp : IsPre p) (hz : 1 ≤ size) (h : J p s G) (hd : s.m.down = false) (hb : Fine b) (hn : s.num ≤ 999998) : ∃ G', Went p s (s.append p size b).1 (s.append p size b).2 G G' [b] := by
  obtain ⟨G1, hw⟩ := h.advance (size := size) hp hz hd
  unfold Ls.append
  by_cases h0 : (s.advance p size).2 = 0
  · rw [if_neg (by simp [h0])]
    rcases hw.ways with ⟨-, hj, hd1, ht⟩ | ⟨h5, -⟩
    · obtain ⟨s1, hs1⟩ : ∃ s1, (s.advance p size).1 = s1 := ⟨_, rfl⟩
      rw [hs1] at hw hj hd1 ⊢
      rw [List.append_nil] at ht
      have hr := ready_ok (m := s1.m) (names := [seg p s1.num]) hd1 (by intro x hx; rw [List.mem_singleton.1 hx]; exact seg_ok hp _)
      rcases append_ways s1.m (seg p s1.num) (putL b) hr with ⟨e1, e2⟩ | ⟨e1, e2⟩ | ⟨e1, e2⟩
      · rw [e2, if_pos (by simp)]
        exact ⟨G1, hw.k.of rfl, hw.sure, hw.room, hw.keep, hw.num, hw.top, .inr ⟨.inr rfl, ht⟩, fun hs => by have := hs.room; rw [← hw.room] at this; omega, fun e => by cases e⟩
      · rw [e2, if_pos (by simp)]
        exact ⟨G1, hw.k.of rfl, hw.sure, hw.room, hw.keep, hw.num, hw.top, .inr ⟨.inl rfl, ht⟩, fun hs => by have := hs.left; rw [← (hw.still hs).2] at this; omega, fun e => by cases e⟩
      · rw [e2, if_neg (by simp)]
        have hst : Still s.m → (0 : Int) = 0 ∧ (if 0 < s1.m.left then s1.m.left - 1 else s1.m.left) = s.m.left := fun hs => ⟨rfl, by have := hs.left; have h9 := (hw.still hs).2; rw [if_neg (by omega), h9]⟩
        rcases hj.cur with ⟨c1, c2⟩ | ⟨M, ps, a, rfl, c2, c3⟩
        · have hnone : findM (seg p s1.num) s1.m.fs = none := by
            rw [hw.k.fs]
            refine findM_other (fun x hx => (hw.k.rise.inn x hx).2) (by have := hw.num; omega) (fun x hx => ?_)
            obtain ⟨y, hy, rfl⟩ := List.mem_map.1 hx
            have := (c2 y hy).1
            show y.1 ≠ _
            omega
          have hrise : Rising ((G1 ++ [(s1.num, [b], 0)]).map raw) := rise_more hw.k.rise ⟨hj.num, by have := hw.num; simp only; omega⟩ (fun y hy => (c2 y hy).1)
          have hrise0 : Rising ((G1 ++ [(s1.num, [], 0)]).map raw) := rise_last hrise rfl
          have hfs : appM (seg p s1.num) (putL b) (if findM (seg p s1.num) s1.m.fs = none then insM (seg p s1.num, [], 0) s1.m.fs else s1.m.fs) = segFs p ((G1 ++ [(s1.num, [b], 0)]).map raw) := by
            have e3 : insM (seg p s1.num, [], 0) (segFs p (G1.map raw)) = segFs p ((G1 ++ [(s1.num, [], 0)]).map raw) := by
              rw [insM_last (fun x hx => (hw.k.rise.inn x hx).2) (by have := hw.num; omega) (fun x hx => by obtain ⟨y, hy, rfl⟩ := List.mem_map.1 hx; exact (c2 y hy).1), List.map_append]
              rfl
            rw [if_pos hnone, hw.k.fs, e3]
            have hget := last_get G1 (s1.num, [], 0)
            unfold appM
            rw [show seg p s1.num = seg p (raw (s1.num, [], 0)).1 from rfl, findM_seg hrise0 hget]
            simp only [segFs_get hget]
            rw [List.map_append, List.map_append]
            unfold segFs
            rw [List.map_append, List.map_append, List.set_append_right _ _ (by simp)]
            simp [raw, flatL]
          have hK : K p { s1.m with left := if 0 < s1.m.left then s1.m.left - 1 else s1.m.left, fs := appM (seg p s1.num) (putL b) (if findM (seg p s1.num) s1.m.fs = none then insM (seg p s1.num, [], 0) s1.m.fs else s1.m.fs) } (G1 ++ [(s1.num, [b], 0)]) := by
            refine ⟨hfs, hrise, fun r hr => ?_, fun x hx => ?_, fun M' x' e y hy => ?_⟩
            · rw [total_append, total_one] at hr
              rcases List.mem_append.1 hr with hr | hr
              · exact hw.k.fine r hr
              · rw [List.mem_singleton.1 hr]
                exact hb
            · rcases List.mem_append.1 hx with hx | hx
              · exact hw.k.part x hx
              · rw [List.mem_singleton.1 hx]
                exact Nat.zero_le _
            · have := (List.append_inj' e rfl).1
              rw [← this] at hy
              exact (c2 y hy).2
          refine ⟨_, hK, ?_, hw.room, hw.keep, hw.num, fun N hN h x hx => by rcases List.mem_append.1 hx with hx | hx <;> first | exact hw.top N hN h x hx | (rw [List.mem_singleton.1 hx]; have := hw.num; simp only; omega), .inl ⟨rfl, ⟨hK, hj.num, .inr ⟨G1, [b], 0, rfl, ?_, by simp⟩, by rw [List.map_append, hj.seq, List.length_append]; have := hj.cnt.1 c1; simp only [List.map_cons, List.map_nil, List.length_cons, List.length_nil, Nat.zero_add]; rw [List.range'_concat, this]; simp [Nat.add_comm], fun e => by simp only at e; rw [putL_len] at e; omega, fun _ => by have := hj.cnt.1 c1; simp only [List.length_append, List.length_cons, List.length_nil]; omega⟩, hd1, ?_⟩, hst, fun _ => by have h9 := hw.tag h0; simp only [List.length_nil, List.replicate_zero, List.append_nil] at h9; rw [tags_append, tags_one, h9]⟩
          · rw [sure_append, sure_one]
            have := hw.sure
            omega
          · show s1.len + (putL b).length = _
            rw [c1, flatL]
            simp [flatL]
          · rw [total_append, total_one, ht]
        · have hget := last_get M (s1.num, ps, a)
          have hsome : findM (seg p s1.num) s1.m.fs = some M.length := by
            rw [hw.k.fs]
            exact findM_seg (p := p) hw.k.rise hget
          have ha := hw.k.part _ (List.mem_append_right M (List.mem_singleton.2 rfl))
          have hfs : appM (seg p s1.num) (putL b) (if findM (seg p s1.num) s1.m.fs = none then insM (seg p s1.num, [], 0) s1.m.fs else s1.m.fs) = segFs p ((M ++ [(s1.num, ps ++ [b], a)]).map raw) := by
            rw [if_neg (by rw [hsome]; simp)]
            unfold appM
            rw [hsome, hw.k.fs]
            simp only [segFs_get hget]
            rw [List.map_append, List.map_append]
            unfold segFs
            rw [List.map_append, List.map_append, List.set_append_right _ _ (by simp)]
            simp only [List.length_map, Nat.sub_self, List.map_cons, List.map_nil, List.set_cons_zero]
            simp only at ha
            simp only [raw, flatL_append, List.take_append_of_le_length ha]
            simp [flatL]
          have hK : K p { s1.m with left := if 0 < s1.m.left then s1.m.left - 1 else s1.m.left, fs := appM (seg p s1.num) (putL b) (if findM (seg p s1.num) s1.m.fs = none then insM (seg p s1.num, [], 0) s1.m.fs else s1.m.fs) } (M ++ [(s1.num, ps ++ [b], a)]) := by
            refine ⟨hfs, rise_last hw.k.rise rfl, fun r hr => ?_, fun x hx => ?_, fun M' x' e y hy => ?_⟩
            · rw [total_append, total_one] at hr
              have h8 := hw.k.fine r
              rw [total_append, total_one] at h8
              rcases List.mem_append.1 hr with hr | hr
              · exact h8 (List.mem_append_left _ hr)
              · rcases List.mem_append.1 hr with hr | hr
                · exact h8 (List.mem_append_right _ hr)
                · rw [List.mem_singleton.1 hr]
                  exact hb
            · rcases List.mem_append.1 hx with hx | hx
              · exact hw.k.part x (List.mem_append_left _ hx)
              · rw [List.mem_singleton.1 hx]
                simp only [List.length_append] at ha ⊢
                omega
            · have := (List.append_inj' e rfl).1
              rw [← this] at hy
              exact hw.k.full M _ rfl y hy
          refine ⟨_, hK, ?_, hw.room, hw.keep, hw.num, fun N hN h x hx => by rcases List.mem_append.1 hx with hx | hx <;> first | exact hw.top N hN h x (List.mem_append_left _ hx) | (rw [List.mem_singleton.1 hx]; have := hw.num; simp only; omega), .inl ⟨rfl, ⟨hK, hj.num, .inr ⟨M, ps ++ [b], a, rfl, ?_, by simp⟩, by have := hj.seq; simpa using this, fun e => by simp only at e; rw [putL_len] at e; omega, fun _ => by have := hj.cnt.2 (by rw [c2]; have := flat_ne c3; omega); simpa using this⟩, hd1, ?_⟩, hst, fun _ => by have h9 := hw.tag h0; simp only [List.length_nil, List.replicate_zero, List.append_nil] at h9; rw [← h9, tags_append, tags_append, tags_one, tags_one]; simp [List.replicate_succ']⟩
          · have h8 := hw.sure
            rw [sure_append, sure_one] at h8 ⊢
            exact h8
          · show s1.len + (putL b).length = _
            rw [c2, flatL_append, List.length_append]
            simp [flatL]
          · rw [← ht, total_append, total_append, total_one, total_one, List.append_assoc]
    · rw [h0] at h5
      rcases h5 with h5 | h5 <;> cases h5
  · rw [if_pos h0]
    refine ⟨G1, hw.k, hw.sure, hw.room, hw.keep, hw.num, hw.top, ?_, hw.still, fun e => absurd e h0⟩
    rcases hw.ways with ⟨h5, -⟩ | ⟨h5, h6⟩
    · exact absurd h5 h0
    · exact .inr ⟨h5, h6⟩

theorem adv_at {p : ByteArray} {s : Ls} {size : Nat} (h : (s.advance p size).2 = 0) : ((s.advance p size).1.num = if s.len < size then s.num else s.num + 1) ∧ ((s.advance p size).1.len = if s.len < size then s.len else 0) := by
  unfold Ls.advance at h ⊢
  by_cases h1 : s.len < size
  · rw [if_pos h1, if_pos h1, if_pos h1]
    exact ⟨rfl, rfl⟩
  · rw [if_neg h1] at h ⊢
    rw [if_neg h1, if_neg h1]
    by_cases h0 : (s.sync p).2 = 0
    · rw [if_neg (by simp [h0])]
      exact ⟨rfl, rfl⟩
    · rw [if_pos h0] at h
      exact absurd h h0
theorem app_at {p : ByteArray} {s : Ls} {size : Nat} {b : List Int} (h : (s.append p size b).2 = 0) : ((s.append p size b).1.num = if s.len < size then s.num else s.num + 1) ∧ ((s.append p size b).1.len = (if s.len < size then s.len else 0) + (8 + b.length)) := by
  unfold Ls.append at h ⊢
  by_cases h0 : (s.advance p size).2 = 0
  · rw [if_neg (by simp [h0])] at h ⊢
    split at h
    · next h2 => exact absurd h h2
    · next h2 =>
      rw [if_neg h2]
      simp only [putL_len]
      rw [(adv_at h0).1, (adv_at h0).2]
      exact ⟨rfl, rfl⟩
  · rw [if_pos h0] at h
    exact absurd h h0
theorem J.start {p : ByteArray} {m : Vm} (h : m.fs = []) : J p ⟨m, 1, 0⟩ [] :=
  ⟨⟨h, ⟨List.Pairwise.nil, fun x hx => (List.not_mem_nil hx).elim⟩, fun x hx => (List.not_mem_nil hx).elim, fun x hx => (List.not_mem_nil hx).elim, fun M x e => by simp at e⟩, Nat.le_refl _, .inl ⟨rfl, fun x hx => (List.not_mem_nil hx).elim⟩, rfl, fun _ => rfl, fun e => absurd rfl e⟩

end Go.Proofs.YtjppklgegpmfpaaGreatDoor
