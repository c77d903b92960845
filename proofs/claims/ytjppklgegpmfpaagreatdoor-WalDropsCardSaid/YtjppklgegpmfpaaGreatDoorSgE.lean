/-
  Plain: what a crash leaves of a log, and what opening finds of it.
-/
import Derived.Test.YtjppklgegpmfpaaGreatDoorSgD
import Derived.Test.YtjppklgegpmfpaaGreatDoorWgM
namespace Go.Proofs.YtjppklgegpmfpaaGreatDoor
open Go.RowKit

theorem le_sum : ∀ {l : List Nat} {x : Nat}, x ∈ l → x ≤ l.sum
  | y :: l, x, h => by
    rw [List.sum_cons]
    rcases List.mem_cons.1 h with rfl | h
    · omega
    · have := le_sum h
      omega
theorem flat_le : ∀ ps : List (List Int), (∀ r ∈ ps, Fine r) → (flatL ps).length ≤ 5008 * ps.length
  | [], _ => by simp [flatL]
  | p :: ps, h => by
    have ih := flat_le ps (fun r hr => h r (List.mem_cons_of_mem _ hr))
    have := (h p (by simp)).2
    rw [flatL, List.length_append, putL_len, List.length_cons]
    omega
theorem flat_byt : ∀ ps : List (List Int), (∀ r ∈ ps, Fine r) → Byt (flatL ps)
  | [], _ => Byt.nil
  | p :: ps, h => (putL_byt p (h p (by simp)).1).append (flat_byt ps (fun r hr => h r (List.mem_cons_of_mem _ hr)))
theorem fine_put {ps : List (List Int)} (h : ∀ r ∈ ps, Fine r) : ∀ r ∈ ps, Byt r ∧ r.length ≤ 2097152 := fun r hr => ⟨(h r hr).1, by have := (h r hr).2; omega⟩
theorem pays_append (a b : List (List Int)) : pays (a ++ b) = pays a ++ pays b := by unfold pays; rw [List.map_append, List.flatten_append]
theorem pays_one (x : List Int) : pays [x] = (allL x).1 := by unfold pays; simp
theorem pays_raw : ∀ (M : List Gr), (∀ r ∈ total M, Fine r) → pays ((M.map raw).map (fun x => x.2.1)) = total M
  | [], _ => rfl
  | x :: M, h => by
    have e : total (x :: M) = x.2.1 ++ total M := by rw [show x :: M = [x] ++ M from rfl, total_append, total_one]
    rw [e] at h ⊢
    have ih := pays_raw M (fun r hr => h r (List.mem_append_right _ hr))
    rw [List.map_cons, List.map_cons, show (raw x).2.1 :: List.map (fun x => x.2.1) (M.map raw) = [(raw x).2.1] ++ List.map (fun x => x.2.1) (M.map raw) from rfl, pays_append, ih, pays_one]
    show (allL (flatL x.2.1)).1 ++ _ = _
    rw [allL_back _ (fine_put (fun r hr => h r (List.mem_append_left _ hr)))]
theorem sum_raw : ∀ (M : List Gr), (∀ r ∈ total M, Fine r) → ((M.map raw).map (fun x => x.2.1.length)).sum ≤ 5008 * (total M).length
  | [], _ => by simp
  | x :: M, h => by
    have e : total (x :: M) = x.2.1 ++ total M := by rw [show x :: M = [x] ++ M from rfl, total_append, total_one]
    rw [e] at h ⊢
    have ih := sum_raw M (fun r hr => h r (List.mem_append_right _ hr))
    have h1 := flat_le x.2.1 (fun r hr => h r (List.mem_append_left _ hr))
    rw [List.map_cons, List.map_cons, List.sum_cons, List.length_append]
    show (flatL x.2.1).length + _ ≤ _
    omega

/-- Segments of which the last one may break off. -/
def CutOf (G : List Gr) (L : List Sg) : Prop := (G = [] ∧ L = []) ∨ ∃ M k ps a t y, G = M ++ [(k, ps, a)] ∧ L = M.map raw ++ [(k, (flatL ps).take t, y)] ∧ (flatL (ps.take a)).length ≤ t ∧ t ≤ (flatL ps).length
theorem K.here {p : ByteArray} {m : Vm} {G : List Gr} (h : K p m G) : CutOf G (G.map raw) := by
  rcases List.eq_nil_or_concat G with rfl | ⟨M, x, rfl⟩
  · exact .inl ⟨rfl, rfl⟩
  · obtain ⟨k, ps, a⟩ := x
    rw [List.concat_eq_append] at h ⊢
    have ha := h.part (k, ps, a) (by simp)
    refine .inr ⟨M, k, ps, a, (flatL ps).length, _, rfl, by rw [List.map_append]; show _ ++ [raw (k, ps, a)] = _; unfold raw; rw [List.take_length], ?_, Nat.le_refl _⟩
    have e : flatL ps = flatL (ps.take a) ++ flatL (ps.drop a) := by rw [← flatL_append, List.take_append_drop]
    rw [e, List.length_append]
    omega
theorem revL_full (p : ByteArray) (keep : List Int) : ∀ (M : List Gr) (n : Nat) (fs : List (ByteArray × List Int × Int)), (∀ x ∈ M, x.2.2 = x.2.1.length) → revL keep n (segFs p (M.map raw) ++ fs) = segFs p (M.map raw) ++ revL keep n fs
  | [], _, _, _ => rfl
  | x :: M, n, fs, h => by
    have hx := h x (by simp)
    have e1 : rev1 keep n (seg p (raw x).1, (raw x).2.1, (raw x).2.2) = ((seg p (raw x).1, (raw x).2.1, (raw x).2.2), n) := by
      unfold rev1 raw
      rw [hx, List.take_length]
      simp
    show revL keep n ((seg p (raw x).1, (raw x).2.1, (raw x).2.2) :: (segFs p (M.map raw) ++ fs)) = _
    rw [revL, e1, revL_full p keep M n fs (fun y hy => h y (List.mem_cons_of_mem _ hy))]
    rfl
theorem K.revive {p : ByteArray} {m : Vm} {G : List Gr} (h : K p m G) : ∃ L, CutOf G L ∧ revL m.keep 0 m.fs = segFs p L := by
  rcases List.eq_nil_or_concat G with rfl | ⟨M, x, rfl⟩
  · exact ⟨[], .inl ⟨rfl, rfl⟩, by rw [h.fs]; rfl⟩
  · obtain ⟨k, ps, a⟩ := x
    rw [List.concat_eq_append] at h ⊢
    have ha := h.part (k, ps, a) (by simp)
    have hle : (flatL (ps.take a)).length ≤ (flatL ps).length := by
      have e : flatL ps = flatL (ps.take a) ++ flatL (ps.drop a) := by rw [← flatL_append, List.take_append_drop]
      rw [e, List.length_append]
      omega
    have hfs : m.fs = segFs p (M.map raw) ++ [(seg p k, flatL ps, ((flatL (ps.take a)).length : Int))] := by
      rw [h.fs, List.map_append]
      unfold segFs
      rw [List.map_append]
      rfl
    rw [hfs, revL_full p m.keep M 0 _ (h.full M _ rfl)]
    by_cases hlt : 0 < ((flatL ps).length : Int) - ((flatL (ps.take a)).length : Int)
    · obtain ⟨k1, k2⟩ := kept_in m.keep 0 _ hlt
      obtain ⟨u, hu⟩ : ∃ u, keptM m.keep 0 (((flatL ps).length : Int) - ((flatL (ps.take a)).length : Int)) = u := ⟨_, rfl⟩
      rw [hu] at k1 k2
      refine ⟨M.map raw ++ [(k, (flatL ps).take (((flatL (ps.take a)).length : Int) + u).toNat, ((flatL (ps.take a)).length : Int) + u)], .inr ⟨M, k, ps, a, _, _, rfl, rfl, by omega, by omega⟩, ?_⟩
      unfold segFs
      rw [List.map_append]
      congr 1
      show revL m.keep 0 [_] = [_]
      unfold revL rev1 revL
      simp only
      rw [if_pos hlt, hu]
    · refine ⟨M.map raw ++ [(k, (flatL ps).take (flatL ps).length, ((flatL ps).length : Int))], .inr ⟨M, k, ps, a, _, _, rfl, rfl, hle, Nat.le_refl _⟩, ?_⟩
      unfold segFs
      rw [List.map_append]
      congr 1
      show revL m.keep 0 [_] = [_]
      unfold revL rev1 revL
      simp only
      rw [if_neg hlt, List.take_length]

theorem CutOf.nums {G : List Gr} {L : List Sg} (h : CutOf G L) : L.map Prod.fst = (G.map raw).map Prod.fst := by
  rcases h with ⟨rfl, rfl⟩ | ⟨M, k, ps, a, t, y, rfl, rfl, -, -⟩
  · rfl
  · simp [raw]
/-- What opening finds. -/
theorem CutOf.found {p : ByteArray} {m m' : Vm} {G : List Gr} {L : List Sg} (hk : K p m G) (h : CutOf G L) (hfs : m'.fs = segFs p L) (hd : m'.down = false) (hs : L ≠ [] → Still m') (hg : G.length ≤ 200000) (ht : (total G).length ≤ 100000) :
    Found ⟨m', 0, 0⟩ p L L.length ∧ ∃ j, sureG G ≤ j ∧ j ≤ (total G).length ∧ pays (L.map (fun x => x.2.1)) = (total G).take j := by
  have hlen : L.length = G.length := by
    have := congrArg List.length h.nums
    simpa using this
  have hrise : Rising L := hk.rise.same h.nums
  have hn6 : L.length ≤ 1000000 := by omega
  rcases h with ⟨rfl, rfl⟩ | ⟨M, k, ps, a, t, y, rfl, rfl, h1, h2⟩
  · exact ⟨⟨hfs, hrise, rfl, hd, hs, fun x hx => (List.not_mem_nil hx).elim, fun x hx => (List.not_mem_nil hx).elim, fun i x hi => by simp at hi, by simp [pays], hn6, by show sumM m'.fs ≤ _; rw [hfs]; simp [segFs, sumM]⟩, 0, by simp [sureG], Nat.zero_le _, rfl⟩
  · have hfine := hk.fine
    rw [total_append, total_one] at hfine
    have hfM : ∀ r ∈ total M, Fine r := fun r hr => hfine r (List.mem_append_left _ hr)
    have hfp : ∀ r ∈ ps, Fine r := fun r hr => hfine r (List.mem_append_right _ hr)
    have ha := hk.part (k, ps, a) (by simp)
    have hfull := hk.full M _ rfl
    obtain ⟨j, j1, j2, j3⟩ := allL_upto ps t a hfp ha h1
    have hsM := sum_raw M hfM
    have hlp := flat_le ps hfp
    rw [total_append, total_one, List.length_append] at ht
    simp only at ht ha hlp
    have hpay : pays ((M.map raw ++ [(k, (flatL ps).take t, y)]).map (fun x => x.2.1)) = total M ++ ps.take j := by
      rw [List.map_append, pays_append, pays_raw M hfM, List.map_cons, List.map_nil, pays_one, j3]
    have hsum : ((M.map raw ++ [(k, (flatL ps).take t, y)]).map (fun x => x.2.1.length)).sum ≤ 5008 * 100000 := by
      rw [List.map_append, List.sum_append]
      simp only [List.map_cons, List.map_nil, List.sum_cons, List.sum_nil, List.length_take]
      omega
    refine ⟨⟨hfs, hrise, rfl, hd, hs, fun x hx => ?_, fun x hx => ?_, fun i x hi hx => ?_, ?_, hn6, ?_⟩, (total M).length + j, ?_, ?_, ?_⟩
    · rcases List.mem_append.1 hx with hx | hx
      · obtain ⟨z, hz, rfl⟩ := List.mem_map.1 hx
        exact flat_byt _ (fun r hr => hfM r (by unfold total; exact List.mem_flatten.2 ⟨z.2.1, List.mem_map_of_mem hz, hr⟩))
      · rw [List.mem_singleton.1 hx]
        exact (flat_byt ps hfp).take t
    · have h7 : x.2.1.length ∈ (M.map raw ++ [(k, (flatL ps).take t, y)]).map (fun x => x.2.1.length) := List.mem_map_of_mem hx
      have := le_sum h7
      omega
    · simp only [List.length_append, List.length_map, List.length_cons, List.length_nil] at hi
      rw [List.getElem?_append_left (by simp; omega)] at hx
      have hm := List.mem_of_getElem? hx
      obtain ⟨z, hz, rfl⟩ := List.mem_map.1 hm
      show (allL (flatL z.2.1)).2.2 = 0
      rw [allL_back _ (fine_put (fun r hr => hfM r (by unfold total; exact List.mem_flatten.2 ⟨z.2.1, List.mem_map_of_mem hz, hr⟩)))]
    · rw [hpay, List.length_append, List.length_take]
      omega
    · show sumM m'.fs ≤ _
      rw [hfs, sum_segFs]
      omega
    · rw [sure_append, sure_one, sure_full hfull]
      simp only
      omega
    · rw [total_append, total_one, List.length_append]
      simp only
      omega
    · rw [hpay, total_append, total_one, List.take_length_add_append]

theorem fix_pay (x : Sg) : (allL (fixS x).2.1).1 = (allL x.2.1).1 ∧ (allL (fixS x).2.1).2.2 = 0 := by
  have := (allL_fix _ x.2.1 (Nat.le_refl _)).1
  unfold fixS syn
  simp only
  rw [this]
  exact ⟨rfl, rfl⟩
theorem fix_nums (L : List Sg) : (L.map fixS).map Prod.fst = L.map Prod.fst := by rw [List.map_map]; rfl
theorem Found.fix {m m' : Vm} {p : ByteArray} {L : List Sg} {n : Nat} (h : Found ⟨m, 0, 0⟩ p L n) (hfs : m'.fs = segFs p (L.map fixS)) (hd : m'.down = false) (hs : L ≠ [] → Still m') : Found ⟨m', 0, 0⟩ p (L.map fixS) n ∧ pays ((L.map fixS).map (fun x => x.2.1)) = pays (L.map (fun x => x.2.1)) := by
  have hpay : pays ((L.map fixS).map (fun x => x.2.1)) = pays (L.map (fun x => x.2.1)) := by
    unfold pays
    rw [List.map_map, List.map_map, List.map_map]
    congr 1
    exact List.map_congr_left fun x _ => (fix_pay x).1
  refine ⟨⟨hfs, h.rise.same (fix_nums L), by rw [List.length_map]; exact h.len, hd, fun e => hs (fun e2 => e (by rw [e2]; rfl)), fun x hx => ?_, fun x hx => ?_, fun i x hi hx => ?_, by rw [hpay]; exact h.few, h.n6, ?_⟩, hpay⟩
  · obtain ⟨z, hz, rfl⟩ := List.mem_map.1 hx
    exact (h.byt z hz).take _
  · obtain ⟨z, hz, rfl⟩ := List.mem_map.1 hx
    have := h.short z hz
    show ((z.2.1).take _).length ≤ _
    rw [List.length_take]
    omega
  · obtain ⟨z, hz, rfl⟩ := List.mem_map.1 (List.mem_of_getElem? hx)
    exact (fix_pay z).2
  · show sumM m'.fs ≤ _
    have h1 := h.sum
    have h2 : sumM m.fs = sumM (segFs p L) := by rw [show m.fs = segFs p L from h.fs]
    rw [show (⟨m, 0, 0⟩ : Ls).m = m from rfl, h2, sum_segFs] at h1
    rw [hfs, sum_segFs, List.map_map]
    refine Nat.le_trans ?_ h1
    clear h1 h2 hfs hpay h hs hd
    induction L with
    | nil => simp
    | cons x L ih =>
      simp only [List.map_cons, List.sum_cons, Function.comp] at ih ⊢
      have : (fixS x).2.1.length ≤ x.2.1.length := by
        show ((x.2.1).take _).length ≤ _
        rw [List.length_take]
        omega
      omega
theorem next_fix (L : List Sg) : nextNo (L.map fixS) = nextNo L := by
  unfold nextNo
  rw [List.getLast?_map]
  cases L.getLast? <;> rfl
theorem next_le {L : List Sg} {N : Nat} (h : ∀ x ∈ L, x.1 ≤ N) (h1 : 1 ≤ N + 1) : nextNo L ≤ N + 1 := by
  unfold nextNo
  cases e : L.getLast? with
  | none => exact h1
  | some x => exact Nat.succ_le_succ (h x (List.mem_of_getLast? e))

end Go.Proofs.YtjppklgegpmfpaaGreatDoor
