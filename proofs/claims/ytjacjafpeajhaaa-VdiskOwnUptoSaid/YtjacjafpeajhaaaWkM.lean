/-
  Walks: the document's disk: one made of files.
-/
import Derived.Test.YtjacjafpeajhaaaWkL
namespace Go.Proofs.Ytjacjafpeajhaaa
open Go.RowKit

/-- Files put in one behind the other. -/
def insAll (l : List Fl) : List Fl := l.foldl (fun acc q => insF q acc) []
theorem insAll_snoc (l : List Fl) (k : Nat) (q : Fl) (hq : l[k]? = some q) : insAll (l.take (k + 1)) = insF q (insAll (l.take k)) := by
  unfold insAll
  rw [List.take_add_one, hq]
  simp
theorem insAll_len : ∀ l : List Fl, (insAll l).length = l.length := fun l => by
  have key : ∀ (l acc : List Fl), (l.foldl (fun acc q => insF q acc) acc).length = acc.length + l.length := fun l => by
    induction l with
    | nil => intro acc; simp
    | cons x l ih =>
      intro acc
      rw [List.foldl_cons, ih, insF_len, List.length_cons]
      omega
  have := key l []
  simpa [insAll] using this
theorem insAll_mem : ∀ (l : List Fl) (x : Fl), x ∈ insAll l → x ∈ l := fun l x hx => by
  have key : ∀ (l acc : List Fl), x ∈ l.foldl (fun acc q => insF q acc) acc → x ∈ acc ∨ x ∈ l := fun l => by
    induction l with
    | nil => intro acc h; exact .inl (by simpa using h)
    | cons y l ih =>
      intro acc h
      rw [List.foldl_cons] at h
      rcases ih _ h with h | h
      · rcases mem_insF y x acc h with h | h
        · exact .inr (by simp [h])
        · exact .inl h
      · exact .inr (List.mem_cons_of_mem _ h)
  rcases key l [] hx with h | h
  · cases h
  · exact h
/-- A name stands twice. -/
def dupB (l : List Fl) : Bool := (List.range l.length).any fun k => match l[k]? with
  | none => false
  | some q => decide (0 ≤ findI q.s (insAll (l.take k)))
theorem dupB_true {l : List Fl} {k : Nat} {q : Fl} (hq : l[k]? = some q) (h : 0 ≤ findI q.s (insAll (l.take k))) : dupB l = true := by
  unfold dupB
  rw [List.any_eq_true]
  exact ⟨k, List.mem_range.2 (List.getElem?_eq_some_iff.1 hq).1, by rw [hq]; simpa using h⟩
theorem dupB_false {l : List Fl} (h : ∀ (k : Nat) (q : Fl), l[k]? = some q → findI q.s (insAll (l.take k)) < 0) : dupB l = false := by
  unfold dupB
  rw [List.any_eq_false]
  intro k _
  cases hq : l[k]? with
  | none => simp
  | some q => simpa using h k q hq
theorem some_true {p : Fl → Bool} {l : List Fl} {k : Nat} {q : Fl} (hq : l[k]? = some q) (h : p q = true) : l.any p = true := List.any_eq_true.2 ⟨q, List.mem_of_getElem? hq, h⟩
theorem some_false {p : Fl → Bool} {l : List Fl} (h : ∀ (k : Nat) (q : Fl), l[k]? = some q → p q = false) : l.any p = false := by
  rw [List.any_eq_false]
  intro q hq
  obtain ⟨k, hk, e⟩ := List.mem_iff_getElem.1 hq
  rw [h k q (by rw [List.getElem?_eq_getElem hk, e])]
  simp
/-- P7.1, Of: the error. -/
def ofE (l : List Fl) : Int :=
  if l.any (fun q => !okName q.s) then 23 else if dupB l then 31 else if l.any (fun q => decide (q.y < 0 ∨ (q.d.l.length : Int) < q.y)) then 2 else 0
/-- What Of answers. -/
def Opened (w : World) (l : List Fl) (r : Int) (ops room : Int) (K : Option Addr) (kn kc : Nat) (e : Ending) (w' : World) : Prop :=
  Below w.heap.size w w' ∧ ((r ≠ 0 ∧ e = .returned (.tuple #[.pointer none, .int .i64 r])) ∨ (r = 0 ∧ ∃ g d, e = .returned (.tuple #[.pointer (some ⟨g, 0, none⟩), .int .i64 0]) ∧ RefSt w' w.heap.size g d ∧ d.md = ⟨(insAll l).map Fl.rd, ops, room, K, kn, kc, 0, false⟩))
theorem Opened.bad {w w' : World} {l : List Fl} {r ops room : Int} {K : Option Addr} {kn kc : Nat} (hr : r ≠ 0) (hb : Below w.heap.size w w') : Opened w l r ops room K kn kc (.returned (.tuple #[.pointer none, .int .i64 r])) w' := ⟨hb, .inl ⟨hr, rfl⟩⟩

set_option maxRecDepth 100000 in
set_option maxHeartbeats 8000000 in
theorem refOf_any (A : Option Addr) (l : List Fl) (n c : Nat) (ops room : Int) (K : Option Addr) (kn kc : Nat) (w : World) (hn : l.length = n) (h : Lies w A (fvals l)) (hi : Ins w l) (hl : n ≤ 1048576) (hlen : ∀ q ∈ l, q.d.l.length ≤ 1099511627776) (hss : ∀ q ∈ l, q.s.size ≤ 281474976710656) :
    Calls Try.prog 13 #[.slice A n c, .agg #[.int .i64 ops, .int .i64 room, .slice K kn kc]] w (Opened w l (ofE l) ops room K kn kc) := by
  obtain ⟨r, hr⟩ : ∃ r, ofE l = r := ⟨_, rfl⟩
  rw [hr]
  have HR := Lib.hid hr
  have HN := Lib.hid hn
  have HP := Lib.hid (fun (w' : World) (hb : Below w.heap.size w w') => h.kept hb)
  have HI := Lib.hid (fun (w' : World) (hb : Below w.heap.size w w') => hi.kept hb)
  have HB := Lib.hid (And.intro hlen hss)
  have HW : Hid (Below w.heap.size w ((w.alloc (.cells #[.int .i64 ops, .int .i64 room, .slice K kn kc] 25)).alloc (.cells #[.slice none 0 0, .int .i64 ops, .int .i64 room, .slice K kn kc, .int .i64 0, .bool false] 44))) := Lib.hid ((below_new _ _).alloc (by simp) _)
  have HD : Hid (DkAt ((w.alloc (.cells #[.int .i64 ops, .int .i64 room, .slice K kn kc] 25)).alloc (.cells #[.slice none 0 0, .int .i64 ops, .int .i64 room, .slice K kn kc, .int .i64 0, .bool false] 44)) (w.heap.size + 1) ⟨none, 0, [], ops, room, K, kn, kc, 0, false⟩) := Lib.hid (by
    have := heap_alloc_new (w.alloc (.cells #[.int .i64 ops, .int .i64 room, .slice K kn kc] 25)) (.cells #[.slice none 0 0, .int .i64 ops, .int .i64 room, .slice K kn kc, .int .i64 0, .bool false] 44)
    rw [show (w.alloc (.cells #[.int .i64 ops, .int .i64 room, .slice K kn kc] 25)).heap.size = w.heap.size + 1 by simp] at this
    exact this)
  clear hr hn h hi hlen hss
  go_enter Try.func13, Try.ntmps13
  go_wp2_with fail
  generalize ((w.alloc (.cells #[.int .i64 ops, .int .i64 room, .slice K kn kc] 25)).alloc (.cells #[.slice none 0 0, .int .i64 ops, .int .i64 room, .slice K kn kc, .int .i64 0, .bool false] 44)) = w1 at HW HD ⊢
  go_loop [15] (fun t15 => ∃ k : Nat, k ≤ n ∧ t15 = .int .i64 k ∧ Hid (∀ (j : Nat) (q : Fl), j < k → l[j]? = some q → okName q.s = true)) (fun t15 => n - (intOf t15).toNat)
  case atStart => exact ⟨0, by omega, rfl, Lib.hid (fun j q hj => by omega)⟩
  case round =>
    obtain ⟨k, hk, rfl, hf⟩ := hrel
    by_cases hlt : k < n
    · have hq := List.getElem?_eq_getElem (l := l) (i := k) (by have := HN.out; omega)
      generalize l[k]'(by have := HN.out; omega) = q at hq
      obtain ⟨ad, rfl, a0, a1, a2⟩ := lies_file (HP.out _ HW.out) hq
      have HQ := Lib.hid hq
      have HNm := Lib.hid (refName_any q.s w1 (HB.out.2 q (List.mem_of_getElem? hq)))
      clear hq a1 a2
      cases ho : okName q.s
      · rw [ho] at HNm
        have HV : Hid (r = 23) := Lib.hid (by rw [← HR.out]; unfold ofE; rw [some_true HQ.out (by simp [ho]), if_pos rfl])
        clear ho
        go_wp2_with (go_at_call 35; refine HNm.out.mono ?_; rintro e w2 ⟨rfl, hw⟩; subst hw)
        go_ret2
        rw [HV.out]
        exact Opened.bad (by decide) HW.out
      · rw [ho] at HNm
        have HO := Lib.hid ho
        clear ho
        go_wp2_with (go_at_call 35; refine HNm.out.mono ?_; rintro e w2 ⟨rfl, hw⟩; subst hw)
        go_round
        case rel => exact ⟨k + 1, by omega, by go_num, Lib.hid (fun j x hj hx => by
          by_cases e : j = k
          · subst e; rw [HQ.out] at hx; injection hx with hx; rw [← hx]; exact HO.out
          · exact hf.out j x (by omega) hx)⟩
        case measure => simp [intOf]; omega
    · obtain rfl : k = n := by omega
      have HOK : Hid (l.any (fun q => !okName q.s) = false) := Lib.hid (some_false (fun j q hq => by rw [hf.out j q (by have := (List.getElem?_eq_some_iff.1 hq).1; have := HN.out; omega) hq]; rfl))
      clear hf
      go_wp2_with fail
      go_loopw [28] (fun t28 wr => ∃ (i : Nat) (A2 : Option Addr) (c2 : Nat), i ≤ k ∧ t28 = .int .i64 i ∧ Hid (DkAt wr (w.heap.size + 1) ⟨A2, c2, insAll (l.take i), ops, room, K, kn, kc, 0, false⟩) ∧ Hid (Frow wr w.heap.size A2 c2 (insAll (l.take i))) ∧ Hid (∀ (j : Nat) (q : Fl), j < i → l[j]? = some q → findI q.s (insAll (l.take j)) < 0) ∧ Hid (Below w.heap.size w wr)) (fun t28 _ => k - (intOf t28).toNat)
      case atStart => exact ⟨0, none, 0, by omega, rfl, HD, Lib.hid (Frow.nil _ _), Lib.hid (fun j q hj => by omega), HW⟩
      case round =>
        obtain ⟨i, A2, c2, hi, rfl, hd, hr, hf, hb⟩ := hrel
        by_cases hlt2 : i < k
        · have hq := List.getElem?_eq_getElem (l := l) (i := i) (by have := HN.out; omega)
          generalize l[i]'(by have := HN.out; omega) = q at hq
          obtain ⟨ad, rfl, a0, a1, a2⟩ := lies_file (HP.out _ hb.out) hq
          obtain ⟨m, hm⟩ : ∃ m, (insAll (l.take i)).length = m := ⟨_, rfl⟩
          have hm2 : m ≤ 1048576 := by rw [← hm, insAll_len]; simp; omega
          have HF := Lib.hid (refFind_any (w.heap.size + 1) _ q.s m wr hd.out hr.out.lies hm hm2)
          obtain ⟨v, hv⟩ : ∃ v, findI q.s (insAll (l.take i)) = v := ⟨_, rfl⟩
          simp only at HF
          rw [hv] at HF
          have HVV := Lib.hid hv
          have HM := Lib.hid hm
          have HQ := Lib.hid hq
          clear hv hm hq
          by_cases h0 : 0 ≤ v
          · have HV : Hid (r = 31) := Lib.hid (by rw [← HR.out]; unfold ofE; rw [HOK.out, if_neg (by simp), dupB_true HQ.out (by rw [HVV.out]; exact h0), if_pos rfl])
            go_wp2_with (go_at_call 36; refine HF.out.mono ?_; rintro e w2 ⟨rfl, hw⟩; subst hw)
            go_ret2
            rw [HV.out]
            exact Opened.bad (by decide) hb.out
          · have d0 : decide (0 ≤ v) = false := by simpa using h0
            have HNO : Hid (v < 0) := Lib.hid (by omega)
            clear h0
            go_upto_region 13 with (go_at_call 36; refine HF.out.mono ?_; rintro e w2 ⟨rfl, hw⟩; subst hw)
            have c0 := hd.out.cell.1
            simp only at c0
            rw [HM.out] at c0
            have HIn := Lib.hid (fun (W : World) (hb2 : Below wr.heap.size wr W) => refInsert_any A2 (insAll (l.take i)) m c2 q W HM.out ((hr.out.kept hb2 (Nat.le_refl _)).lies) hm2)
            have HKd : Hid (∀ W, Below wr.heap.size wr W → DkAt W (w.heap.size + 1) ⟨A2, c2, insAll (l.take i), ops, room, K, kn, kc, 0, false⟩) := Lib.hid (fun W hb2 => by
              have := hd.out
              unfold DkAt at this ⊢
              rw [hb2.block _ hd.out.lt, this])
            have HLW : Hid (w.heap.size ≤ wr.heap.size) := Lib.hid hb.out.size
            have B1 : Hid (Below wr.heap.size wr wr.drew) := Lib.hid (Below.refl _ _).drew
            go_region_law (first
              | (go_simp; go_at_call 37; refine (HIn.out _ B1.out).mono ?_; rintro e w6 ⟨A6, C6, rfl, r6, b6⟩; have B6 := Lib.hid (B1.out.trans b6); have R6 := Lib.hid r6; clear r6 b6; have y0 := (HKd.out _ B6.out).cell.1; have y1 := (HKd.out _ B6.out).frozen 0)
              | (go_simp; go_at_call 37; refine (HIn.out _ (Below.refl _ _)).mono ?_; rintro e w6 ⟨A6, C6, rfl, r6, b6⟩; have B6 := Lib.hid b6; have R6 := Lib.hid r6; clear r6 b6; have y0 := (HKd.out _ B6.out).cell.1; have y1 := (HKd.out _ B6.out).frozen 0))
            all_goals
              go_wp2_with fail
              go_roundw
              case rel =>
                have hrow : Frow w6 w.heap.size A6 C6 (insF q (insAll (l.take i))) := own_mono R6.out HLW.out
                exact ⟨i + 1, A6, C6, by omega, by go_num, Lib.hid (by rw [insAll_snoc l i q HQ.out]; exact (HKd.out _ B6.out).set 0 _ rfl), Lib.hid (by rw [insAll_snoc l i q HQ.out]; exact own_keptx hrow (belowx_set _ _ _ _ _) (Nat.le_refl _) (hrow.not_at (HKd.out _ B6.out))), Lib.hid (fun j x hj hx => by
                  by_cases e : j = i
                  · subst e; rw [HQ.out] at hx; injection hx with hx; rw [← hx, HVV.out]; exact HNO.out
                  · exact hf.out j x (by omega) hx), Lib.hid ((hb.out.trans (B6.out.mono HLW.out)).setCell (Nat.le_succ _) _)⟩
              case measure => simp [intOf]; omega
        · obtain rfl : i = k := by omega
          have ht : l.take i = l := List.take_of_length_le (by have := HN.out; omega)
          have HDUP : Hid (dupB l = false) := Lib.hid (dupB_false (fun j q hq => hf.out j q (by have := (List.getElem?_eq_some_iff.1 hq).1; have := HN.out; omega) hq))
          rw [ht] at hd hr
          clear hf ht
          go_wp2_with fail
          obtain ⟨w2, rfl⟩ : ∃ w2, w2 = wr := ⟨_, rfl⟩
          go_loopw [54] (fun t54 wr => ∃ (j : Nat), j ≤ i ∧ t54 = .int .i64 j ∧ Hid (Below w2.heap.size w2 wr) ∧ Hid (∀ (j' : Nat) (q : Fl), j' < j → l[j']? = some q → decide (q.y < 0 ∨ (q.d.l.length : Int) < q.y) = false)) (fun t54 _ => i - (intOf t54).toNat)
          case atStart => exact ⟨0, by omega, rfl, Lib.hid (Below.refl _ _), Lib.hid (fun j q hj => by omega)⟩
          case round =>
            obtain ⟨j, hj, rfl, b3, hg⟩ := hrel
            have B3 : Hid (Below w.heap.size w wr) := Lib.hid (hb.out.trans (b3.out.mono hb.out.size))
            by_cases hlt3 : j < i
            · have hq := List.getElem?_eq_getElem (l := l) (i := j) (by have := HN.out; omega)
              generalize l[j]'(by have := HN.out; omega) = q at hq
              obtain ⟨ad, rfl, a0, a1, a2⟩ := lies_file (HP.out _ B3.out) hq
              have HQ := Lib.hid hq
              clear hq a0
              obtain ⟨qs, ⟨qa, qc, ql⟩, qy⟩ := q
              simp only at a1 a2
              obtain ⟨z, hz⟩ : ∃ z, ql.length = z := ⟨_, rfl⟩
              rw [hz] at a1
              have HZ := Lib.hid hz
              clear hz
              by_cases h0 : qy < 0
              · have HV : Hid (r = 2) := Lib.hid (by rw [← HR.out]; unfold ofE; rw [HOK.out, HDUP.out, some_true HQ.out (by simp [h0])]; rfl)
                go_upto_region 18 with fail
                go_quiet (fail)
                have BQ : Hid (Below w.heap.size w (wr.drewN nq)) := Lib.hid (below_drewN B3.out nq)
                go_wp2_with fail
                go_ret2
                rw [HV.out]
                exact Opened.bad (by decide) BQ.out
              · have d0 : decide (qy < 0) = false := by simpa using h0
                by_cases h1 : (z : Int) < qy
                · have HV : Hid (r = 2) := Lib.hid (by rw [← HR.out]; unfold ofE; rw [HOK.out, HDUP.out, some_true HQ.out (by have := HZ.out; simp; omega)]; rfl)
                  clear h0
                  go_upto_region 18 with fail
                  go_quiet (fail)
                  have BQ : Hid (Below w.heap.size w (wr.drewN nq)) := Lib.hid (below_drewN B3.out nq)
                  go_wp2_with fail
                  go_ret2
                  rw [HV.out]
                  exact Opened.bad (by decide) BQ.out
                · have d1 : decide ((z : Int) < qy) = false := by simpa using h1
                  have HG : Hid (decide (qy < 0 ∨ (ql.length : Int) < qy) = false) := Lib.hid (by have := HZ.out; simp; omega)
                  clear h0 h1
                  go_upto_region 18 with fail
                  go_quiet (fail)
                  have BQ : Hid (Below w2.heap.size w2 (wr.drewN nq)) := Lib.hid (below_drewN b3.out nq)
                  go_wp2_with fail
                  go_roundw
                  case rel => exact ⟨j + 1, by omega, by go_num, BQ, Lib.hid (fun j' x hj' hx => by
                    by_cases e : j' = j
                    · subst e; rw [HQ.out] at hx; injection hx with hx; rw [← hx]; exact HG.out
                    · exact hg.out j' x (by omega) hx)⟩
                  case measure => simp [intOf]; omega
            · obtain rfl : j = i := by omega
              have HV : Hid (r = 0) := Lib.hid (by
                have h3 : l.any (fun q => decide (q.y < 0 ∨ (q.d.l.length : Int) < q.y)) = false := some_false (fun j' q hq => hg.out j' q (by have := (List.getElem?_eq_some_iff.1 hq).1; have := HN.out; omega) hq)
                rw [← HR.out]
                unfold ofE
                rw [HOK.out, HDUP.out, h3]
                rfl)
              have HD3 : Hid (DkAt wr (w.heap.size + 1) ⟨A2, c2, insAll l, ops, room, K, kn, kc, 0, false⟩) := Lib.hid (by
                have := hd.out
                unfold DkAt at this ⊢
                rw [b3.out.block _ hd.out.lt, this])
              have HF3 := Lib.hid (own_kept hr.out b3.out (Nat.le_refl _))
              have hlen : (insAll l).length = j := by rw [insAll_len]; exact HN.out
              have c0 := HD3.out.cell.1
              simp only at c0
              rw [hlen] at c0
              have HCp := Lib.hid (refCopy_any A2 (insAll l) j c2 wr hlen (Frow.lies HF3.out) (fun q hq => HI.out _ B3.out q (insAll_mem l q hq)) hl (fun q hq => HB.out.1 q (insAll_mem l q hq)))
              clear hg hlen
              go_wp2_with (go_at_call 11; refine HCp.out.mono ?_; rintro e w6 ⟨l', e1, m1, A6, C6, rfl, r6, b6⟩; have R6 := Lib.hid (And.intro e1 (And.intro m1 r6)); have B6 := Lib.hid b6; have D6 : Hid (DkAt w6 (w.heap.size + 1) ⟨A2, c2, insAll l, ops, room, K, kn, kc, 0, false⟩) := Lib.hid (by have := HD3.out; unfold DkAt at this ⊢; rw [b6.block _ HD3.out.lt, this]); clear e1 m1 r6 b6; have y0 := D6.out.cell.1; have y1 := D6.out.frozen 0)
              go_ret2
              rw [HV.out]
              obtain ⟨e1, m1, r6⟩ := R6.out
              have hW : w.heap.size ≤ wr.heap.size := B3.out.size
              have hll : l'.length = (insAll l).length := by have := congrArg List.length e1; simpa using this
              have hof : ∀ q ∈ l', ∃ q' ∈ l, q'.d.l = q.d.l := fun q hq => by
                have h1 : q.rd ∈ (insAll l).map Fl.rd := by rw [← e1]; exact List.mem_map.2 ⟨q, hq, rfl⟩
                obtain ⟨q', h2, h3⟩ := List.mem_map.1 h1
                exact ⟨q', insAll_mem l q' h2, congrArg (fun p => p.2.1) h3⟩
              have hx : BelowX w6.heap.size (w.heap.size + 1) w6 (w6.setCell ⟨w.heap.size + 1, 0, none⟩ (.slice A6 l'.length C6)) := belowx_set _ _ _ _ _
              refine ⟨(B3.out.trans (B6.out.mono hW)).setCell (Nat.le_succ _) _, .inr ⟨rfl, w.heap.size + 1, ⟨A6, C6, l', ops, room, K, kn, kc, 0, false⟩, rfl, ⟨D6.out.set 0 _ rfl, Nat.le_succ _, own_keptx (own_mono r6 hW) hx (Nat.le_refl _) (Frow.not_at r6 D6.out), fun q hq => own_keptx (own_mono (m1 q hq) hW) hx (Nat.le_refl _) ((m1 q hq).not_at D6.out), fun q hq => ?_, ?_, fun q hq => ?_, ⟨Int.le_refl 0, by show (0 : Int) ≤ 1099511627776; decide⟩⟩, by simp only [Dk.md, e1]⟩⟩
              · obtain ⟨q', h1, h2⟩ := hof q hq
                rw [← h2]
                exact (HI.out _ B3.out q' h1).byt
              · show l'.length ≤ 1048576
                rw [hll, insAll_len]
                have := HN.out
                omega
              · obtain ⟨q', h1, h2⟩ := hof q hq
                rw [← h2]
                exact HB.out.1 q' h1

end Go.Proofs.Ytjacjafpeajhaaa
