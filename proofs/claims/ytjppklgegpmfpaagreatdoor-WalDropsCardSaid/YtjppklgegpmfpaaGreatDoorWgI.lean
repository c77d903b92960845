/-
  Walks: the segments, read.
-/
import Derived.Test.YtjppklgegpmfpaaGreatDoorWgH
import Derived.Deep.RegionLaw
import Derived.WalkMore
namespace Go.Proofs.YtjppklgegpmfpaaGreatDoor
open Go.RowKit
open Go.Maps

/-- What came in to be read: the numbers, and each segment's bytes. -/
structure Segs (s : Ls) (p : ByteArray) (ns : List Nat) (ds : List (List Int)) (n : Nat) : Prop where
  nlen : ns.length = n
  dlen : ds.length = n
  inn : ∀ k ∈ ns, 1 ≤ k ∧ k ≤ 999999
  read : ∀ (i k : Nat) (x : List Int), ns[i]? = some k → ds[i]? = some x → s.m.read (seg p k) = (x, 0)
  byt : ∀ x ∈ ds, Byt x
  short : ∀ x ∈ ds, x.length ≤ 1099511627776
  whole : ∀ (i : Nat) (x : List Int), i + 1 < n → ds[i]? = some x → (allL x).2.2 = 0
  few : (pays ds).length ≤ 1099511627776
  n6 : n ≤ 1000000

theorem pays_le {ds : List (List Int)} (i : Nat) : (pays (ds.take i)).length ≤ (pays ds).length := by
  have e : pays ds = pays (ds.take i) ++ pays (ds.drop i) := by
    unfold pays
    rw [← List.flatten_append, ← List.map_append, List.take_append_drop]
  rw [e, List.length_append]
  omega
theorem left_len {L : List Int} {T : List (List Int)} {a : Nat} (h : LeftF L T a) : T.length ≤ (allL L).1.length := by
  rw [h.2.1, List.length_append]
  omega
theorem readP_at {L : List Int} {a : Nat} (ha : a ≤ L.length) :
    (a = L.length ∧ readP L (a : Int) = ([], 0, 12)) ∨ (a < L.length ∧ (readL (L.drop a)).2.2 = 0 ∧ readP L (a : Int) = ((readL (L.drop a)).1, ((a + (readL (L.drop a)).2.1 : Nat) : Int), 0)) ∨ (a < L.length ∧ (readL (L.drop a)).2.2 ≠ 0 ∧ (readL (L.drop a)).2.2 ≠ 12 ∧ readP L (a : Int) = ([], 0, (readL (L.drop a)).2.2)) := by
  by_cases h : a = L.length
  · exact .inl ⟨h, readP_bad (by omega) (by rw [List.drop_of_length_le (by omega)]; rfl) (by decide)⟩
  · have hne : L.drop a ≠ [] := fun e => by have := congrArg List.length e; simp at this; omega
    by_cases h0 : (readL (L.drop a)).2.2 = 0
    · refine .inr (.inl ⟨by omega, h0, ?_⟩)
      unfold readP
      rw [if_neg (by omega), Int.toNat_natCast, if_pos h0]
      simp
    · refine .inr (.inr ⟨by omega, h0, ?_, ?_⟩)
      · rcases readL_err (L.drop a) with e | ⟨-, -, e | e | e⟩
        · exact absurd e h0
        · rw [e]; decide
        · rw [e]; decide
        · exfalso
          unfold readL at e
          rw [if_neg hne] at e
          repeat' split at e
          all_goals simp at e
      · unfold readP
        rw [if_neg (by omega), Int.toNat_natCast, if_neg h0]
theorem got_n {w w' : World} {p : List Int} {m : Int} {r : Int} {e : Ending} {n : Nat} (h : Got w (p, m, r) e w') (hn : p.length = n) : ∃ A c, e = .returned (.tuple #[.slice A n c, .int .i64 m, .int .i64 r]) ∧ Row w' w.heap.size A c p ∧ Below w.heap.size w w' := by
  subst hn
  exact h

theorem Rd.start (w : World) : Rd w w.heap.size [] none 0 0 ((w.alloc (.cells #[.slice none 0 0, .int .i64 0, .bool false, .slice none 0 0] 77)).alloc (.cells #[.slice none 0 0, .int .i64 0, .bool false, .slice none 0 0] 77)) := by
  refine ⟨(below_new w _).alloc (by simp) _, ?_, ?_, Srow.nil _ _, fun _ h => (List.not_mem_nil h).elim, fun _ h => (List.not_mem_nil h).elim⟩
  · unfold FAt
    rw [Below.heap_alloc _ _ _ (by simp)]
    exact heap_alloc_new w _
  · unfold FAt
    have := heap_alloc_new (w.alloc (.cells #[.slice none 0 0, .int .i64 0, .bool false, .slice none 0 0] 77)) (.cells #[.slice none 0 0, .int .i64 0, .bool false, .slice none 0 0] 77)
    rw [show (w.alloc (.cells #[.slice none 0 0, .int .i64 0, .bool false, .slice none 0 0] 77)).heap.size = w.heap.size + 1 by simp] at this
    exact this
theorem below_set {B b i : Nat} {a w : World} {v : Value} (h : Below B a w) (hb : B ≤ b) : Below B a (w.setCell ⟨b, i, none⟩ v) := h.setCell (p := ⟨b, i, none⟩) hb v
theorem last_of {ds : List (List Int)} {i n : Nat} {L : List Int} (h : ds[i]? = some L) (hn : ds.length = n) (hi : i + 1 = n) : ds.getLast? = some L := by
  rw [List.getLast?_eq_getElem?, hn, show n - 1 = i by omega, h]
theorem gets_n {w w' : World} {p : List Int} {r : Int} {e : Ending} {n : Nat} (h : Gets w (p, r) e w') (hn : p.length = n) : ∃ A c, e = .returned (.tuple #[.slice A n c, .int .i64 r]) ∧ Row w' w.heap.size A c p ∧ Below w.heap.size w w' := by
  subst hn
  exact h

/-- Two blocks alone may have turned. -/
structure Past (H : Nat) (a b : World) : Prop where
  os : b.os = a.os
  tape : b.tape = a.tape
  output : b.output = a.output
  size : b.heap.size = a.heap.size
  block : ∀ k, k ≠ H → k ≠ H + 1 → b.heap[k]? = a.heap[k]?
theorem Past.refl (H : Nat) (a : World) : Past H a a := ⟨rfl, rfl, rfl, rfl, fun _ _ _ => rfl⟩
theorem Past.drew {H : Nat} {a b : World} (h : Past H a b) : Past H a b.drew := ⟨h.os, h.tape, h.output, h.size, h.block⟩
theorem Past.set {H j : Nat} {a b : World} {v : Value} (h : Past H a b) : Past H a (b.setCell ⟨H, j, none⟩ v) :=
  ⟨h.os, h.tape, h.output, by simpa using h.size, fun k h1 h2 => (Below.heap_setCell b ⟨H, j, none⟩ v k h1).trans (h.block k h1 h2)⟩
theorem Past.set' {H j : Nat} {a b : World} {v : Value} (h : Past H a b) : Past H a (b.setCell ⟨H + 1, j, none⟩ v) :=
  ⟨h.os, h.tape, h.output, by simpa using h.size, fun k h1 h2 => (Below.heap_setCell b ⟨H + 1, j, none⟩ v k h2).trans (h.block k h1 h2)⟩
theorem Rd.past {w W W' : World} {H : Nat} {T : List Sl} {A : Option Addr} {c cnt : Nat} (h : Rd w H T A c cnt W) (hp : Past H W W') : Seen W' H A c T ∧ Below H w W' ∧ ∀ A' c' L, Row W (H + 2) A' c' L → Row W' (H + 2) A' c' L := by
  have hr : ∀ A' c' L, Row W (H + 2) A' c' L → Row W' (H + 2) A' c' L := fun A' c' L hr => own_block hr (fun ad ha => hp.block _ (by have := (own_in hr ad ha).1; omega) (by have := (own_in hr ad ha).1; omega))
  refine ⟨⟨?_, fun s hs => (hr _ _ _ (h.rows s hs)).mono (by omega), h.byt⟩, ?_, hr⟩
  · exact Srow.mono (own_block h.row (fun ad ha => hp.block _ (by have := (own_in h.row ad ha).1; omega) (by have := (own_in h.row ad ha).1; omega))) (by omega)
  · exact h.low.trans ⟨hp.os, hp.tape, hp.output, by rw [hp.size]; exact Nat.le_refl _, fun k hk => hp.block k (by omega) (by omega)⟩
/-- What a reading answers. -/
def ReadOf (ds : List (List Int)) (n : Nat) (w : World) (e : Ending) (w' : World) : Prop := ∃ T A c m bk v, e = .returned (.tuple #[.agg #[.slice A m c, .int .i64 (n : Int), .bool bk, v], .int .i64 0]) ∧ T.length = m ∧ byts T = pays ds ∧ Seen w' w.heap.size A c T ∧ Whole ds w' w.heap.size bk v ∧ Below w.heap.size w w'
theorem read_end {w W W' : World} {ds : List (List Int)} {T : List Sl} {A : Option Addr} {c m n : Nat} (h : Rd w w.heap.size T A c n W) (hm : T.length = m) (ht : byts T = pays ds) (hw : ∀ x ∈ ds, (allL x).2.2 = 0) (hp : Past w.heap.size W W') :
    ReadOf ds n w (.returned (.tuple #[.agg #[.slice A m c, .int .i64 (n : Int), .bool false, .slice none 0 0], .int .i64 0])) W' :=
  ⟨T, A, c, m, false, .slice none 0 0, rfl, hm, ht, (h.past hp).1, .inl ⟨rfl, rfl, hw⟩, (h.past hp).2.1⟩
theorem read_torn {w W W' : World} {ds P : List (List Int)} {T : List Sl} {A A5 : Option Addr} {c c5 m n i a nl : Nat} {L : List Int} {er : Int} (h : Rd w w.heap.size T A c (i + 1) W) (hm : T.length = m) (ht : byts T = pays (ds.take i) ++ P) (hx : ds[i]? = some L) (hn : ds.length = n) (hi : i + 1 = n) (hE : allL L = (P, a, er)) (her : er ≠ 0) (ha : a ≤ nl) (hL : L.length = nl) (hB : Byt L)
    (hr : Row W (w.heap.size + 2) A5 c5 L) (hp : Past w.heap.size W W') : ReadOf ds n w (.returned (.tuple #[.agg #[.slice A m c, .int .i64 ((i : Int) + 1), .bool true, .slice A5 a c5], .int .i64 0])) W' := by
  obtain ⟨h1, h2, h3⟩ := h.past hp
  have hrow := h3 _ _ _ hr
  refine ⟨T, A, c, m, true, .slice A5 a c5, by rw [← hi]; rfl, hm, ?_, h1, .inr ⟨rfl, L, a, A5, c5, last_of hx hn hi, by rw [hE]; exact her, by rw [hE], rfl, (in_high (hrow.in_n hB hL) ha).2, fun x hx' => ?_⟩, h2⟩
  · have e9 : ds.take (i + 1) = ds := List.take_of_length_le (by omega)
    have e8 := pays_take hx
    rw [e9, hE] at e8
    rw [ht, e8]
  · have := own_in hrow x hx'
    exact ⟨by omega, this.2⟩

set_option maxRecDepth 100000 in
set_option maxHeartbeats 8000000 in
theorem readLog_any (B g lb : Nat) (d : Pk) (s : Ls) (p : ByteArray) (size n : Nat) (ns : List Nat) (ds : List (List Int)) (nA : Option Addr) (nC : Nat) (w : World) (h : LSt w B g lb d s p size) (hp : IsPre p) (hT : Tab B w) (hf : Fits s.m 0) (hi : Ints w nA (zs ns)) (hg : Segs s p ns ds n) :
    Calls Tryz.prog 38 #[.pointer (some ⟨lb, 0, none⟩), .slice nA n nC] w (ReadOf ds n w) := by
  have H := Lib.hid h
  have HG := Lib.hid hg
  have HI := Lib.hid (fun (W : World) (hb : Below w.heap.size w W) => (Lies.kept hi hb : Ints W nA (zs ns)))
  have HC := Lib.hid (fun (W : World) (hb : Below w.heap.size w W) => (h.kept hb).lg.cell.1)
  have HN := Lib.hid (fun (W : World) (hb : Below w.heap.size w W) (k : Nat) (hk : k ≤ 999999) => name_any B lb g k ⟨p, size, s.num, s.len⟩ W hp hk (h.kept hb).lg (hT.on (hb.mono h.size_le)) (h.kept hb).size_le)
  have HR := Lib.hid (fun (W : World) (hb : Below w.heap.size w W) (k : Nat) (x : List Int) (e : s.m.read (seg p k) = (x, 0)) => read_vm B g d s.m (seg p k) W (x, 0) (h.kept hb).ps h.vm (pre_size hp k) hf e)
  have hn6 := hg.n6
  clear h hi hg hT hf
  go_enter Tryz.func38, Tryz.ntmps38
  go_wp2_with fail
  go_step3
  go_wp2_with fail
  go_step3
  go_wp2_with fail
  go_loopw [17] (fun t17 wr => ∃ (i : Nat) (T : List Sl) (A : Option Addr) (c : Nat), i ≤ n ∧ t17 = .int .i64 (i : Int) ∧ Hid (Rd w w.heap.size T A c i wr) ∧ Hid (byts T = pays (ds.take i)) ∧ Hid (∀ x ∈ ds.take i, (allL x).2.2 = 0)) (fun t17 _ => n - (intOf t17).toNat)
  case atStart => exact ⟨0, [], none, 0, by omega, rfl, Lib.hid (Rd.start w), Lib.hid rfl, Lib.hid (fun x hx => by simp at hx)⟩
  case round =>
    obtain ⟨i, T, A, c, hi, rfl, hr, ht, hw⟩ := hrel
    by_cases hlt : i < n
    · have hq := List.getElem?_eq_getElem (l := ns) (i := i) (by have := HG.out.nlen; omega)
      generalize ns[i]'(by have := HG.out.nlen; omega) = k at hq
      have hx := List.getElem?_eq_getElem (l := ds) (i := i) (by have := HG.out.dlen; omega)
      generalize ds[i]'(by have := HG.out.dlen; omega) = L at hx
      obtain ⟨ad, rfl, a0⟩ := ints_at (HI.out wr hr.out.low) (show (zs ns)[i]? = some (k : Int) by unfold zs; rw [List.getElem?_map, hq]; rfl)
      obtain ⟨k1, k2⟩ := HG.out.inn k (List.mem_of_getElem? hq)
      have HX := Lib.hid (And.intro hx (And.intro (HG.out.byt L (List.mem_of_getElem? hx)) (HG.out.short L (List.mem_of_getElem? hx))))
      obtain ⟨nl, hnl⟩ : ∃ nl, L.length = nl := ⟨_, rfl⟩
      have HNL := Lib.hid hnl
      have HNM := Lib.hid (fun (W : World) (hb : Below wr.heap.size wr W) => HN.out W (hr.out.low.trans (hb.mono hr.out.low.size)) k k2)
      have HRM := Lib.hid (fun (W : World) (hb : Below wr.heap.size wr W) => HR.out W (hr.out.low.trans (hb.mono hr.out.low.size)) k L (HG.out.read i k L hq hx))
      have HCM := Lib.hid (fun (W : World) (hb : Below wr.heap.size wr W) => HC.out W (hr.out.low.trans (hb.mono hr.out.low.size)))
      try simp only at HNM
      generalize seg p k = sg at HNM HRM
      clear hq hx k1 k2 hnl
      go_upto_region 5 with fail
      go_region_held3 (fun W => W.cell? ⟨lb, 0, none⟩ = some (.pointer (some ⟨g, 0, none⟩))) (first | exact HCM.out _ E5.out | exact HCM.out _ E4.out | exact HCM.out _ E4.out.drew | exact HCM.out _ (Below.refl _ _) | exact HCM.out _ (Below.refl _ _).drew | go_keep) (first
        | (go_at_call 26; refine (HNM.out _ (by repeat (first | exact Below.refl _ _ | refine Below.drew ?_))).mono ?_; rintro e w4 ⟨rfl, hb⟩; have E4 : Hid (Below wr.heap.size wr w4) := Lib.hid ((by repeat (first | exact Below.refl _ _ | refine Below.drew ?_) : Below wr.heap.size wr _).trans hb); clear hb)
        | (go_at_call 52; refine (HRM.out _ (by repeat (first | exact E4.out | refine Below.drew ?_))).mono ?_; rintro e w5 hb; obtain ⟨A5, c5, rfl, hr5, hb5⟩ := gets_n hb HNL.out; have R5 : Hid (Row w5 (w.heap.size + 2) A5 c5 L) := Lib.hid (hr5.mono (Nat.le_trans hr.out.size (by have := E4.out.size; simpa using this))); have E5 : Hid (Below wr.heap.size wr w5) := Lib.hid (((by repeat (first | exact E4.out | refine Below.drew ?_) : Below wr.heap.size wr _)).trans (hb5.mono (by have := E4.out.size; simpa using this))); clear hb hr5 hb5))
      all_goals
        have D5 := Lib.hid (hr.out.kept E5.out)
        have c1 := D5.out.f.cell.2.1
        have f1 := D5.out.f.frozen 1
        have hwr : IntKind.i64.wrap ((i : Int) + 1) = (i : Int) + 1 := by rw [IntKind.wrap_i64]; omega
        have hri : ((i : Int) + 1) = ((i + 1 : Nat) : Int) := by omega
        have D6 := Lib.hid (D5.out.count rfl (i + 1))
        have R6 : Hid (Row (w5.setCell ⟨w.heap.size + 1, 1, none⟩ (.int .i64 ((i + 1 : Nat) : Int))) (w.heap.size + 2) A5 c5 L) := Lib.hid (R5.out.setLow (by omega))
        rw [← hri] at D6 R6
        clear hri
        go_wp2_with fail
        go_loopw [11] (fun t11 wq => ∃ (a : Nat) (T2 : List Sl) (A2 : Option Addr) (c2 : Nat) (P : List (List Int)), a ≤ nl ∧ t11 = .int .i64 (a : Int) ∧ Hid (Rd w w.heap.size T2 A2 c2 (i + 1) wq) ∧ Hid (byts T2 = pays (ds.take i) ++ P) ∧ Hid (LeftF L P a) ∧ Hid (Row wq (w.heap.size + 2) A5 c5 L)) (fun t11 _ => nl - (intOf t11).toNat)
        case atStart => exact ⟨0, T, A, c, [], by omega, rfl, D6, Lib.hid (by rw [ht.out]; simp), Lib.hid (LeftF.refl L), R6⟩
        case round =>
          obtain ⟨a, T2, A2, c2, P, ha, rfl, hr2, ht2, hl2, hb2⟩ := hrel
          have HF := Lib.hid (readF_any A5 L nl c5 (a : Int) wr (hb2.out.in_n HX.out.2.1 HNL.out))
          rcases readP_at (L := L) (a := a) (by have := HNL.out; omega) with ⟨e1, e2⟩ | ⟨e1, e2, e3⟩ | ⟨e1, e2, e2', e3⟩
          · rw [e2] at HF
            have HE : Hid (allL L = (P, a, 0)) := Lib.hid (hl2.out.end_ (by omega))
            have HP := Lib.hid (pays_take HX.out.1)
            clear e1 e2
            go_wp2_with (go_at_call 53; refine HF.out.mono ?_; rintro e w6 hb; obtain ⟨A6, c6, rfl, -, hb6⟩ := got_n (n := 0) hb rfl; have B6 := Lib.hid hb6; clear hb hb6)
            go_roundw
            case rel => exact ⟨i + 1, T2, A2, c2, by omega, by go_num, Lib.hid (hr2.out.kept B6.out), Lib.hid (by rw [ht2.out, HP.out, HE.out]), Lib.hid (fun x hx => by
              rw [List.take_add_one, HX.out.1] at hx
              rcases List.mem_append.1 hx with hx | hx
              · exact hw.out x hx
              · simp at hx
                rw [hx, HE.out])⟩
            case measure => simp [intOf]; omega
          · rw [e3] at HF
            obtain ⟨pl, hpl⟩ : ∃ pl, (readL (L.drop a)).1 = pl := ⟨_, rfl⟩
            obtain ⟨pm, hpm⟩ : ∃ pm, pl.length = pm := ⟨_, rfl⟩
            have h9 := readL_ok _ e2
            have HS : Hid (LeftF L (P ++ [pl]) (a + (readL (L.drop a)).2.1)) := Lib.hid (by rw [← hpl]; exact hl2.out.step e1 e2)
            have hstep := HS.out.1
            have HPB : Hid (Byt pl) := Lib.hid (by rw [← hpl]; exact h9.2.2.2.2 (HX.out.2.1.drop a))
            obtain ⟨nx, hnx⟩ : ∃ nx, a + (readL (L.drop a)).2.1 = nx := ⟨_, rfl⟩
            rw [hnx] at HF HS hstep
            rw [hpl] at HF
            have hgrow : a < nx ∧ nx ≤ nl := by have := HNL.out; omega
            obtain ⟨m2, hm2⟩ : ∃ m2, T2.length = m2 := ⟨_, rfl⟩
            have HPM := Lib.hid hpm
            have HM2 := Lib.hid hm2
            have HSZ : Hid (m2 ≤ 1099511627776) := Lib.hid (by
              have h1 := congrArg List.length ht2.out
              rw [byts_len, hm2, List.length_append] at h1
              have h2 := left_len hl2.out
              have h3 := pays_le (ds := ds) (i + 1)
              rw [pays_take HX.out.1, List.length_append] at h3
              have := HG.out.few
              omega)
            clear e1 e2 e3 hpl hpm h9 hnx hstep hm2
            go_wp2_with (first
              | (go_at_call 53; refine HF.out.mono ?_; rintro e w6 hb; obtain ⟨A6, c6, rfl, hr6, hb6⟩ := got_n hb HPM.out; have B6 := Lib.hid hb6; have R6x := Lib.hid hr6; have D7 := Lib.hid (hr2.out.kept hb6); have c0 := D7.out.f.cell.1; rw [HM2.out] at c0; clear hb hr6 hb6)
              | (at_builtin; refine wpList_append_srow _ rfl (.tmp 56) (.tmp 58) rfl (w.heap.size + 2) A2 c2 T2 [⟨A6, c6, pl⟩] _ m2 1 1 rfl rfl HM2.out rfl (D7.out.row.alloc _) (lit_lies w6 _ _ (by simp [svals, Sl.val, HPM.out]) _) (by have := D7.out.size; simp; omega) (by have := HM2.out; have := HSZ.out; simp; omega) ?_; intro A7 c7 w7 r7 b7 g7; have E7 := Lib.hid (D7.out.push (R6x.out.mono (Nat.le_trans hr2.out.size (Nat.le_refl _))) HPB.out r7 b7 (by rw [HM2.out]; exact g7)); have E7 : Hid (Rd w w.heap.size (T2 ++ [⟨A6, c6, pl⟩]) A7 c7 (i + 1) (w7.setCell ⟨w.heap.size + 1, 0, none⟩ (.slice A7 (m2 + 1) c7)) ∧ ∀ A' c' L', Row w6 (w.heap.size + 2) A' c' L' → Row (w7.setCell ⟨w.heap.size + 1, 0, none⟩ (.slice A7 (m2 + 1) c7)) (w.heap.size + 2) A' c' L') := Lib.hid (by have := E7.out; rwa [HM2.out] at this); have F7 : Hid (FAt w7 (w.heap.size + 1) A2 m2 c2 (i + 1) false (.slice none 0 0)) := Lib.hid (by have h1 := D7.out.f; rw [HM2.out] at h1; exact (h1.of (Below.heap_alloc w6 _ _ h1.lt)).of (b7.block _ (by omega))); have c7x := F7.out.cell.1; have f7x := F7.out.frozen 0; clear r7 b7 g7))
            go_roundw
            case rel => exact ⟨nx, T2 ++ [⟨A6, c6, pl⟩], A7, c7, P ++ [pl], by omega, rfl, Lib.hid E7.out.1, Lib.hid (by show byts (T2 ++ [_]) = _; unfold byts at *; rw [List.map_append, ht2.out, List.append_assoc]; rfl), HS, Lib.hid (E7.out.2 _ _ _ (hb2.out.kept B6.out (Nat.le_refl _)))⟩
            case measure => simp [intOf]; omega
          · rw [e3] at HF
            obtain ⟨er, her⟩ : ∃ er, (readL (L.drop a)).2.2 = er := ⟨_, rfl⟩
            have HE : Hid (allL L = (P, a, er)) := Lib.hid (by rw [← her]; exact hl2.out.bad e1 e2)
            rw [her] at HF e2 e2'
            have HER := Lib.hid e2
            have x1 : (er == 0) = false := by simpa using e2
            have x2 : (er == 12) = false := by simpa using e2'
            have HIN : Hid (i + 1 = n) := Lib.hid (by
              rcases Nat.lt_or_ge (i + 1) n with hn | hn
              · have := HG.out.whole i L hn HX.out.1
                rw [HE.out] at this
                exact absurd this HER.out
              · omega)
            have HP := Lib.hid (pays_take HX.out.1)
            clear e1 e2 e2' e3 her
            have hsl := (in_high (hb2.out.in_n HX.out.2.1 HNL.out) ha).1
            have HIH := Lib.hid (in_high (hb2.out.in_n HX.out.2.1 HNL.out) ha).2
            have h5 : ∀ x, A5 = some x → w.heap.size ≤ x.block ∧ x.block < wr.heap.size := fun x hx => by have := own_in hb2.out x hx; omega
            have H5 := Lib.hid h5
            obtain ⟨m2, hm2⟩ : ∃ m2, T2.length = m2 := ⟨_, rfl⟩
            have HM2 := Lib.hid hm2
            clear hm2 h5
            go_upto_region 12 with (go_at_call 53; refine HF.out.mono ?_; rintro e w6 hb; obtain ⟨A6, c6, rfl, -, hb6⟩ := got_n (n := 0) hb rfl; have B6 := Lib.hid hb6; have D7 := Lib.hid (hr2.out.kept hb6); clear hb hb6)
            have hff := D7.out.f
            rw [HM2.out] at hff
            have HFF := Lib.hid hff
            obtain ⟨y0, y1, y2, y3⟩ := hff.cell
            have z2 := hff.frozen 2
            have z3 := hff.frozen 3
            obtain ⟨v0, v1, v2, v3⟩ := D7.out.res.cell
            have u0 := D7.out.res.frozen 0
            have u1 := D7.out.res.frozen 1
            have u2 := D7.out.res.frozen 2
            have u3 := D7.out.res.frozen 3
            clear hff
            go_region
            all_goals
              go_wp2_with fail
              try rw [Exit.noGoto_ret]
              try simp only [Exit.inBlock, Exit.then]
              refine bodyPost_ret (v := .tuple #[.agg #[.slice A2 m2 c2, .int .i64 ((i : Int) + 1), .bool true, .slice A5 a c5], .int .i64 0]) ?_ rfl ?_
              · unfold results
                go_simp
              · exact read_torn D7.out HM2.out ht2.out HX.out.1 HG.out.dlen HIN.out HE.out HER.out ha HNL.out HX.out.2.1 (hb2.out.kept B6.out (Nat.le_refl _)) (by repeat (with_reducible first | exact Past.refl _ _ | refine Past.drew ?_ | refine Past.set ?_ | refine Past.set' ?_))
    · obtain rfl : i = n := by omega
      obtain ⟨m, hm⟩ : ∃ m, T.length = m := ⟨_, rfl⟩
      have HM := Lib.hid hm
      have hff := hr.out.f
      rw [hm] at hff
      clear hm
      obtain ⟨y0, y1, y2, y3⟩ := hff.cell
      obtain ⟨v0, v1, v2, v3⟩ := hr.out.res.cell
      have u0 := hr.out.res.frozen 0
      have u1 := hr.out.res.frozen 1
      have u2 := hr.out.res.frozen 2
      have u3 := hr.out.res.frozen 3
      clear hff
      have e0 : ds.take i = ds := List.take_of_length_le (by have := HG.out.dlen; omega)
      rw [e0] at ht hw
      clear e0
      go_wp2_with fail
      try rw [Exit.noGoto_ret]
      try simp only [Exit.inBlock, Exit.then]
      refine bodyPost_ret (v := .tuple #[.agg #[.slice A m c, .int .i64 (i : Int), .bool false, .slice none 0 0], .int .i64 0]) ?_ rfl ?_
      · unfold results
        go_simp
      · exact read_end hr.out HM.out ht.out hw.out (by repeat (with_reducible first | exact Past.refl _ _ | refine Past.drew ?_ | refine Past.set ?_ | refine Past.set' ?_))

end Go.Proofs.YtjppklgegpmfpaaGreatDoor
