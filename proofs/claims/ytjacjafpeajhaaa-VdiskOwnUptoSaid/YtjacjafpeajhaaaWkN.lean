/-
  Walks: the document's disk: a new beginning.
-/
import Derived.Test.YtjacjafpeajhaaaWkM
namespace Go.Proofs.Ytjacjafpeajhaaa
open Go.RowKit

/-- How many of so many bytes are kept. -/
def keptM (keep : List Int) (n : Nat) (u : Int) : Int :=
  match keep[n]? with
  | none => 0
  | some x => if x.tmod (u + 1) < 0 then x.tmod (u + 1) + (u + 1) else x.tmod (u + 1)
/-- One file behind the crash, and how many had bytes that weren't synced. -/
def rev1 (keep : List Int) (n : Nat) (p : ByteArray × List Int × Int) : (ByteArray × List Int × Int) × Nat :=
  if 0 < (p.2.1.length : Int) - p.2.2 then ((p.1, p.2.1.take (p.2.2 + keptM keep n (p.2.1.length - p.2.2)).toNat, p.2.2 + keptM keep n (p.2.1.length - p.2.2)), n + 1)
  else ((p.1, p.2.1, p.2.1.length), n)
def revL (keep : List Int) : Nat → List (ByteArray × List Int × Int) → List (ByteArray × List Int × Int)
  | _, [] => []
  | n, p :: fs => (rev1 keep n p).1 :: revL keep (rev1 keep n p).2 fs
theorem kept_in (keep : List Int) (n : Nat) (u : Int) (hu : 0 < u) : 0 ≤ keptM keep n u ∧ keptM keep n u ≤ u := by
  unfold keptM
  cases keep[n]? with
  | none => simp; omega
  | some x =>
    have h1 := Int.emod_nonneg x (b := u + 1) (by omega)
    have h2 := Int.emod_lt_of_pos x (b := u + 1) (by omega)
    have h3 := Int.tmod_eq_emod (a := x) (b := u + 1)
    simp only
    split at h3 <;> split <;> omega

/-- Numbers, as they lie. -/
def Ints (w : World) (A : Option Addr) (L : List Int) : Prop := Lies w A (L.map (Value.int .i64))

theorem ints_at {w : World} {A : Option Addr} {L : List Int} {k : Nat} {x : Int} (h : Ints w A L) (hx : L[k]? = some x) : ∃ ad, A = some ad ∧ w.cell? (ad.add k) = some (.int .i64 x) := by
  have hv : (L.map (Value.int .i64))[k]? = some (.int .i64 x) := by simp [hx]
  rcases h with h | ⟨ad, rfl, h⟩
  · rw [h] at hv
    simp at hv
  · exact ⟨ad, rfl, h k _ hv⟩
theorem Ints.low {w w' : World} {A : Option Addr} {L : List Int} {B : Nat} (h : Ints w A L) (hb : Below B w w') (hl : ∀ ad, A = some ad → ad.block < B) : Ints w' A L := by
  rcases h with h | ⟨ad, rfl, h2⟩
  · exact .inl h
  · exact .inr ⟨ad, rfl, fun j x hx => by rw [hb.cell (by rw [add_block]; exact hl ad rfl)]; exact h2 j x hx⟩
theorem rev_step {keep : List Int} {l : List Fl} {k m m' : Nat} {q q' : Fl} {R : List (ByteArray × List Int × Int)} (hq : l[k]? = some q) (hd : l.drop k = q :: l.drop (k + 1)) (h1 : rev1 keep m q.rd = (q'.rd, m')) (hR : (l.take k).map Fl.rd ++ revL keep m ((l.drop k).map Fl.rd) = R) :
    ((l.set k q').take (k + 1)).map Fl.rd ++ revL keep m' (((l.set k q').drop (k + 1)).map Fl.rd) = R ∧ (l.set k q').drop (k + 1) = l.drop (k + 1) := by
  have hk := (List.getElem?_eq_some_iff.1 hq).1
  have e1 : (l.set k q').drop (k + 1) = l.drop (k + 1) := by rw [List.drop_set_of_lt (by omega)]
  have e2 : (l.set k q').take (k + 1) = l.take k ++ [q'] := by
    rw [List.take_add_one, List.getElem?_set_self hk, List.take_set_of_le (Nat.le_refl k)]
    rfl
  refine ⟨?_, e1⟩
  rw [e1, e2, ← hR, hd, List.map_append, List.map_cons]
  show _ = _ ++ ((rev1 keep m q.rd).1 :: revL keep (rev1 keep m q.rd).2 (List.map Fl.rd (List.drop (k + 1) l)))
  rw [h1]
  simp
/-- P7.4, Revive. -/
def Md.revive (m : Md) (keep : List Int) (ops room : Int) (K : Option Addr) (kn kc : Nat) : Md := ⟨revL keep 0 m.fs, ops, room, K, kn, kc, 0, false⟩

set_option maxRecDepth 100000 in
set_option maxHeartbeats 8000000 in
theorem refRevive_any (B g : Nat) (d : Dk) (keep : List Int) (ops room : Int) (K : Option Addr) (kn kc : Nat) (w : World) (h : RefSt w B g d) (hsy : ∀ q ∈ d.l, 0 ≤ q.y ∧ q.y ≤ q.d.l.length)
    (hk : Ints w d.K keep) (hkn : keep.length = d.kn) (hkB : ∀ ad, d.K = some ad → ad.block < B) (hki : ∀ x ∈ keep, -9223372036854775808 ≤ x ∧ x ≤ 9223372036854775807) (hkl : keep.length ≤ 1099511627776) :
    Calls Try.prog 27 #[.pointer (some ⟨g, 0, none⟩), .agg #[.int .i64 ops, .int .i64 room, .slice K kn kc]] w fun _ w' => Left w B g d (d.md.revive keep ops room K kn kc) w' := by
  obtain ⟨n, hn⟩ : ∃ n, d.l.length = n := ⟨_, rfl⟩
  have H := Lib.hid h
  have HL := Lib.hid hn
  have HSY := Lib.hid hsy
  have HKP := Lib.hid (And.intro hk (And.intro hkB hki))
  obtain ⟨kl, hkl0⟩ : ∃ kl, d.kn = kl := ⟨_, rfl⟩
  have HKN : Hid (keep.length = kl) := Lib.hid (by rw [hkn, hkl0])
  have HKL := Lib.hid hkl0
  have hkl1 : kl ≤ 1099511627776 := by omega
  obtain ⟨R, hR⟩ : ∃ R, revL keep 0 (d.l.map Fl.rd) = R := ⟨_, rfl⟩
  have HR := Lib.hid hR
  have hn20 : n ≤ 1048576 := by rw [← hn]; exact h.few
  have HW : Hid (Below w.heap.size w (w.alloc (.cells #[.int .i64 ops, .int .i64 room, .slice K kn kc] 25))) := Lib.hid (below_new _ _)
  have HX : Hid ((w.alloc (.cells #[.int .i64 ops, .int .i64 room, .slice K kn kc] 25)).heap[w.heap.size]? = some (.cells #[.int .i64 ops, .int .i64 room, .slice K kn kc] 25 (0, 0)) ∧ w.heap.size < (w.alloc (.cells #[.int .i64 ops, .int .i64 room, .slice K kn kc] 25)).heap.size) := Lib.hid ⟨heap_alloc_new _ _, by simp⟩
  have hle : n ≤ 1048576 := hn20
  have c00 := (h.kept HW.out).at_.cell.1
  rw [hn] at c00
  clear h hn hsy hk hkn hkB hki hkl hkl0 hR
  go_enter Try.func27, Try.ntmps27
  go_wp2_with fail
  generalize (w.alloc (.cells #[.int .i64 ops, .int .i64 room, .slice K kn kc] 25)) = w1 at HW HX c00 ⊢
  have H1 := Lib.hid (H.out.kept HW.out)
  go_loopw [4, 14] (fun t4 t14 wr => ∃ (k m : Nat) (d' : Dk), k ≤ n ∧ m ≤ k ∧ t14 = .int .i64 k ∧ t4 = .int .i64 m ∧ Hid (RefSt wr B g d') ∧ Hid (d'.ops = d.ops ∧ d'.room = d.room ∧ d'.K = d.K ∧ d'.kn = d.kn ∧ d'.kc = d.kc ∧ d'.done = d.done ∧ d'.down = d.down) ∧ Hid (d'.l.length = n) ∧ Hid ((d'.l.take k).map Fl.rd ++ revL keep m ((d'.l.drop k).map Fl.rd) = R) ∧ Hid (∀ q ∈ d'.l.drop k, q ∈ d.l) ∧ Hid (Does (d.own g) (d'.own g) w1 wr)) (fun _ t14 _ => n - (intOf t14).toNat)
  case atStart => exact ⟨0, 0, d, by omega, by omega, rfl, rfl, H1, Lib.hid ⟨rfl, rfl, rfl, rfl, rfl, rfl, rfl⟩, HL, Lib.hid (by simpa using HR.out), Lib.hid (fun q hq => by simpa using hq), Lib.hid (Does.refl _ _)⟩
  case round =>
    obtain ⟨k, m, d', hk, hmk, rfl, rfl, hs, hq7, hl2, hrev, hin, hdo⟩ := hrel
    obtain ⟨c0, c1, c2, c3, c4, c5⟩ := hs.out.at_.cell
    rw [hl2.out] at c0
    rw [hq7.out.2.2.1, hq7.out.2.2.2.1, HKL.out] at c3
    have HKI : Hid (Ints wr d.K keep) := Lib.hid (HKP.out.1.low ((HW.out.mono (by have := H.out.low; have := H.out.at_.lt; omega)).trans (hdo.out.below (by have := H.out.low; have := H.out.at_.lt; have := HW.out.size; omega) (fun k hk => (H.out.owned k hk).1))) HKP.out.2.1)
    by_cases hlt : k < n
    · have hq := List.getElem?_eq_getElem (l := d'.l) (i := k) (by have := hl2.out; omega)
      generalize d'.l[k]'(by have := hl2.out; omega) = q at hq
      obtain ⟨ad, hA, ⟨a0, a1, a2⟩, fz, hbl, hs2, hs1⟩ := frow_at hs.out.row hq
      have hdrop : d'.l.drop k = q :: d'.l.drop (k + 1) := by
        have hkl := (List.getElem?_eq_some_iff.1 hq).1
        rw [List.drop_eq_getElem_cons hkl]
        rw [List.getElem?_eq_getElem hkl] at hq
        injection hq with hq
        rw [hq]
      have HSET : Hid (∀ W, Below wr.heap.size wr W → AtF W (ad.add (k * 3)) q ∧ (∀ j, W.frozen? ⟨(ad.add (k * 3)).block, (ad.add (k * 3)).off + j, none⟩ = false) ∧ (∀ y, Frow (W.setCell ⟨(ad.add (k * 3)).block, (ad.add (k * 3)).off + 2, none⟩ (.int .i64 y)) B d'.A d'.c (d'.l.set k { q with y := y })) ∧ ∀ s : Sl, Frow (W.setCell ⟨(ad.add (k * 3)).block, (ad.add (k * 3)).off + 1, none⟩ s.val) B d'.A d'.c (d'.l.set k { q with d := s })) := Lib.hid (fun W hb => by
        obtain ⟨ad', hA', k1, k2, _, k4, k3⟩ := frow_at (hs.out.kept hb).row hq
        rw [hA] at hA'
        injection hA' with hA'
        subst hA'
        exact ⟨k1, k2, k4, k3⟩)
      have hsy1 := HSY.out q (hin.out q (by rw [hdrop]; simp))
      have hqd := hs.out.data q (List.mem_of_getElem? hq)
      have hqb := hs.out.byt q (List.mem_of_getElem? hq)
      have hql := hs.out.long q (List.mem_of_getElem? hq)
      rw [hA] at c0
      have f1 := fz 1
      have f2 := fz 2
      obtain ⟨qs, ⟨qa, qc, ql⟩, qy⟩ := q
      simp only at a0 a1 a2 hsy1 hqd hqb hql hs1 hs2 HSET
      obtain ⟨z, hz⟩ : ∃ z, ql.length = z := ⟨_, rfl⟩
      obtain ⟨y, rfl⟩ := Int.eq_ofNat_of_zero_le hsy1.1
      rw [hz] at a1 hql hsy1
      have hyz : y ≤ z := by have := hsy1.2; omega
      obtain ⟨u, hu⟩ : ∃ u : Nat, z = y + u := ⟨z - y, by omega⟩
      have hu1 : (z : Int) - (y : Int) = (u : Int) := by omega
      have HQ := Lib.hid (And.intro hq (And.intro hdrop (And.intro hqd (And.intro hqb (And.intro hz hu)))))
      have HA := Lib.hid (And.intro hA (And.intro hbl (And.intro hs1 hs2)))
      have hqc := (own_cap hqd).1
      rw [hz] at hqc
      clear hq hdrop hqd hqb hz hA hbl hs1 hs2 fz hsy1 hu
      by_cases hu0 : u = 0
      · subst hu0
        go_upto_region 6 with fail
        go_quiet (fail)
        have HV : Hid (rev1 keep m (Fl.rd ⟨qs, ⟨qa, qc, ql⟩, (y : Int)⟩) = (Fl.rd ⟨qs, ⟨qa, qc, ql⟩, (z : Int)⟩, m)) := Lib.hid (by
          have h5 := HQ.out.2.2.2.2
          unfold rev1 Fl.rd
          simp only
          rw [if_neg (by have := h5.1; have := h5.2; omega), h5.1])
        have BQ : Hid (Below wr.heap.size wr (wr.drewN nq)) := Lib.hid (below_drewN (Below.refl _ _) nq)
        go_wp2_with fail
        go_roundw
        case rel =>
          obtain ⟨g1, g2, g3, g4, g5⟩ := HQ.out
          obtain ⟨hst, hd2⟩ := hs.out.reput (j := 2) (q' := ⟨qs, ⟨qa, qc, ql⟩, (z : Int)⟩) BQ.out HA.out.1 g1 HA.out.2.1 ((HSET.out _ BQ.out).2.2.1 z) (g3.kept BQ.out (Nat.le_refl _)) g4 (by show ql.length ≤ _; omega) (fun bd hbd => .inl (.inr (.inr ⟨_, List.mem_of_getElem? g1, bd, hbd, rfl⟩)))
          obtain ⟨r1, r2⟩ := rev_step g1 g2 HV.out hrev.out
          exact ⟨k + 1, m, _, by omega, by omega, by go_num, rfl, Lib.hid hst, Lib.hid hq7.out, Lib.hid (by rw [List.length_set]; exact hl2.out), Lib.hid r1, Lib.hid (fun x hx => hin.out x (by rw [g2]; rw [r2] at hx; exact List.mem_cons_of_mem _ hx)), Lib.hid (hdo.out.trans hd2)⟩
        case measure => simp [intOf]; omega
      · have hu2 : (0 : Int) < (u : Int) := by omega
        have hu40 : (u : Int) ≤ 1099511627776 := by have := HQ.out.2.2.2.2.2; omega
        by_cases hmk2 : m < kl
        · have hx := List.getElem?_eq_getElem (l := keep) (i := m) (by have := HKN.out; omega)
          generalize keep[m]'(by have := HKN.out; omega) = x at hx
          obtain ⟨adK, hAK, k0⟩ := ints_at HKI.out hx
          rw [hAK] at c3
          have hxi := HKP.out.2.2 x (List.mem_of_getElem? hx)
          obtain ⟨hx0, hx1⟩ := hxi
          obtain ⟨t, ht⟩ : ∃ t, x.tmod ((u : Int) + 1) = t := ⟨_, rfl⟩
          have HKM := Lib.hid (And.intro hx ht)
          have HKE : Hid (keptM keep m (u : Int) = if t < 0 then t + ((u : Int) + 1) else t) := Lib.hid (by unfold keptM; rw [hx]; simp only; rw [ht])
          have HKI2 := Lib.hid (kept_in keep m (u : Int) hu2)
          clear hx hAK
          by_cases ht0 : t < 0
          · obtain ⟨kv, hkv⟩ := Int.eq_ofNat_of_zero_le HKI2.out.1
            have hkv2 : t + ((u : Int) + 1) = (kv : Int) := by rw [← hkv, HKE.out, if_pos ht0]
            have HYK : Hid (y + kv ≤ z) := Lib.hid (by have := HKI2.out.2; have := HQ.out.2.2.2.2.2; omega)
            have HV : Hid (rev1 keep m (Fl.rd ⟨qs, ⟨qa, qc, ql⟩, (y : Int)⟩) = (Fl.rd ⟨qs, ⟨qa, qc, ql.take (y + kv)⟩, ((y + kv : Nat) : Int)⟩, m + 1)) := Lib.hid (by
              have h5 := HQ.out.2.2.2.2
              unfold rev1 Fl.rd
              simp only
              rw [h5.1, hu1, if_pos hu2, hkv, show ((y : Int) + (kv : Int)) = ((y + kv : Nat) : Int) by omega, Int.toNat_natCast])
            go_upto_region 6 with fail
            go_quiet (fail)
            go_upto_region 13 with fail
            obtain ⟨wq, hwq⟩ : ∃ wq, wr.drewN nq = wq := ⟨_, rfl⟩
            have BQ : Hid (Below wr.heap.size wr wq) := Lib.hid (hwq ▸ below_drewN (Below.refl _ _) nq)
            rw [hwq]
            have HZS : Hid (wq.heap.size = wr.heap.size) := Lib.hid (by rw [← hwq]; rfl)
            clear hwq a0 a1 a2 f1 f2 c0 c3
            obtain ⟨⟨a0, a1, a2⟩, fz, -⟩ := HSET.out _ BQ.out
            have f1 := fz 1
            have f2 := fz 2
            simp only at a0 a1 a2
            rw [HQ.out.2.2.2.2.1] at a1
            obtain ⟨sl, bsl⟩ := slice_high ((HQ.out.2.2.1.kept BQ.out (Nat.le_refl _)).lies) z (y + kv) qc HQ.out.2.2.2.2.1 HYK.out hqc
            have s72 : ∀ W, (Instr.slice 38 (.slice qa z qc) none (some (.int .i64 ((y : Int) + (kv : Int)))) none).run Try.prog W = .ok (.slice qa (y + kv) qc) W := fun W => by have := sl W; simpa using this
            have HTK : Hid ((ql.take (y + kv)).length = y + kv) := Lib.hid (by have := HQ.out.2.2.2.2.1; have := HYK.out; simp; omega)
            clear sl bsl
            have hwT : IntKind.i64.wrap ((y : Int) + (kv : Int)) = (y : Int) + (kv : Int) := by have := HYK.out; simp only [IntKind.wrap_i64]; omega
            have hqT : ((y : Int) + (kv : Int)) ≤ (qc : Int) := by have := HYK.out; omega
            have hnT : ((y : Int) + (kv : Int)).toNat = y + kv := by omega
            have HD0 : Hid (∀ W, Below wq.heap.size wq W → Bys W qa (ql.take (y + kv))) := Lib.hid (fun W hb => (slice_high ((HQ.out.2.2.1.kept (below_then BQ.out (by rw [HZS.out] at hb ⊢; exact hb)) (Nat.le_refl _)).lies) z (y + kv) qc HQ.out.2.2.2.2.1 HYK.out hqc).2)
            have BA : Hid (Below wq.heap.size wq (wq.alloc (.cells #[] 5)).drew) := Lib.hid (below_new _ _).drew
            have BC : Hid (Below wq.heap.size wq (wq.drew.alloc (.cells #[] 5))) := Lib.hid ((Below.refl _ _).drew.alloc (Nat.le_refl _) _)
            have RA : Hid (Row (wq.alloc (.cells #[] 5)).drew wq.heap.size (some ⟨wq.heap.size, 0, none⟩) 0 []) := Lib.hid ((row_made _ _ [] #[] rfl (by simp) (Nat.le_refl _)).kept (Below.refl _ _).drew (Nat.le_refl _))
            have RC : Hid (Row (wq.drew.alloc (.cells #[] 5)) wq.heap.size (some ⟨wq.heap.size, 0, none⟩) 0 []) := Lib.hid (row_made wq.drew _ [] #[] rfl (by simp) (Nat.le_refl _))
            have HST2 : Hid (∀ W, Below wq.heap.size wq W → Below wr.heap.size wr W) := Lib.hid (fun W hb => below_then BQ.out (by rw [HZS.out] at hb ⊢; exact hb))
            obtain ⟨⟨x0, x1, x2⟩, -⟩ := HSET.out _ (HST2.out _ BA.out)
            obtain ⟨⟨v0, v1, v2⟩, -⟩ := HSET.out _ (HST2.out _ BC.out)
            simp only at x0 x1 x2 v0 v1 v2
            rw [HQ.out.2.2.2.2.1] at x1 v1
            have hdu : decide (0 < u) = true := by simp; omega
            try rw [hdu]
            go_cut [4] from 60 to 75 (fun t4 wx => t4 = .int .i64 m ∧ ∃ A7 c7, Hid (RefSt wx B g { d' with l := d'.l.set k ⟨qs, ⟨A7, c7, ql.take (y + kv)⟩, (y : Int)⟩ }) ∧ Hid (Does (d'.own g) (Dk.own { d' with l := d'.l.set k ⟨qs, ⟨A7, c7, ql.take (y + kv)⟩, (y : Int)⟩ } g) wr wx))
            case first =>
              go_region_law (first
                | (refine step_append_row _ (by rfl) (.tmp 61) (.tmp 72) (by rfl) wq.heap.size (some ⟨wq.heap.size, 0, none⟩) 0 [] (ql.take (y + kv)) qa 0 (y + kv) qc (by first | rfl | simp [Act.eval]) (by first | rfl | simp [Act.eval]) rfl HTK.out (by first | exact RA.out | exact RC.out) (by first | exact HD0.out _ BA.out | exact HD0.out _ BC.out) (by first | exact BA.out.size | exact BC.out.size) (by rw [HTK.out]; have := HYK.out; simp; omega) ?_; intro A7 c7 w7 r7 b7; have R7 := Lib.hid r7; have B7 : Hid (Below wq.heap.size wq w7) := Lib.hid (by first | exact BA.out.trans b7 | exact BC.out.trans b7); clear r7 b7; obtain ⟨⟨y0, y1, y2⟩, g8, -⟩ := HSET.out _ (HST2.out _ B7.out); have g8 := g8 1; simp only at y0 y1 y2))
              all_goals
                go_wp2_with fail
                go_meet
                obtain ⟨g1, g2, g3, g4, g5⟩ := HQ.out
                have hs8 := (HSET.out _ (HST2.out _ B7.out)).2.2.2 ⟨A7, c7, ql.take (y + kv)⟩
                unfold Sl.val at hs8
                simp only at hs8
                rw [HTK.out] at hs8
                obtain ⟨hst, hd2⟩ := hs.out.reput (j := 1) (q' := ⟨qs, ⟨A7, c7, ql.take (y + kv)⟩, (y : Int)⟩) (HST2.out _ B7.out) HA.out.1 g1 HA.out.2.1 hs8 (own_mono R7.out (by have := hs.out.low; have := hs.out.at_.lt; have := HZS.out; omega)) (g4.take _) (by rw [HTK.out]; have := HYK.out; omega) (fun bd hbd => .inr (by have := (own_in R7.out bd hbd).1; have := HZS.out; omega))
                exact ⟨rfl, A7, c7, Lib.hid hst, Lib.hid hd2⟩
            case rest =>
              obtain ⟨rfl, A7, c7, S8, D8⟩ := hcut
              obtain ⟨w8, rfl⟩ : ∃ w8, w8 = wc := ⟨_, rfl⟩
              have hk8 : k < d'.l.length := by have := hl2.out; omega
              have HQ8 : Hid ((d'.l.set k ⟨qs, ⟨A7, c7, ql.take (y + kv)⟩, (y : Int)⟩)[k]? = some ⟨qs, ⟨A7, c7, ql.take (y + kv)⟩, (y : Int)⟩) := Lib.hid (List.getElem?_set_self hk8)
              obtain ⟨ad8, hA8, ⟨b0, b1, b2⟩, fz8, hbl8, hs28, -⟩ := frow_at S8.out.row HQ8.out
              have hA8' : d'.A = some ad8 := hA8
              rw [HA.out.1] at hA8'
              injection hA8' with hA8'
              subst hA8'
              have e2 := fz8 2
              simp only at b0 b1 b2
              rw [HTK.out] at b1
              have HA8 := Lib.hid (And.intro hA8 (And.intro hbl8 hs28))
              clear hA8 hbl8 hs28 fz8 a0 a1 a2 f1 f2 fz x0 x1 x2 v0 v1 v2
              go_wp2_with fail
              go_roundw
              case rel =>
                obtain ⟨g1, g2, g3, g4, g5⟩ := HQ.out
                have hq8 := HQ8.out
                have hm8 := List.mem_of_getElem? hq8
                have hm81 := S8.out.data _ hm8
                have hm82 := S8.out.byt _ hm8
                have hm83 := S8.out.long _ hm8
                obtain ⟨hst, hd2⟩ := S8.out.reput (j := 2) (q' := ⟨qs, ⟨A7, c7, ql.take (y + kv)⟩, ((y + kv : Nat) : Int)⟩) (Below.refl _ _) HA8.out.1 hq8 HA8.out.2.1 (HA8.out.2.2 _) hm81 hm82 hm83 (fun bd hbd => .inl (.inr (.inr ⟨_, hm8, bd, hbd, rfl⟩)))
                simp only [List.set_set] at hst hd2
                obtain ⟨r1, r2⟩ := rev_step (q' := ⟨qs, ⟨A7, c7, ql.take (y + kv)⟩, ((y + kv : Nat) : Int)⟩) g1 g2 HV.out hrev.out
                exact ⟨k + 1, m + 1, _, by omega, by omega, by go_num, by go_num, Lib.hid hst, Lib.hid hq7.out, Lib.hid (by rw [List.length_set]; exact hl2.out), Lib.hid r1, Lib.hid (fun x hx => hin.out x (by rw [g2]; rw [r2] at hx; exact List.mem_cons_of_mem _ hx)), Lib.hid ((hdo.out.trans D8.out).trans hd2)⟩
              case measure => simp [intOf]; omega
          · obtain ⟨kv, hkv⟩ := Int.eq_ofNat_of_zero_le HKI2.out.1
            have hkv2 : t = (kv : Int) := by rw [← hkv, HKE.out, if_neg ht0]
            have ht0' : decide (t < 0) = false := by simpa using ht0
            have HYK : Hid (y + kv ≤ z) := Lib.hid (by have := HKI2.out.2; have := HQ.out.2.2.2.2.2; omega)
            have HV : Hid (rev1 keep m (Fl.rd ⟨qs, ⟨qa, qc, ql⟩, (y : Int)⟩) = (Fl.rd ⟨qs, ⟨qa, qc, ql.take (y + kv)⟩, ((y + kv : Nat) : Int)⟩, m + 1)) := Lib.hid (by
              have h5 := HQ.out.2.2.2.2
              unfold rev1 Fl.rd
              simp only
              rw [h5.1, hu1, if_pos hu2, hkv, show ((y : Int) + (kv : Int)) = ((y + kv : Nat) : Int) by omega, Int.toNat_natCast])
            go_upto_region 6 with fail
            go_quiet (fail)
            go_upto_region 13 with fail
            obtain ⟨wq, hwq⟩ : ∃ wq, wr.drewN nq = wq := ⟨_, rfl⟩
            have BQ : Hid (Below wr.heap.size wr wq) := Lib.hid (hwq ▸ below_drewN (Below.refl _ _) nq)
            rw [hwq]
            have HZS : Hid (wq.heap.size = wr.heap.size) := Lib.hid (by rw [← hwq]; rfl)
            clear hwq a0 a1 a2 f1 f2 c0 c3
            obtain ⟨⟨a0, a1, a2⟩, fz, -⟩ := HSET.out _ BQ.out
            have f1 := fz 1
            have f2 := fz 2
            simp only at a0 a1 a2
            rw [HQ.out.2.2.2.2.1] at a1
            obtain ⟨sl, bsl⟩ := slice_high ((HQ.out.2.2.1.kept BQ.out (Nat.le_refl _)).lies) z (y + kv) qc HQ.out.2.2.2.2.1 HYK.out hqc
            have s72 : ∀ W, (Instr.slice 38 (.slice qa z qc) none (some (.int .i64 ((y : Int) + (kv : Int)))) none).run Try.prog W = .ok (.slice qa (y + kv) qc) W := fun W => by have := sl W; simpa using this
            have HTK : Hid ((ql.take (y + kv)).length = y + kv) := Lib.hid (by have := HQ.out.2.2.2.2.1; have := HYK.out; simp; omega)
            clear sl bsl
            have hwT : IntKind.i64.wrap ((y : Int) + (kv : Int)) = (y : Int) + (kv : Int) := by have := HYK.out; simp only [IntKind.wrap_i64]; omega
            have hqT : ((y : Int) + (kv : Int)) ≤ (qc : Int) := by have := HYK.out; omega
            have hnT : ((y : Int) + (kv : Int)).toNat = y + kv := by omega
            have HD0 : Hid (∀ W, Below wq.heap.size wq W → Bys W qa (ql.take (y + kv))) := Lib.hid (fun W hb => (slice_high ((HQ.out.2.2.1.kept (below_then BQ.out (by rw [HZS.out] at hb ⊢; exact hb)) (Nat.le_refl _)).lies) z (y + kv) qc HQ.out.2.2.2.2.1 HYK.out hqc).2)
            have BA : Hid (Below wq.heap.size wq (wq.alloc (.cells #[] 5)).drew) := Lib.hid (below_new _ _).drew
            have BC : Hid (Below wq.heap.size wq (wq.drew.alloc (.cells #[] 5))) := Lib.hid ((Below.refl _ _).drew.alloc (Nat.le_refl _) _)
            have RA : Hid (Row (wq.alloc (.cells #[] 5)).drew wq.heap.size (some ⟨wq.heap.size, 0, none⟩) 0 []) := Lib.hid ((row_made _ _ [] #[] rfl (by simp) (Nat.le_refl _)).kept (Below.refl _ _).drew (Nat.le_refl _))
            have RC : Hid (Row (wq.drew.alloc (.cells #[] 5)) wq.heap.size (some ⟨wq.heap.size, 0, none⟩) 0 []) := Lib.hid (row_made wq.drew _ [] #[] rfl (by simp) (Nat.le_refl _))
            have HST2 : Hid (∀ W, Below wq.heap.size wq W → Below wr.heap.size wr W) := Lib.hid (fun W hb => below_then BQ.out (by rw [HZS.out] at hb ⊢; exact hb))
            obtain ⟨⟨x0, x1, x2⟩, -⟩ := HSET.out _ (HST2.out _ BA.out)
            obtain ⟨⟨v0, v1, v2⟩, -⟩ := HSET.out _ (HST2.out _ BC.out)
            simp only at x0 x1 x2 v0 v1 v2
            rw [HQ.out.2.2.2.2.1] at x1 v1
            have hdu : decide (0 < u) = true := by simp; omega
            try rw [hdu]
            go_cut [4] from 60 to 75 (fun t4 wx => t4 = .int .i64 m ∧ ∃ A7 c7, Hid (RefSt wx B g { d' with l := d'.l.set k ⟨qs, ⟨A7, c7, ql.take (y + kv)⟩, (y : Int)⟩ }) ∧ Hid (Does (d'.own g) (Dk.own { d' with l := d'.l.set k ⟨qs, ⟨A7, c7, ql.take (y + kv)⟩, (y : Int)⟩ } g) wr wx))
            case first =>
              go_region_law (first
                | (refine step_append_row _ (by rfl) (.tmp 61) (.tmp 72) (by rfl) wq.heap.size (some ⟨wq.heap.size, 0, none⟩) 0 [] (ql.take (y + kv)) qa 0 (y + kv) qc (by first | rfl | simp [Act.eval]) (by first | rfl | simp [Act.eval]) rfl HTK.out (by first | exact RA.out | exact RC.out) (by first | exact HD0.out _ BA.out | exact HD0.out _ BC.out) (by first | exact BA.out.size | exact BC.out.size) (by rw [HTK.out]; have := HYK.out; simp; omega) ?_; intro A7 c7 w7 r7 b7; have R7 := Lib.hid r7; have B7 : Hid (Below wq.heap.size wq w7) := Lib.hid (by first | exact BA.out.trans b7 | exact BC.out.trans b7); clear r7 b7; obtain ⟨⟨y0, y1, y2⟩, g8, -⟩ := HSET.out _ (HST2.out _ B7.out); have g8 := g8 1; simp only at y0 y1 y2))
              all_goals
                go_wp2_with fail
                go_meet
                obtain ⟨g1, g2, g3, g4, g5⟩ := HQ.out
                have hs8 := (HSET.out _ (HST2.out _ B7.out)).2.2.2 ⟨A7, c7, ql.take (y + kv)⟩
                unfold Sl.val at hs8
                simp only at hs8
                rw [HTK.out] at hs8
                obtain ⟨hst, hd2⟩ := hs.out.reput (j := 1) (q' := ⟨qs, ⟨A7, c7, ql.take (y + kv)⟩, (y : Int)⟩) (HST2.out _ B7.out) HA.out.1 g1 HA.out.2.1 hs8 (own_mono R7.out (by have := hs.out.low; have := hs.out.at_.lt; have := HZS.out; omega)) (g4.take _) (by rw [HTK.out]; have := HYK.out; omega) (fun bd hbd => .inr (by have := (own_in R7.out bd hbd).1; have := HZS.out; omega))
                exact ⟨rfl, A7, c7, Lib.hid hst, Lib.hid hd2⟩
            case rest =>
              obtain ⟨rfl, A7, c7, S8, D8⟩ := hcut
              obtain ⟨w8, rfl⟩ : ∃ w8, w8 = wc := ⟨_, rfl⟩
              have hk8 : k < d'.l.length := by have := hl2.out; omega
              have HQ8 : Hid ((d'.l.set k ⟨qs, ⟨A7, c7, ql.take (y + kv)⟩, (y : Int)⟩)[k]? = some ⟨qs, ⟨A7, c7, ql.take (y + kv)⟩, (y : Int)⟩) := Lib.hid (List.getElem?_set_self hk8)
              obtain ⟨ad8, hA8, ⟨b0, b1, b2⟩, fz8, hbl8, hs28, -⟩ := frow_at S8.out.row HQ8.out
              have hA8' : d'.A = some ad8 := hA8
              rw [HA.out.1] at hA8'
              injection hA8' with hA8'
              subst hA8'
              have e2 := fz8 2
              simp only at b0 b1 b2
              rw [HTK.out] at b1
              have HA8 := Lib.hid (And.intro hA8 (And.intro hbl8 hs28))
              clear hA8 hbl8 hs28 fz8 a0 a1 a2 f1 f2 fz x0 x1 x2 v0 v1 v2
              go_wp2_with fail
              go_roundw
              case rel =>
                obtain ⟨g1, g2, g3, g4, g5⟩ := HQ.out
                have hq8 := HQ8.out
                have hm8 := List.mem_of_getElem? hq8
                have hm81 := S8.out.data _ hm8
                have hm82 := S8.out.byt _ hm8
                have hm83 := S8.out.long _ hm8
                obtain ⟨hst, hd2⟩ := S8.out.reput (j := 2) (q' := ⟨qs, ⟨A7, c7, ql.take (y + kv)⟩, ((y + kv : Nat) : Int)⟩) (Below.refl _ _) HA8.out.1 hq8 HA8.out.2.1 (HA8.out.2.2 _) hm81 hm82 hm83 (fun bd hbd => .inl (.inr (.inr ⟨_, hm8, bd, hbd, rfl⟩)))
                simp only [List.set_set] at hst hd2
                obtain ⟨r1, r2⟩ := rev_step (q' := ⟨qs, ⟨A7, c7, ql.take (y + kv)⟩, ((y + kv : Nat) : Int)⟩) g1 g2 HV.out hrev.out
                exact ⟨k + 1, m + 1, _, by omega, by omega, by go_num, by go_num, Lib.hid hst, Lib.hid hq7.out, Lib.hid (by rw [List.length_set]; exact hl2.out), Lib.hid r1, Lib.hid (fun x hx => hin.out x (by rw [g2]; rw [r2] at hx; exact List.mem_cons_of_mem _ hx)), Lib.hid ((hdo.out.trans D8.out).trans hd2)⟩
              case measure => simp [intOf]; omega
        · have HK0 : Hid (keptM keep m (u : Int) = 0) := Lib.hid (by unfold keptM; rw [List.getElem?_eq_none (by have := HKN.out; omega)])
          have HYK : Hid (y ≤ z) := Lib.hid hyz
          have HV : Hid (rev1 keep m (Fl.rd ⟨qs, ⟨qa, qc, ql⟩, (y : Int)⟩) = (Fl.rd ⟨qs, ⟨qa, qc, ql.take y⟩, (y : Int)⟩, m + 1)) := Lib.hid (by
            have h5 := HQ.out.2.2.2.2
            unfold rev1 Fl.rd
            simp only
            rw [h5.1, hu1, if_pos hu2, HK0.out, Int.add_zero, Int.toNat_natCast])
          go_upto_region 6 with fail
          go_quiet (fail)
          go_upto_region 13 with fail
          obtain ⟨wq, hwq⟩ : ∃ wq, wr.drewN nq = wq := ⟨_, rfl⟩
          have BQ : Hid (Below wr.heap.size wr wq) := Lib.hid (hwq ▸ below_drewN (Below.refl _ _) nq)
          rw [hwq]
          have HZS : Hid (wq.heap.size = wr.heap.size) := Lib.hid (by rw [← hwq]; rfl)
          clear hwq a0 a1 a2 f1 f2 c0 c3
          obtain ⟨⟨a0, a1, a2⟩, fz, -⟩ := HSET.out _ BQ.out
          have f1 := fz 1
          have f2 := fz 2
          simp only at a0 a1 a2
          rw [HQ.out.2.2.2.2.1] at a1
          obtain ⟨sl, bsl⟩ := slice_high ((HQ.out.2.2.1.kept BQ.out (Nat.le_refl _)).lies) z (y) qc HQ.out.2.2.2.2.1 HYK.out hqc
          have s72 : ∀ W, (Instr.slice 38 (.slice qa z qc) none (some (.int .i64 ((y : Int)))) none).run Try.prog W = .ok (.slice qa (y) qc) W := fun W => by have := sl W; simpa using this
          have HTK : Hid ((ql.take (y)).length = y) := Lib.hid (by have := HQ.out.2.2.2.2.1; have := HYK.out; simp; omega)
          clear sl bsl
          have hwT : IntKind.i64.wrap ((y : Int)) = (y : Int) := by have := HYK.out; simp only [IntKind.wrap_i64]; omega
          have hqT : ((y : Int)) ≤ (qc : Int) := by have := HYK.out; omega
          have hnT : ((y : Int)).toNat = y := by omega
          have HD0 : Hid (∀ W, Below wq.heap.size wq W → Bys W qa (ql.take (y))) := Lib.hid (fun W hb => (slice_high ((HQ.out.2.2.1.kept (below_then BQ.out (by rw [HZS.out] at hb ⊢; exact hb)) (Nat.le_refl _)).lies) z (y) qc HQ.out.2.2.2.2.1 HYK.out hqc).2)
          have BA : Hid (Below wq.heap.size wq (wq.alloc (.cells #[] 5)).drew) := Lib.hid (below_new _ _).drew
          have BC : Hid (Below wq.heap.size wq (wq.drew.alloc (.cells #[] 5))) := Lib.hid ((Below.refl _ _).drew.alloc (Nat.le_refl _) _)
          have RA : Hid (Row (wq.alloc (.cells #[] 5)).drew wq.heap.size (some ⟨wq.heap.size, 0, none⟩) 0 []) := Lib.hid ((row_made _ _ [] #[] rfl (by simp) (Nat.le_refl _)).kept (Below.refl _ _).drew (Nat.le_refl _))
          have RC : Hid (Row (wq.drew.alloc (.cells #[] 5)) wq.heap.size (some ⟨wq.heap.size, 0, none⟩) 0 []) := Lib.hid (row_made wq.drew _ [] #[] rfl (by simp) (Nat.le_refl _))
          have HST2 : Hid (∀ W, Below wq.heap.size wq W → Below wr.heap.size wr W) := Lib.hid (fun W hb => below_then BQ.out (by rw [HZS.out] at hb ⊢; exact hb))
          obtain ⟨⟨x0, x1, x2⟩, -⟩ := HSET.out _ (HST2.out _ BA.out)
          obtain ⟨⟨v0, v1, v2⟩, -⟩ := HSET.out _ (HST2.out _ BC.out)
          simp only at x0 x1 x2 v0 v1 v2
          rw [HQ.out.2.2.2.2.1] at x1 v1
          have hdu : decide (0 < u) = true := by simp; omega
          try rw [hdu]
          go_cut [4] from 60 to 75 (fun t4 wx => t4 = .int .i64 m ∧ ∃ A7 c7, Hid (RefSt wx B g { d' with l := d'.l.set k ⟨qs, ⟨A7, c7, ql.take (y)⟩, (y : Int)⟩ }) ∧ Hid (Does (d'.own g) (Dk.own { d' with l := d'.l.set k ⟨qs, ⟨A7, c7, ql.take (y)⟩, (y : Int)⟩ } g) wr wx))
          case first =>
            go_region_law (first
              | (refine step_append_row _ (by rfl) (.tmp 61) (.tmp 72) (by rfl) wq.heap.size (some ⟨wq.heap.size, 0, none⟩) 0 [] (ql.take (y)) qa 0 (y) qc (by first | rfl | simp [Act.eval]) (by first | rfl | simp [Act.eval]) rfl HTK.out (by first | exact RA.out | exact RC.out) (by first | exact HD0.out _ BA.out | exact HD0.out _ BC.out) (by first | exact BA.out.size | exact BC.out.size) (by rw [HTK.out]; have := HYK.out; simp; omega) ?_; intro A7 c7 w7 r7 b7; have R7 := Lib.hid r7; have B7 : Hid (Below wq.heap.size wq w7) := Lib.hid (by first | exact BA.out.trans b7 | exact BC.out.trans b7); clear r7 b7; obtain ⟨⟨y0, y1, y2⟩, g8, -⟩ := HSET.out _ (HST2.out _ B7.out); have g8 := g8 1; simp only at y0 y1 y2))
            all_goals
              go_wp2_with fail
              go_meet
              obtain ⟨g1, g2, g3, g4, g5⟩ := HQ.out
              have hs8 := (HSET.out _ (HST2.out _ B7.out)).2.2.2 ⟨A7, c7, ql.take (y)⟩
              unfold Sl.val at hs8
              simp only at hs8
              rw [HTK.out] at hs8
              obtain ⟨hst, hd2⟩ := hs.out.reput (j := 1) (q' := ⟨qs, ⟨A7, c7, ql.take (y)⟩, (y : Int)⟩) (HST2.out _ B7.out) HA.out.1 g1 HA.out.2.1 hs8 (own_mono R7.out (by have := hs.out.low; have := hs.out.at_.lt; have := HZS.out; omega)) (g4.take _) (by rw [HTK.out]; have := HYK.out; omega) (fun bd hbd => .inr (by have := (own_in R7.out bd hbd).1; have := HZS.out; omega))
              exact ⟨rfl, A7, c7, Lib.hid hst, Lib.hid hd2⟩
          case rest =>
            obtain ⟨rfl, A7, c7, S8, D8⟩ := hcut
            obtain ⟨w8, rfl⟩ : ∃ w8, w8 = wc := ⟨_, rfl⟩
            have hk8 : k < d'.l.length := by have := hl2.out; omega
            have HQ8 : Hid ((d'.l.set k ⟨qs, ⟨A7, c7, ql.take (y)⟩, (y : Int)⟩)[k]? = some ⟨qs, ⟨A7, c7, ql.take (y)⟩, (y : Int)⟩) := Lib.hid (List.getElem?_set_self hk8)
            obtain ⟨ad8, hA8, ⟨b0, b1, b2⟩, fz8, hbl8, hs28, -⟩ := frow_at S8.out.row HQ8.out
            have hA8' : d'.A = some ad8 := hA8
            rw [HA.out.1] at hA8'
            injection hA8' with hA8'
            subst hA8'
            have e2 := fz8 2
            simp only at b0 b1 b2
            rw [HTK.out] at b1
            have HA8 := Lib.hid (And.intro hA8 (And.intro hbl8 hs28))
            clear hA8 hbl8 hs28 fz8 a0 a1 a2 f1 f2 fz x0 x1 x2 v0 v1 v2
            go_wp2_with fail
            go_roundw
            case rel =>
              obtain ⟨g1, g2, g3, g4, g5⟩ := HQ.out
              have hq8 := HQ8.out
              have hm8 := List.mem_of_getElem? hq8
              have hm81 := S8.out.data _ hm8
              have hm82 := S8.out.byt _ hm8
              have hm83 := S8.out.long _ hm8
              obtain ⟨hst, hd2⟩ := S8.out.reput (j := 2) (q' := ⟨qs, ⟨A7, c7, ql.take (y)⟩, ((y : Nat) : Int)⟩) (Below.refl _ _) HA8.out.1 hq8 HA8.out.2.1 (HA8.out.2.2 _) hm81 hm82 hm83 (fun bd hbd => .inl (.inr (.inr ⟨_, hm8, bd, hbd, rfl⟩)))
              simp only [List.set_set] at hst hd2
              obtain ⟨r1, r2⟩ := rev_step (q' := ⟨qs, ⟨A7, c7, ql.take (y)⟩, ((y : Nat) : Int)⟩) g1 g2 HV.out hrev.out
              exact ⟨k + 1, m + 1, _, by omega, by omega, by go_num, by go_num, Lib.hid hst, Lib.hid hq7.out, Lib.hid (by rw [List.length_set]; exact hl2.out), Lib.hid r1, Lib.hid (fun x hx => hin.out x (by rw [g2]; rw [r2] at hx; exact List.mem_cons_of_mem _ hx)), Lib.hid ((hdo.out.trans D8.out).trans hd2)⟩
            case measure => simp [intOf]; omega
    · obtain rfl : k = n := by omega
      have HX2 : Hid (wr.heap[w.heap.size]? = some (.cells #[.int .i64 ops, .int .i64 room, .slice K kn kc] 25 (0, 0))) := Lib.hid (by rw [hdo.out.block _ HX.out.2 (fun ho => by have := (H.out.owned _ ho).2; omega)]; exact HX.out.1)
      have x0 : wr.cell? ⟨w.heap.size, 0, none⟩ = some (.int .i64 ops) := by simp [World.cell?, HX2.out]
      have x1 : wr.cell? ⟨w.heap.size, 1, none⟩ = some (.int .i64 room) := by simp [World.cell?, HX2.out]
      have x2 : wr.cell? ⟨w.heap.size, 2, none⟩ = some (.slice K kn kc) := by simp [World.cell?, HX2.out]
      have f1 := hs.out.at_.frozen 1
      have f2 := hs.out.at_.frozen 2
      have f3 := hs.out.at_.frozen 3
      have f4 := hs.out.at_.frozen 4
      have f5 := hs.out.at_.frozen 5
      go_wp2_with fail
      go_end0
      have hb1 := (((((belowx_set wr.heap.size wr g 1 (.int .i64 ops)).trans (belowx_set _ _ g 2 (.int .i64 room))).trans (belowx_set _ _ g 3 (.slice K kn kc))).trans (belowx_set _ _ g 4 (.int .i64 0))).trans (belowx_set _ _ g 5 (.bool false)))
      have hat := ((((hs.out.at_.set (d' := { d' with ops := ops }) 1 (.int .i64 ops) rfl).set (d' := { d' with ops := ops, room := room }) 2 (.int .i64 room) rfl).set (d' := { d' with ops := ops, room := room, K := K, kn := kn, kc := kc }) 3 (.slice K kn kc) rfl).set (d' := { d' with ops := ops, room := room, K := K, kn := kn, kc := kc, done := 0 }) 4 (.int .i64 0) rfl).set (d' := { d' with ops := ops, room := room, K := K, kn := kn, kc := kc, done := 0, down := false }) 5 (.bool false) rfl
      have hr9 := hrev.out
      rw [List.take_of_length_le (by have := hl2.out; omega), List.drop_of_length_le (by have := hl2.out; omega)] at hr9
      refine ⟨_, hs.out.turned hat hb1 rfl rfl rfl ⟨Int.le_refl 0, by show (0 : Int) ≤ 1099511627776; decide⟩, ?_, ((Does.of_below HW.out (fun k hk => .inl hk)).trans hdo.out).trans (does_turned hb1 rfl rfl)⟩
      unfold Md.revive
      show Md.mk (d'.l.map Fl.rd) ops room K kn kc 0 false = _
      rw [show d.md.fs = d.l.map Fl.rd from rfl, HR.out, ← hr9]
      simp [revL]

end Go.Proofs.Ytjacjafpeajhaaa
