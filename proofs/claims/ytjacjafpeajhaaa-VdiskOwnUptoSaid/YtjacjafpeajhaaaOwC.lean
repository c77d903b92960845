/-
  The law VdiskOwn, walked.
-/
import Derived.Test.YtjacjafpeajhaaaOwB
import Derived.StillTailTactics
namespace Go.Proofs.Ytjacjafpeajhaaa
open Go.RowKit
open Go.Maps

theorem sum_insAll' (l : List Fl) : sumM ((insAll l).map Fl.rd) = sumM (l.map Fl.rd) := by
  have key : ∀ (l a : List Fl), sumM ((l.foldl (fun acc q => insF q acc) a).map Fl.rd) = sumM (a.map Fl.rd) + sumM (l.map Fl.rd) := by
    intro l
    induction l with
    | nil => intro a; simp [sumM]
    | cons x l ih =>
      intro a
      rw [List.foldl_cons, ih, insM_rd, sum_ins, List.map_cons, sum_cons]
      omega
  have := key l []
  simpa [sumM, insAll] using this
theorem okName_size' {s : ByteArray} (h : okName s = true) : s.size ≤ 1048576 := by
  unfold okName at h
  simp at h
  omega
set_option maxRecDepth 100000 in
set_option maxHeartbeats 64000000 in
theorem lawOwn (A : Option Addr) (l : List Fl) (n c : Nat) (ops room : Int) (K : Option Addr) (keep : List Int) (kn kc : Nat) (C : Option Addr) (L : List Int) (m dc : Nat) (w : World) (h : FsIn w A l n c) (hp : PlIn w ops room K keep kn kc) (hcb : In w C L m dc) (hsum : sumM (l.map Fl.rd) + n + m ≤ 1048574) :
    Calls Try.prog 7 #[.slice A n c, .agg #[.int .i64 ops, .int .i64 room, .slice K kn kc], .slice C m dc] w fun e w' => e = .returned (.bool true) ∧ Below w.heap.size w w' := by
  have H := Lib.hid (And.intro h hp)
  have HSUM := Lib.hid hsum
  have HML := Lib.hid hcb.len
  have HMM : Hid (m ≤ 1048574) := Lib.hid (by omega)
  have HCB := Lib.hid (fun (W : World) (hb : Below w.heap.size w W) => hcb.kept hb)
  have YL := Lib.hid hcb.byt
  obtain ⟨w0, hw0⟩ : ∃ w0, w.alloc (.cells #[.int .i64 ops, .int .i64 room, .slice K kn kc] 25) = w0 := ⟨_, rfl⟩
  have B0 : Hid (Below w.heap.size w w0) := Lib.hid (hw0 ▸ below_new _ _)
  have HZ : Hid (w0.cell? ⟨w.heap.size, 0, none⟩ = some (.int .i64 ops) ∧ w0.cell? ⟨w.heap.size, 1, none⟩ = some (.int .i64 room) ∧ w0.cell? ⟨w.heap.size, 2, none⟩ = some (.slice K kn kc)) := Lib.hid (by rw [← hw0]; exact ⟨lit_cell w _ _ 0, lit_cell w _ _ 1, lit_cell w _ _ 2⟩)
  have HS0 : Hid (w0.heap.size = w.heap.size + 1) := Lib.hid (by rw [← hw0]; simp)
  have HK : Hid (∀ W, Below w0.heap.size w0 W → W.cell? ⟨w.heap.size, 0, none⟩ = some (.int .i64 ops) ∧ W.cell? ⟨w.heap.size, 1, none⟩ = some (.int .i64 room) ∧ W.cell? ⟨w.heap.size, 2, none⟩ = some (.slice K kn kc)) := Lib.hid (fun W hb => by
    have e := hb.block w.heap.size (by have := HS0.out; omega)
    exact ⟨(World.cell?_of_block e).trans HZ.out.1, (World.cell?_of_block e).trans HZ.out.2.1, (World.cell?_of_block e).trans HZ.out.2.2⟩)
  have HCP := Lib.hid (fun (W : World) (hb : Below w.heap.size w W) => copy_n (H.out.1.kept hb))
  have HPL := Lib.hid (fun (W : World) (hb : Below w.heap.size w W) => plan_n (H.out.2.kept hb))
  have HOF := Lib.hid (fun (W : World) (l' : List Fl) (A' : Option Addr) (c' : Nat) (K' : Option Addr) (kc' : Nat) (h1 : FsIn W A' l' n c') (h2 : l'.map Fl.rd = l.map Fl.rd) (h3 : Ints W K' keep) => of_n (kc := kc') h1 h2 (H.out.2.again h3))
  have HRO := Lib.hid (fun (W : World) (hb : Below w.heap.size w W) => refOf_any A l n c ops room K kn kc W h.len (h.kept hb).lies (h.kept hb).ins (by omega) (fun q hq => by have := long_le (List.mem_map_of_mem (f := Fl.rd) hq); have e : q.rd.2.1.length = q.d.l.length := rfl; omega) (fun q hq => by have := h.names q hq; omega))
  clear h hp hsum hcb
  obtain ⟨r, hr⟩ : ∃ r, ofE l = r := ⟨_, rfl⟩
  rw [hr] at HOF HRO
  have HR := Lib.hid hr
  clear hr
  go_enter Try.func7, Try.ntmps7
  go_upto_region 3 with (go_at_call 9; refine (wakes_any w0).mono ?_; rintro e w1 ⟨rfl, hb⟩; have B1 := Lib.hid hb; clear hb)
  have D1 : Hid (Below w.heap.size w w1) := Lib.hid (B0.out.trans (B1.out.mono B0.out.size))
  have HKS : Hid (∀ W, Below w1.heap.size w1 W → W.cell? ⟨w.heap.size, 0, none⟩ = some (.int .i64 ops) ∧ W.cell? ⟨w.heap.size, 1, none⟩ = some (.int .i64 room) ∧ W.cell? ⟨w.heap.size, 2, none⟩ = some (.slice K kn kc)) := Lib.hid (fun W hb => HK.out W (B1.out.trans (hb.mono B1.out.size)))
  clear hw0 HZ
  refine Code.wp_mono (fun e a W (hq : e = .normal ∧ ∃ (S E gb : Nat) (A5 A8 A6 : Option Addr) (c5 c8 c6 : Nat) (l5 : List Fl) (v30 v32 v33 : Value), a = ⟨#[.slice A n c, .agg #[.int .i64 ops, .int .i64 room, .slice K kn kc], .slice C m dc, undef, .pointer (some ⟨w.heap.size, 0, none⟩), undef, .bool false, .slice A5 n c5, .slice A8 (m + 1) c8, .pointer (some ⟨gb, 0, none⟩), undef, undef, undef, undef, undef, undef, undef, undef, undef, undef, undef, undef, undef, undef, undef, undef, .bool true, .bool false, .slice A n c, .slice A5 n c5, v30, .slice C m dc, v32, v33, .slice A8 (m + 1) c8, .agg #[.int .i64 ops, .int .i64 room, .slice K kn kc], .agg #[.int .i64 ops, .int .i64 room, .slice A6 kn c6], undef, undef, undef, undef, undef, undef, undef, undef, undef, undef, undef, undef, undef, undef, undef, undef, undef, undef, undef, undef, undef, undef, undef, undef, undef, undef, undef, undef, undef, undef, undef, undef, undef, undef, undef, undef, undef, undef, undef, undef, undef, undef, undef, undef, undef, undef, undef, undef, undef, undef, undef, undef, undef, undef, undef, undef, undef, undef, undef, undef, undef, undef, undef, undef, undef, undef, undef, undef, undef, undef, undef, undef, undef, undef, undef, undef, undef, undef, undef, undef, undef, undef, undef, undef, undef, undef, undef, undef, undef, undef, undef, undef, undef, undef, undef, undef, undef, undef, undef, undef, undef, undef, undef, undef, undef, undef, undef, undef, undef, undef, undef, undef, undef, undef, undef, undef, undef, undef, undef, undef, undef, undef, undef, undef, undef, undef, undef, undef, undef, undef, undef, undef, undef, undef, undef, undef, undef, undef, undef, undef, undef, undef, undef, undef, undef, undef, undef, undef, undef, undef, undef, undef, undef, undef, undef, undef, undef, undef, undef, undef, undef, undef, undef, undef, undef, undef, undef, undef, undef, undef, undef, undef, undef], []⟩ ∧ G3 w1 l L n m ops room keep kn S E A5 A8 A6 c5 c8 c6 gb l5 W) => ?_) ?_
  · obtain ⟨rfl, S, E, gb, A5, A8, A6, c5, c8, c6, l5, v30, v32, v33, rfl, hG⟩ := hq
    have HG := Lib.hid hG
    clear hG
    have E3 : Hid (FsIn W A5 l5 n c5) := Lib.hid (copied_in H.out.1 HG.out.rd HG.out.cop.data HG.out.cop.row)
    have DW : Hid (Below w.heap.size w W) := Lib.hid (D1.out.trans (HG.out.bel.mono D1.out.size))
    have LW : Hid (w.heap.size ≤ w1.heap.size ∧ w1.heap.size ≤ W.heap.size) := Lib.hid ⟨D1.out.size, HG.out.bel.size⟩
    obtain ⟨y0, y1, y2⟩ := HG.out.box.cell
    have HLn : Hid ((L ++ [7]).length = m + 1) := Lib.hid (by rw [List.length_append, HML.out]; rfl)
    have HBY : Hid (∀ X : World, Row X w1.heap.size A8 c8 (L ++ [7]) → Bys X A8 L) := Lib.hid (fun X hr => by
      have := (slice_high hr.lies (m + 1) m c8 HLn.out (by omega) (by have := (own_cap hr).1; have := HLn.out; omega)).2
      rwa [List.take_left' HML.out] at this)
    have si := (slice_high HG.out.byr.lies (m + 1) m c8 HLn.out (by omega) (by have := (own_cap HG.out.byr).1; have := HLn.out; omega)).1
    by_cases h0 : r = 0
    · subst h0
      have HOK := Lib.hid (ofE_zero HR.out)
      go_upto_region 6 with (first
        | (go_at_call 10; refine (HOF.out _ l5 A5 c5 A6 c6 E3.out HG.out.rd HG.out.kr.lies).mono ?_; rintro e w4 ⟨hb4, h4⟩; obtain ⟨-, g, p, rfl, h41, h42⟩ := h4.resolve_left (fun h => h.1 rfl); have E4 := Lib.hid (And.intro h41 (And.intro h42 hb4)); have D4 : Hid (Below w.heap.size w w4) := Lib.hid (DW.out.trans (hb4.mono DW.out.size)); obtain ⟨z0, z1, z2⟩ := HKS.out w4 (HG.out.bel.trans (hb4.mono HG.out.bel.size)); clear hb4 h4 h41 h42)
        | (go_at_call 13; refine (HRO.out _ D4.out).mono ?_; rintro en w5 ⟨hb5, h5⟩; obtain ⟨-, eg, d, rfl, h51, h52⟩ := h5.resolve_left (fun h => h.1 rfl); have E5 := Lib.hid (And.intro hb5 (And.intro h51 h52)); clear hb5 h5 h51 h52))
      have D5 : Hid (Below w.heap.size w w5) := Lib.hid (D4.out.trans (E5.out.1.mono D4.out.size))
      have HT5 : Hid (Twin w5 W.heap.size w4.heap.size w.heap.size g eg p d keep n (sumM (l.map Fl.rd))) := Lib.hid (by
        obtain ⟨k1, k2, -⟩ := E4.out
        obtain ⟨k3, k4, k5⟩ := E5.out
        have hfs : p.vm.fs = (insAll l).map Fl.rd := by rw [k2]; rfl
        refine ⟨k1.kept k3, k4, Nat.le_trans LW.out.1 LW.out.2, D4.out.size, fun x hx hd => ?_, ⟨?_, ?_, ?_, ?_, ?_⟩, ?_, ?_, ?_, H.out.2.ki, ?_, ?_, ?_, ?_, ?_, ?_⟩
        · have h1 := (k1.owned x hx).2
          have h2 := (k4.owned x hd).1
          omega
        · rw [k2, k5]; rfl
        · rw [k2, k5]; rfl
        · rw [k2]; rfl
        · rw [k2, k5]; rfl
        · rw [k2, k5]
          show (ops < 0 ∧ ops = ops) ∨ (0 ≤ ops ∧ 0 ≤ ops ∧ ops = ops - 0)
          omega
        · rw [show d.kn = d.md.kn from rfl, k5]; exact H.out.2.len
        · rw [show d.K = d.md.K from rfl, k5]; exact Lies.kept H.out.2.ints D5.out
        · rw [show d.K = d.md.K from rfl, k5]; exact fun hk => ints_lt H.out.2.ints hk
        · have := H.out.2.len; have := H.out.2.few; omega
        · rw [hfs, List.length_map, insAll_len, H.out.1.len]; exact Nat.le_refl _
        · rw [hfs, sum_insAll']; exact Nat.le_refl _
        · intro x hx
          rw [hfs] at hx
          obtain ⟨q, hq, rfl⟩ := List.mem_map.1 hx
          exact okName_size' (HOK.out.1 q (insAll_mem l q hq))
        · rw [hfs]; exact insAll_sane HOK.out.2.2
        · rw [k5]; exact Int.natCast_nonneg n)
      have B45 : Hid (Below W.heap.size W w5) := Lib.hid (E4.out.2.2.trans (E5.out.1.mono E4.out.2.2.size))
      obtain ⟨q, hq⟩ : ∃ q, p.vm.append ⟨#[111, 119, 110]⟩ L = q := ⟨_, rfl⟩
      obtain ⟨q', hq'⟩ : ∃ q, d.md.append ⟨#[111, 119, 110]⟩ L = q := ⟨_, rfl⟩
      obtain ⟨m1, r1⟩ := q
      obtain ⟨m2, r2⟩ := q'
      have HA := HT5.out.alike.append ⟨#[111, 119, 110]⟩ L
      have HL : Le7 p.vm.fs (p.vm.append ⟨#[111, 119, 110]⟩ L).1.fs m 1048576 := HML.out ▸ le_append p.vm ⟨#[111, 119, 110]⟩ L _ (by decide)
      have HKD : Kd d.md (d.md.append ⟨#[111, 119, 110]⟩ L).1 := kd_append d.md _ _
      rw [hq] at HL
      rw [hq'] at HKD
      rw [hq, hq'] at HA
      obtain ⟨hr, HA⟩ := HA
      simp only at hr
      subst hr
      have HF := Lib.hid (And.intro HA (And.intro HKD HL))
      have HXW : Hid (¬ p.own g w.heap.size ∧ ¬ d.own eg w.heap.size ∧ w.heap.size < w5.heap.size) := Lib.hid ⟨fun ho => by have := (HT5.out.ps.owned _ ho).1; have := HS0.out; have := B1.out.size; have := LW.out.2; omega, fun ho => by have := (HT5.out.rs.owned _ ho).1; have := E4.out.2.2.size; have := HS0.out; have := B1.out.size; have := LW.out.2; omega, by have := B45.out.size; have := HS0.out; have := B1.out.size; have := LW.out.2; omega⟩
      have R5 : Hid (Row w5 w1.heap.size A8 c8 (L ++ [7])) := Lib.hid (HG.out.byr.kept B45.out (Nat.le_refl _))
      have HCP8 : Hid (Calls Try.prog 19 #[.pointer (some ⟨g, 0, none⟩), .string ⟨#[111, 119, 110]⟩, .slice A8 m c8] w5 fun en w6 => en = .returned (.int .i64 r1) ∧ PD w5 W.heap.size w4.heap.size w.heap.size g eg w.heap.size d m1 w6 ∧ Below W.heap.size w5 w6) := Lib.hid
        ((append_vm W.heap.size g p p.vm m1 r1 ⟨#[111, 119, 110]⟩ A8 L m c8 w5 HT5.out.ps rfl (by decide) HML.out YL.out (HBY.out _ R5.out) (fun ad ha => ⟨fun ho => by have := (own_in HG.out.byr ad ha).2; have := (HT5.out.ps.owned _ ho).1; omega, (own_in R5.out ad ha).2⟩) (HT5.out.fits (by have := HSUM.out; omega) (by have := HSUM.out; omega) m (by have := HSUM.out; omega)) (by have := HT5.out.sum; have := HSUM.out; omega) (by have := HMM.out; omega) hq).mono (fun en w' h => ⟨h.1, prog_does HT5.out (Below.refl _ _) HXW.out.2.2 HXW.out.1 h.2, Rest.below HT5.out.ps h.2⟩))
      have HCR8 : Hid (∀ w6, PD w5 W.heap.size w4.heap.size w.heap.size g eg w.heap.size d m1 w6 → Calls Try.prog 26 #[.pointer (some ⟨eg, 0, none⟩), .string ⟨#[111, 119, 110]⟩, .slice C m dc] w6 fun en w' => en = .returned (.int .i64 r1) ∧ RD w5 W.heap.size w4.heap.size w.heap.size g eg w.heap.size m1 m2 w' ∧ Below w4.heap.size w6 w') := Lib.hid (fun w6 hpd => by
        obtain ⟨p9, k1, -, hp, -, k5, -⟩ := id hpd
        have hfs : d.md.fs = p.vm.fs := HT5.out.alike.fs.symm
        have hmem : ∀ q ∈ d.l, q.d.l.length ≤ sumM (l.map Fl.rd) := fun q hq => by
          have h1 : q.rd ∈ p.vm.fs := by rw [← hfs]; exact List.mem_map_of_mem hq
          have := long_le h1
          have := HT5.out.sum
          have e : q.rd.2.1.length = q.d.l.length := rfl
          omega
        have hlen : d.l.length ≤ n := by
          have : d.md.fs.length ≤ n := by rw [hfs]; exact HT5.out.few
          rwa [show d.md.fs = d.l.map Fl.rd from rfl, List.length_map] at this
        have hdn : d.done < 1099511627776 := by have : d.md.done ≤ n := HT5.out.done; have : d.md.done = d.done := rfl; have := HSUM.out; omega
        refine (refAppend_wide w4.heap.size eg d ⟨#[111, 119, 110]⟩ C L m dc w6 hp (by decide) hdn (HCB.out _ (D5.out.trans k5)) (fun hn ad ha => by have := bys_lt (HCB.out w (Below.refl _ _)).bys hn ad ha; have := D4.out.size; omega) (fun q hq => by have := hmem q hq; have := HSUM.out; omega) (by have := HSUM.out; omega) (by have := HSUM.out; omega)).mono ?_
        rintro en w' ⟨h1, h2⟩
        rw [hq'] at h1 h2
        refine ⟨h1, ref_does hpd HT5.out.lowB HT5.out.lowC (Below.refl _ _) HXW.out.2.1 h2, ?_⟩
        obtain ⟨d9, -, -, g3⟩ := h2
        exact g3.below (by have := hp.low; have := hp.at_.lt; omega) (fun k hk => (hp.owned k hk).1))
      clear HA HKD HL hq hq' HOF HRO HKS HK HCP HPL
      go_upto_region 10 with (first
        | (go_at_call 19; refine HCP8.out.mono ?_; rintro en w6 ⟨rfl, h61, h62⟩; have E6 := Lib.hid (And.intro h61 h62); clear h61 h62)
        | (go_at_call 26; refine (HCR8.out _ E6.out.1).mono ?_; rintro en w7 ⟨rfl, h71, h72⟩; have E7 := Lib.hid (And.intro h71 h72); clear h71 h72))
      obtain ⟨p1, d1, hT7⟩ := twin_next HT5.out E7.out.1 HF.out.1 HF.out.2.1 HF.out.2.2
      have HT7 := Lib.hid hT7
      clear hT7 HF HCP8 HCR8 si y0 y1 y2 z0 z1 z2
      have B7 : Hid (Below W.heap.size W w7) := Lib.hid ((B45.out.trans E6.out.2).trans (E7.out.2.mono E4.out.2.2.size))
      have M7 : Hid (Mf S E w7 A5 c5 l5 w7) := Lib.hid (HG.out.cop.kept B7.out).mf
      have HN5 : Hid (l5.length = n) := Lib.hid (by have := congrArg List.length HG.out.rd; rwa [List.length_map, List.length_map, H.out.1.len] at this)
      have hn9 : Hid ((n : Int) ≤ 9223372036854775807) := Lib.hid (by have := HSUM.out; omega)
      have hl9 : Hid (∀ q ∈ l5, (q.d.l.length : Int) ≤ 9223372036854775807) := Lib.hid (fun q hq => (own_cap (HG.out.cop.data q hq)) |> fun h => by omega)
      have D7 : Hid (Below w.heap.size w w7) := Lib.hid (DW.out.trans (B7.out.mono (Nat.le_trans LW.out.1 LW.out.2)))
      go_wp2_with fail
      go_loopw [65] (fun t65 wr => ∃ j : Nat, j ≤ n ∧ t65 = .int .i64 j ∧ Hid (Mf S E w7 A5 c5 l5 wr)) (fun t65 _ => n - (intOf t65).toNat)
      case atStart => exact ⟨0, by omega, rfl, M7⟩
      case round =>
        obtain ⟨j, hj, rfl, hmj⟩ := hrel
        by_cases hlt : j < n
        · have hs := List.getElem?_eq_getElem (l := l5) (i := j) (by have := HN5.out; omega)
          generalize l5[j]'(by have := HN5.out; omega) = s at hs
          obtain ⟨ad, rfl, -, a1, -⟩ := lies_file hmj.out.row.lies hs
          have HAT := Lib.hid (fun (X : World) (hm : Mf S E w7 (some ad) c5 l5 X) => (lies_file_at hm.row.lies hs).2.1)
          have HQ9 := hl9.out s (List.mem_of_getElem? hs)
          have HMEM := Lib.hid (List.mem_of_getElem? hs)
          obtain ⟨ss, ⟨sa, sc, sl⟩, sy⟩ := s
          simp only at a1 HQ9
          obtain ⟨z, hz⟩ : ∃ z, sl.length = z := ⟨_, rfl⟩
          have HZL := Lib.hid hz
          rw [hz] at a1 HQ9
          have HQ10 := Lib.hid HQ9
          have j0 : (j : Int) < n := by omega
          clear hs hz HQ9
          have hn10 := hn9.out
          go_wp2_with fail
          go_loopw [74] (fun t74 wr => ∃ i : Nat, i ≤ z ∧ t74 = .int .i64 i ∧ Hid (Mf S E w7 (some ad) c5 l5 wr)) (fun t74 _ => z - (intOf t74).toNat)
          case atStart => exact ⟨0, by omega, rfl, hmj⟩
          case round =>
            obtain ⟨i, hi, rfl, hmi⟩ := hrel
            by_cases hlt2 : i < z
            · have a1 := HAT.out _ hmi.out
              simp only [HZL.out] at a1
              obtain ⟨gx, yv, hsa, e0, f0, hset⟩ := hmi.out.mark HMEM.out (k := i) (by rw [HZL.out]; exact hlt2)
              simp only at hsa
              subst hsa
              have HSET := Lib.hid hset
              clear hset
              have i0 : (i : Int) < z := by omega
              go_upto_region 16 with fail
              go_region
              have hq9 := HQ10.out
              go_wp2_with fail
              go_roundw
              case rel => exact ⟨i + 1, by omega, by go_num, Lib.hid (HSET.out _).drew⟩
              case measure => simp [intOf]; omega
            · obtain rfl : z = i := by omega
              go_wp2_with fail
              go_roundw
              case rel => exact ⟨j + 1, by omega, by go_num, hmi⟩
              case measure => simp [intOf]; omega
        · obtain rfl : n = j := by omega
          clear hlt
          generalize wr = u8 at hmj
          have KP8 := Lib.hid hmj.out.kp
          clear hmj M7
          have X8 : Hid (BoxP u8 gb ops room A6 kn c6) := Lib.hid ((HG.out.box.of (B7.out.block _ HG.out.box.lt)).of (KP8.out.block _ HG.out.boxo))
          have I8 : Hid (Irow u8 w1.heap.size A6 c6 keep) := Lib.hid (own_block (own_kept HG.out.kr B7.out (Nat.le_refl _)) (fun ad ha => KP8.out.block _ (HG.out.ko ad ha)))
          have R8 : Hid (Row u8 w1.heap.size A8 c8 (L ++ [7])) := Lib.hid (own_block (HG.out.byr.kept B7.out (Nat.le_refl _)) (fun ad ha => KP8.out.block _ (HG.out.byo ad ha)))
          have HBX : Hid (∀ X, Kp (fun x => ∀ ad, A6 = some ad → x ≠ ad.block) u8 X → BoxP X gb ops room A6 kn c6) := Lib.hid (fun X hk => X8.out.of (hk.block _ (fun ad ha e => Irow.not_box I8.out X8.out ad ha e.symm)))
          have hk9 : Hid ((kn : Int) ≤ 9223372036854775807) := Lib.hid (by have := H.out.2.few; omega)
          obtain ⟨-, -, x2⟩ := X8.out.cell
          go_wp2_with fail
          go_loopw [98] (fun t98 wr => ∃ i : Nat, i ≤ kn ∧ t98 = .int .i64 i ∧ Hid ((∃ Y : List Int, Y.length = kn ∧ Irow wr w1.heap.size A6 c6 Y) ∧ Kp (fun x => ∀ ad, A6 = some ad → x ≠ ad.block) u8 wr)) (fun t98 _ => kn - (intOf t98).toNat)
          case atStart => exact ⟨0, by omega, rfl, Lib.hid ⟨⟨keep, H.out.2.len, I8.out⟩, Kp.refl _ _⟩⟩
          case round =>
            obtain ⟨i, hi, rfl, hmi⟩ := hrel
            by_cases hlt2 : i < kn
            · obtain ⟨⟨Y, hY, hI⟩, hK⟩ := hmi.out
              obtain ⟨-, -, x2⟩ := (HBX.out _ hK).cell
              obtain ⟨gx, e, f0, ⟨v, c0⟩, hset⟩ := irow_at hI (k := i) (by omega)
              have HSET := Lib.hid hset
              have HYL := Lib.hid hY
              have HKK := Lib.hid hK
              clear hset hY hI hK hmi
              subst e
              have i0 : (i : Int) < kn := by omega
              have hk10 := hk9.out
              go_wp2_with fail
              go_roundw
              case rel => exact ⟨i + 1, by omega, by go_num, Lib.hid ⟨⟨_, by rw [List.length_set]; exact HYL.out, HSET.out _⟩, HKK.out.set gx i _ (fun hn => hn _ rfl rfl)⟩⟩
              case measure => simp [intOf]; omega
            · obtain rfl : kn = i := by omega
              clear hlt2
              generalize wr = u9 at hmi
              have KP9 := Lib.hid hmi.out.2
              clear hmi
              have R9 : Hid (Row u9 w1.heap.size A8 c8 (L ++ [7])) := Lib.hid (own_block R8.out (fun ad ha => KP9.out.block _ (fun ad' ha' e => Irow.not_row I8.out R8.out ad' ad ha' ha e.symm)))
              obtain ⟨z, hz⟩ : ∃ z, m + 1 = z := ⟨_, rfl⟩
              have HZ1 := Lib.hid hz
              simp only [hz]
              have hz9 : Hid ((z : Int) ≤ 9223372036854775807) := Lib.hid (by have := HMM.out; omega)
              clear hz
              go_wp2_with fail
              go_loopw [108] (fun t108 wr => ∃ k : Nat, k ≤ z ∧ t108 = .int .i64 k ∧ Hid ((∃ Y : List Int, Y.length = z ∧ Row wr w1.heap.size A8 c8 Y ∧ Y[m]? = some (if m < k then 8 else 7)) ∧ Kp (fun x => ∀ ad, A8 = some ad → x ≠ ad.block) u9 wr)) (fun t108 _ => z - (intOf t108).toNat)
              case atStart => exact ⟨0, by omega, rfl, Lib.hid ⟨⟨L ++ [7], by rw [HLn.out, HZ1.out], R9.out, by rw [if_neg (by omega), List.getElem?_append_right (by have := HML.out; omega), HML.out]; simp⟩, Kp.refl _ _⟩⟩
              case round =>
                obtain ⟨k, hk, rfl, hmk⟩ := hrel
                by_cases hlt3 : k < z
                · obtain ⟨⟨Y, hY, hR, hm7⟩, hK⟩ := hmk.out
                  obtain ⟨gx, v, e, hv, v0, v1, v2⟩ := row_at hR (k := k) (by omega)
                  have HSET := Lib.hid v2
                  have HYL := Lib.hid hY
                  have HKK := Lib.hid hK
                  have HM7 := Lib.hid hm7
                  clear v2 hY hR hm7 hK hmk
                  subst e
                  have k0 : (k : Int) < z := by omega
                  have hz10 := hz9.out
                  by_cases hkm : k = m
                  · obtain rfl : v = 7 := by
                      have := HM7.out
                      rw [← hkm, if_neg (by omega), hv] at this
                      exact Option.some.inj this
                    have HKM := Lib.hid hkm
                    clear hv hkm
                    go_wp2_with fail
                    go_roundw
                    case rel => exact ⟨k + 1, by omega, by go_num, Lib.hid ⟨⟨_, by rw [List.length_set]; exact HYL.out, HSET.out 8, by rw [← HKM.out, if_pos (by omega), List.getElem?_set_self (by have := HYL.out; omega)]⟩, HKK.out.set gx k _ (fun hn => hn _ rfl rfl)⟩⟩
                    case measure => simp [intOf]; omega
                  · clear hv
                    go_wp2_with fail
                    go_roundw
                    case rel => exact ⟨k + 1, by omega, by go_num, Lib.hid ⟨⟨_, by rw [List.length_set]; exact HYL.out, HSET.out _, by rw [List.getElem?_set_ne hkm, HM7.out]; congr 1; by_cases h : m < k; (rw [if_pos h, if_pos (by omega)]); (rw [if_neg h, if_neg (by omega)])⟩, HKK.out.set gx k _ (fun hn => hn _ rfl rfl)⟩⟩
                    case measure => simp [intOf]; omega
                · obtain rfl : z = k := by omega
                  clear hlt3
                  generalize wr = u10 at hmk
                  obtain ⟨⟨Y, hY, hR, hm7⟩, hK⟩ := hmk.out
                  rw [if_pos (by have := HZ1.out; omega)] at hm7
                  have KP10 := Lib.hid hK
                  have R10 := Lib.hid (And.intro hR hm7)
                  clear hmk hY hR hm7 hK
                  have KPA : Hid (Kp (fun x => x < w1.heap.size ∨ W.heap.size ≤ x) w7 u10) := Lib.hid (((KP8.out.mono (fun x hx => by have := HG.out.cop.low; have := HG.out.cop.up; omega)).trans (KP9.out.mono (fun x hx ad ha e => by have := own_in HG.out.kr ad ha; omega))).trans (KP10.out.mono (fun x hx ad ha e => by have := own_in HG.out.byr ad ha; omega)))
                  have HTA : Hid (Twin u10 W.heap.size w4.heap.size w.heap.size g eg p1 d1 keep (n + 1) (sumM (l.map Fl.rd) + m)) := Lib.hid (HT7.out.kp KPA.out (fun x hx => .inl (by have := LW.out.1; omega)) (fun x hx => .inr hx) (fun x hx => .inr (by have := E4.out.2.2.size; omega)))
                  have DA : Hid (Below w.heap.size w u10) := Lib.hid (D7.out.trans (KPA.out.below (fun x hx => .inl (by have := LW.out.1; omega))))
                  have FTA : Hid (Fits p1.vm 0) := Lib.hid (HTA.out.fits (by have := HSUM.out; omega) (by have := HSUM.out; omega) 0 (by omega))
                  clear KPA KP8 KP9 KP10 HT7 HT5 E4 E5 E6 E7 HBX X8 I8 R8 R9 x2
                  obtain ⟨nn, hnn⟩ : ∃ nn, p1.vm.fs.length = nn := ⟨_, rfl⟩
                  have HNN := Lib.hid hnn
                  have HDM := Lib.hid (dump_n HTA.out.ps rfl FTA.out hnn)
                  clear hnn
                  go_upto_region 30 with (go_at_call 16; refine HDM.out.mono ?_; rintro en w11 ⟨l11, A11, c11, rfl, h111, h112, h113⟩; have E11 := Lib.hid (And.intro h111 (And.intro h112 h113)); clear h111 h112 h113 HDM)
                  have HN11 : Hid (l11.length = nn) := Lib.hid (by have := congrArg List.length E11.out.1; rw [List.length_map, HNN.out] at this; exact this)
                  have M11 : Hid (Mf u10.heap.size w11.heap.size w11 A11 c11 l11 w11) := Lib.hid ⟨E11.out.2.1.row, fun q hq => (E11.out.2.1.data q hq).spot, Kp.refl _ _⟩
                  have hy9 : Hid ((nn : Int) ≤ 9223372036854775807) := Lib.hid (by have := own_cap E11.out.2.1.row; have := HN11.out; omega)
                  have hd9 : Hid (∀ q ∈ l11, (q.d.l.length : Int) ≤ 9223372036854775807) := Lib.hid (fun q hq => (own_cap (E11.out.2.1.data q hq)) |> fun h => by omega)
                  go_wp2_with fail
                  go_loopw [124] (fun t124 wr => ∃ j : Nat, j ≤ nn ∧ t124 = .int .i64 j ∧ Hid (Mf u10.heap.size w11.heap.size w11 A11 c11 l11 wr)) (fun t124 _ => nn - (intOf t124).toNat)
                  case atStart => exact ⟨0, by omega, rfl, M11⟩
                  case round =>
                    obtain ⟨j, hj, rfl, hmj⟩ := hrel
                    by_cases hlt : j < nn
                    · have hs := List.getElem?_eq_getElem (l := l11) (i := j) (by have := HN11.out; omega)
                      generalize l11[j]'(by have := HN11.out; omega) = s at hs
                      obtain ⟨ad, rfl, -, a1, -⟩ := lies_file hmj.out.row.lies hs
                      have HAT := Lib.hid (fun (X : World) (hm : Mf u10.heap.size w11.heap.size w11 (some ad) c11 l11 X) => (lies_file_at hm.row.lies hs).2.1)
                      have HQ9 := hd9.out s (List.mem_of_getElem? hs)
                      have HMEM := Lib.hid (List.mem_of_getElem? hs)
                      obtain ⟨ss, ⟨sa, sc, sl⟩, sy⟩ := s
                      simp only at a1 HQ9
                      obtain ⟨z, hz⟩ : ∃ z, sl.length = z := ⟨_, rfl⟩
                      have HZL := Lib.hid hz
                      rw [hz] at a1 HQ9
                      have HQ10 := Lib.hid HQ9
                      have j0 : (j : Int) < nn := by omega
                      clear hs hz HQ9
                      have hn10 := hy9.out
                      go_wp2_with fail
                      go_loopw [133] (fun t133 wr => ∃ i : Nat, i ≤ z ∧ t133 = .int .i64 i ∧ Hid (Mf u10.heap.size w11.heap.size w11 (some ad) c11 l11 wr)) (fun t133 _ => z - (intOf t133).toNat)
                      case atStart => exact ⟨0, by omega, rfl, hmj⟩
                      case round =>
                        obtain ⟨i, hi, rfl, hmi⟩ := hrel
                        by_cases hlt2 : i < z
                        · have a1 := HAT.out _ hmi.out
                          simp only [HZL.out] at a1
                          obtain ⟨gx, yv, hsa, e0, f0, hset⟩ := hmi.out.mark HMEM.out (k := i) (by rw [HZL.out]; exact hlt2)
                          simp only at hsa
                          subst hsa
                          have HSET := Lib.hid hset
                          clear hset
                          have i0 : (i : Int) < z := by omega
                          go_upto_region 36 with fail
                          go_region
                          have hq9 := HQ10.out
                          go_wp2_with fail
                          go_roundw
                          case rel => exact ⟨i + 1, by omega, by go_num, Lib.hid (HSET.out _).drew⟩
                          case measure => simp [intOf]; omega
                        · obtain rfl : z = i := by omega
                          go_wp2_with fail
                          go_roundw
                          case rel => exact ⟨j + 1, by omega, by go_num, hmi⟩
                          case measure => simp [intOf]; omega
                    · obtain rfl : nn = j := by omega
                      clear hlt
                      generalize wr = u12 at hmj
                      have B12 : Hid (Below u10.heap.size u10 u12) := Lib.hid (E11.out.2.2.trans (hmj.out.kp.below (fun x hx => .inl hx)))
                      clear hmj M11 E11
                      obtain ⟨rr, hrr⟩ : ∃ rr, p1.vm.read ⟨#[111, 119, 110]⟩ = rr := ⟨_, rfl⟩
                      have HRD := Lib.hid (read_vm W.heap.size g p1 p1.vm ⟨#[111, 119, 110]⟩ u12 rr (HTA.out.below B12.out).ps rfl (by decide) FTA.out hrr)
                      clear hrr
                      obtain ⟨ZL, ze⟩ := rr
                      obtain ⟨zz, hz⟩ : ∃ z, ZL.length = z := ⟨_, rfl⟩
                      have HZL := Lib.hid hz
                      clear hz
                      go_upto_region 40 with (go_at_call 24; refine HRD.out.mono ?_; rintro en w13 ⟨A13, c13, rfl, h131, h132⟩; rw [HZL.out]; have E13 := Lib.hid (And.intro h131 h132); clear h131 h132 HRD)
                      have hz9 : Hid ((zz : Int) ≤ 9223372036854775807) := Lib.hid (by have := own_cap E13.out.1; have := HZL.out; omega)
                      go_wp2_with fail
                      go_loopw [161] (fun t161 wr => ∃ k : Nat, k ≤ zz ∧ t161 = .int .i64 k ∧ Hid ((∃ Y : List Int, Y.length = zz ∧ Row wr u12.heap.size A13 c13 Y) ∧ Below u12.heap.size u12 wr)) (fun t161 _ => zz - (intOf t161).toNat)
                      case atStart => exact ⟨0, by omega, rfl, Lib.hid ⟨⟨ZL, HZL.out, E13.out.1⟩, E13.out.2⟩⟩
                      case round =>
                        obtain ⟨k, hk, rfl, hmk⟩ := hrel
                        by_cases hlt : k < zz
                        · obtain ⟨⟨Y, hY, hR⟩, hK⟩ := hmk.out
                          obtain ⟨gx, v, e, hv, v0, v1, v2⟩ := row_at hR (k := k) (by omega)
                          have HSET := Lib.hid v2
                          have HYL := Lib.hid hY
                          have HKK := Lib.hid (And.intro hK (own_in hR))
                          clear v2 hY hR hK hmk hv
                          subst e
                          have k0 : (k : Int) < zz := by omega
                          have hz10 := hz9.out
                          go_wp2_with fail
                          go_roundw
                          case rel => exact ⟨k + 1, by omega, by go_num, Lib.hid ⟨⟨_, by rw [List.length_set]; exact HYL.out, HSET.out _⟩, HKK.out.1.setCell (p := ⟨gx, k, none⟩) (HKK.out.2 _ rfl).1 _⟩⟩
                          case measure => simp [intOf]; omega
                        · obtain rfl : zz = k := by omega
                          clear hlt
                          generalize wr = u14 at hmk
                          have B14 : Hid (Below u10.heap.size u10 u14) := Lib.hid (B12.out.trans (hmk.out.2.mono B12.out.size))
                          clear hmk E13 B12
                          have HT := Lib.hid (HTA.out.below B14.out)
                          have D14 : Hid (Below w.heap.size w u14) := Lib.hid (DA.out.trans (B14.out.mono DA.out.size))
                          obtain ⟨bd, rfl, -⟩ := row_place R10.out.1 R10.out.2
                          have HB8 : Hid (∀ X : World, Below u14.heap.size u14 X → X.cell? (bd.add m) = some (.int .u8 8)) := Lib.hid (fun X hb => by
                            obtain ⟨bd', e, h⟩ := row_place (R10.out.1.kept (B14.out.trans (hb.mono B14.out.size)) (Nat.le_refl _)) R10.out.2
                            injection e with e
                            subst e
                            exact h)
                          have HD : Hid (d1.l.length = nn) := Lib.hid (by rw [← HNN.out, HT.out.alike.fs]; exact (List.length_map ..).symm)
                          have HC : Hid (∀ X, Below u14.heap.size u14 X → X.cell? (bd.add m) = some (.int .u8 8) ∧ X.cell? ⟨eg, 0, none⟩ = some (.slice d1.A nn d1.c)) := Lib.hid (fun X hW => ⟨HB8.out X hW, by have c0 := (HT.out.rs.kept hW).at_.cell.1; rw [HD.out] at c0; exact c0⟩)
                          have hq1 : (m : Int) < z := by have := HZ1.out; omega
                          have hr1 : (r1 != r1) = false := by simp
                          have hr2 : (r1 == r1) = true := by simp
                          go_upto_region 45 with fail
                          go_region_held3 (fun X => X.cell? (bd.add m) = some (.int .u8 8) ∧ X.cell? ⟨eg, 0, none⟩ = some (.slice d1.A nn d1.c)) (first | exact HC.out _ (by repeat (first | exact Below.refl _ _ | exact E20.out.1 | exact E21.out | refine Below.drew ?_)) | go_keep) (first
                            | (go_at_call 16; refine (dump_rd HT.out.ps rfl HT.out.rs HT.out.alike.fs.symm FTA.out HNN.out (by repeat (first | exact Below.refl _ _ | refine Below.drew ?_))).mono ?_; rintro en w20 ⟨A20, c20, rfl, h1, h2⟩; have E20 := Lib.hid (And.intro h1 h2); clear h1 h2)
                            | (go_at_call 15; refine (E20.out.2 _ (by repeat (first | exact Below.refl _ _ | refine Below.drew ?_))).mono ?_; rintro en w21 ⟨rfl, h3⟩; have E21 : Hid (Below u14.heap.size u14 w21) := Lib.hid (E20.out.1.trans (((by repeat (first | exact Below.refl _ _ | refine Below.drew ?_) : Below w20.heap.size w20 _).trans h3).mono E20.out.1.size)); clear h3))
                          all_goals
                            have HTB := Lib.hid (HT.out.below E21.out)
                            have D21 : Hid (Below w.heap.size w w21) := Lib.hid (D14.out.trans (E21.out.mono D14.out.size))
                            have HLE : Hid (Le7 p1.vm.fs (revL keep 0 p1.vm.fs) 0 1048576) := Lib.hid (le_revL keep p1.vm.fs 0 0 1048576 HTB.out.sane)
                            have HRV : Hid (Calls Try.prog 27 #[.pointer (some ⟨eg, 0, none⟩), .agg #[.int .i64 (-1), .int .i64 0, .slice none 0 0]] w21 fun en w' => en = .returned (.tuple #[]) ∧ ∃ d2, PSt w' W.heap.size g p1 ∧ RefSt w' w4.heap.size eg d2 ∧ d2.md.fs = revL keep 0 p1.vm.fs ∧ (∀ y, p1.own g y → ¬ d2.own eg y) ∧ Below w.heap.size w21 w') := Lib.hid (by
                              have ht := HTB.out
                              refine (refRevive_wide w4.heap.size eg d1 keep (-1) 0 none 0 0 w21 ht.rs (fun q hq => ?_) ht.kints ht.kl (fun hn ad ha => by have := ht.kB hn ad ha; have := ht.lowC; omega) ht.ki ht.kfew).mono ?_
                              · have h1 : q.rd ∈ p1.vm.fs := by rw [ht.alike.fs]; exact List.mem_map_of_mem hq
                                exact ht.sane _ h1
                              · rintro en w' ⟨h1, d2, g1, g2, g3⟩
                                refine ⟨h1, d2, ht.ps.does g3 (fun k hk ho => ht.off k ho hk), g1, by rw [g2]; show revL keep 0 d1.md.fs = _; rw [← ht.alike.fs], fun y hy hd' => ?_, (g3.below (by have := ht.rs.low; have := ht.rs.at_.lt; omega) (fun k hk => (ht.rs.owned k hk).1)).mono ht.lowC⟩
                                rcases g3.grows y hd' with h | h
                                · exact ht.off y hy h
                                · have := (ht.ps.owned y hy).2
                                  omega)
                            have HPV : Hid (∀ X d2, PSt X W.heap.size g p1 → RefSt X w4.heap.size eg d2 → (∀ y, p1.own g y → ¬ d2.own eg y) → Calls Try.prog 17 #[.pointer (some ⟨g, 0, none⟩), .agg #[.int .i64 (-1), .int .i64 0, .slice none 0 0]] X fun en w' => en = .returned (.int .i64 0) ∧ ∃ p2, PSt w' W.heap.size g p2 ∧ p2.vm.fs = revL keep 0 p1.vm.fs ∧ RefSt w' w4.heap.size eg d2 ∧ Below w.heap.size X w' ∧ w'.heap[eg]? = X.heap[eg]?) := Lib.hid (fun X d2 k1 k2 k3 => by
                              have ht := HTB.out
                              refine (revive_vm W.heap.size g p1 p1.vm _ (-1) 0 none [] 0 0 X k1 rfl ht.sane FTA.out rfl (.inl rfl) (fun ad ha => by cases ha) (by decide) (fun x hx => (List.not_mem_nil hx).elim) (by decide) (by decide) rfl).mono ?_
                              rintro en w' ⟨h1, h2⟩
                              have hbl := Rest.below k1 h2
                              obtain ⟨p2, g1, g2, g3⟩ := h2
                              obtain ⟨e3, -, -⟩ := does_not g3 (x := eg) k2.at_.lt (fun ho => k3 eg ho (.inl rfl))
                              exact ⟨h1, p2, g1, by rw [g2]; show revL p1.vm.keep 0 p1.vm.fs = _; rw [ht.alike.keep], k2.does g3 k3, hbl.mono ht.lowB, e3⟩)
                            have hrr : ((0 : Int) == 0) = true := by simp
                            clear hr1 hr2
                            go_upto_region 48 with (go_at_call 27; refine HRV.out.mono ?_; rintro en w22 ⟨rfl, d2, h2⟩; have E22 := Lib.hid h2; clear h2)
                            obtain ⟨n2, hn2⟩ : ∃ n2, (revL keep 0 p1.vm.fs).length = n2 := ⟨_, rfl⟩
                            have HN2 := Lib.hid hn2
                            clear hn2
                            have HD2 : Hid (d2.l.length = n2) := Lib.hid (by rw [← HN2.out, ← E22.out.2.2.1]; exact (List.length_map ..).symm)
                            have HC2 : Hid (∀ X : World, X.heap[eg]? = w22.heap[eg]? → X.cell? ⟨eg, 0, none⟩ = some (.slice d2.A n2 d2.c)) := Lib.hid (fun X e => (World.cell?_of_block e).trans (by have c0 := E22.out.2.1.at_.cell.1; rw [HD2.out] at c0; exact c0))
                            have HDP : Hid (∀ (w23 X : World) (p2 : Pk), PSt w23 W.heap.size g p2 → p2.vm.fs = revL keep 0 p1.vm.fs → RefSt w23 w4.heap.size eg d2 → Below w23.heap.size w23 X → Calls Try.prog 16 #[.pointer (some ⟨g, 0, none⟩)] X fun en w' => ∃ (A : Option Addr) (c : Nat), en = .returned (.slice A n2 c) ∧ Below w23.heap.size w23 w' ∧ ∀ Y, Below w'.heap.size w' Y → Calls Try.prog 15 #[.slice A n2 c, .slice d2.A n2 d2.c] Y (Tells Y true)) := Lib.hid (fun w23 X p2 k1 k2 k3 hb => by
                              have hl := HLE.out
                              have ht := HTB.out
                              rw [← k2] at hl
                              exact dump_rd k1 rfl k3 (by rw [E22.out.2.2.1, k2]) ⟨by have := hl.few; have := ht.few; have := HSUM.out; omega, fun x hx => by have := long_le hx; have := hl.sum; have := ht.sum; have := HSUM.out; omega, fun x hx => by have := hl.names ht.names x hx; omega⟩ (by rw [k2]; exact HN2.out) hb)
                            have L22 : Hid (eg < w22.heap.size) := Lib.hid E22.out.2.1.at_.lt
                            go_region_held3 (fun X => X.cell? ⟨eg, 0, none⟩ = some (.slice d2.A n2 d2.c)) (first | exact HC2.out _ rfl | exact HC2.out _ E23.out.2 | exact HC2.out _ E24.out.2.2 | exact HC2.out _ E25.out.2 | go_keep) (first
                              | (go_at_call 17; refine (HPV.out _ d2 (E22.out.1.kept (by repeat (first | exact Below.refl _ _ | refine Below.drew ?_))) (E22.out.2.1.kept (by repeat (first | exact Below.refl _ _ | refine Below.drew ?_))) E22.out.2.2.2.1).mono ?_; rintro en w23 ⟨rfl, p2, h23⟩; have F23 := Lib.hid h23; have E23 : Hid (Below w.heap.size w22 w23 ∧ w23.heap[eg]? = w22.heap[eg]?) := Lib.hid ⟨(by repeat (first | exact Below.refl _ _ | refine Below.drew ?_) : Below w.heap.size w22 _).trans h23.2.2.2.1, h23.2.2.2.2⟩; clear h23)
                              | (go_at_call 16; refine (HDP.out _ _ p2 F23.out.1 F23.out.2.1 F23.out.2.2.1 (by repeat (first | exact Below.refl _ _ | refine Below.drew ?_))).mono ?_; rintro en w24 ⟨A24, c24, rfl, h1, h2⟩; have E24 := Lib.hid (And.intro h1 (And.intro h2 ((h1.block _ F23.out.2.2.1.at_.lt).trans E23.out.2))); clear h1 h2)
                              | (go_at_call 15; refine (E24.out.2.1 _ (by repeat (first | exact Below.refl _ _ | refine Below.drew ?_))).mono ?_; rintro en w25 ⟨rfl, h3⟩; have B25 : Below w23.heap.size w23 w25 := E24.out.1.trans (((by repeat (first | exact Below.refl _ _ | refine Below.drew ?_) : Below w24.heap.size w24 _).trans h3).mono E24.out.1.size); have E25 : Hid (Below w23.heap.size w23 w25 ∧ w25.heap[eg]? = w22.heap[eg]?) := Lib.hid ⟨B25, (B25.block _ F23.out.2.2.1.at_.lt).trans E23.out.2⟩; clear h3 B25))
                            all_goals
                              go_wp2_with fail
                              go_ret
                              have hb1 : Below w.heap.size w w23 := (D21.out.trans E22.out.2.2.2.2).trans E23.out.1
                              exact ⟨by simp, hb1.trans (E25.out.1.mono hb1.size)⟩
    · have hz : (r == 0) = false := by simpa using h0
      have hz2 : (r != 0) = true := by simpa using h0
      go_upto_region 7 with (first
        | (go_at_call 10; refine (HOF.out _ l5 A5 c5 A6 c6 E3.out HG.out.rd HG.out.kr.lies).mono ?_; rintro e w4 ⟨hb4, h4⟩; obtain ⟨-, rfl⟩ := h4.resolve_right (fun h => h0 h.1); have E4 := Lib.hid hb4; have D4 : Hid (Below w.heap.size w w4) := Lib.hid (DW.out.trans (hb4.mono DW.out.size)); obtain ⟨z0, z1, z2⟩ := HKS.out w4 (HG.out.bel.trans (hb4.mono HG.out.bel.size)); clear hb4 h4)
        | (go_at_call 13; refine (HRO.out _ D4.out).mono ?_; rintro en w5 ⟨hb5, h5⟩; obtain ⟨-, rfl⟩ := h5.resolve_right (fun h => h0 h.1); have E5 := Lib.hid hb5; clear hb5 h5))
      have B45 : Hid (Below W.heap.size W w5) := Lib.hid (E4.out.trans (E5.out.mono E4.out.size))
      have D5 : Hid (Below w.heap.size w w5) := Lib.hid (D4.out.trans (E5.out.mono D4.out.size))
      have HSA : Hid (Calls Try.prog 15 #[.slice A5 n c5, .slice A n c] w5 (Tells w5 true)) := Lib.hid (by
        have h1 := E3.out.kept B45.out
        have h2 := H.out.1.kept D5.out
        have := refSame_wide A5 A l5 l n n c5 c w5 h1.len h2.len h1.lies h2.lies h1.ins h2.ins (by have := HSUM.out; omega) (by have := HSUM.out; omega)
        rwa [show decide (l5.map Fl.rd = l.map Fl.rd) = true by simp [HG.out.rd]] at this)
      go_wp2_with (go_at_call 15; refine HSA.out.mono ?_; rintro en w6 ⟨rfl, h6⟩; have E6 := Lib.hid h6; clear h6)
      go_ret
      exact ⟨rfl, D5.out.trans (E6.out.mono D5.out.size)⟩
  · clear HOF HRO HR
    refine wp_region_held (S := fun W => W.cell? ⟨w.heap.size, 0, none⟩ = some (.int .i64 ops) ∧ W.cell? ⟨w.heap.size, 1, none⟩ = some (.int .i64 room) ∧ W.cell? ⟨w.heap.size, 2, none⟩ = some (.slice K kn kc)) (by kernel_rfl) ?_
    change wpAnyH _ _ _ _ _ _ _ _ (World.drew _)
    have s0 := HKS.out w1.drew (Below.refl _ _).drew
    refine wpAnyH_take (i := 0) (v := .slice A n c) rfl (by kernel_rfl) (by kernel_rfl) (by kernel_rfl) (fun _ _ _ h => by cases h.1) (Or.inl ⟨by first | rfl | kernel_rfl, fun _ hS => by go_simp⟩) s0 ?_
    refine wpAnyH_take (i := 3) (v := .slice C m dc) rfl (by kernel_rfl) (by kernel_rfl) (by kernel_rfl) (fun _ _ _ h => by cases h.1) (Or.inl ⟨by first | rfl | kernel_rfl, fun _ hS => by go_simp⟩) s0 ?_
    refine wpAnyH_take (i := 7) (v := .agg #[.int .i64 ops, .int .i64 room, .slice K kn kc]) rfl (by kernel_rfl) (by kernel_rfl) (by kernel_rfl) (fun _ _ _ h => by cases h.1) (Or.inl ⟨by first | rfl | kernel_rfl, fun _ hS => by obtain ⟨k1, k2, k3⟩ := hS; go_simp⟩) s0 ?_
    try simp only [Act.put, List.setIfInBounds_toArray]
    refine wpAnyH_inv (fun fuel listed a W => ∃ (t cN : Nat) (z s b : Bool) (S E : Nat) (A5 A7 A8 A6 : Option Addr) (c5 c7 c8 c6 g0 g7 gb : Nat) (l5 : List Fl) (v29 v30 v32 v33 v34 v36 v9 : Value), fuel + t = 10 ∧ t = cN + z.toNat + s.toNat + b.toNat ∧ cN ≤ 4 ∧ (2 ≤ cN → z = true) ∧ (3 ≤ cN → s = true) ∧ listed = #[true, decide (1 ≤ cN), z, true, decide (2 ≤ cN), s, decide (3 ≤ cN), true, decide (4 ≤ cN), b, false, false, false] ∧ a = ⟨#[.slice A n c, .agg #[.int .i64 ops, .int .i64 room, .slice K kn kc], .slice C m dc, undef, .pointer (some ⟨w.heap.size, 0, none⟩), undef, .bool false, undef, undef, v9, undef, undef, undef, undef, undef, undef, undef, undef, undef, undef, undef, undef, undef, undef, undef, undef, .bool true, .bool false, .slice A n c, v29, v30, .slice C m dc, v32, v33, v34, .agg #[.int .i64 ops, .int .i64 room, .slice K kn kc], v36, undef, undef, undef, undef, undef, undef, undef, undef, undef, undef, undef, undef, undef, undef, undef, undef, undef, undef, undef, undef, undef, undef, undef, undef, undef, undef, undef, undef, undef, undef, undef, undef, undef, undef, undef, undef, undef, undef, undef, undef, undef, undef, undef, undef, undef, undef, undef, undef, undef, undef, undef, undef, undef, undef, undef, undef, undef, undef, undef, undef, undef, undef, undef, undef, undef, undef, undef, undef, undef, undef, undef, undef, undef, undef, undef, undef, undef, undef, undef, undef, undef, undef, undef, undef, undef, undef, undef, undef, undef, undef, undef, undef, undef, undef, undef, undef, undef, undef, undef, undef, undef, undef, undef, undef, undef, undef, undef, undef, undef, undef, undef, undef, undef, undef, undef, undef, undef, undef, undef, undef, undef, undef, undef, undef, undef, undef, undef, undef, undef, undef, undef, undef, undef, undef, undef, undef, undef, undef, undef, undef, undef, undef, undef, undef, undef, undef, undef, undef, undef, undef, undef, undef, undef, undef, undef, undef, undef, undef, undef, undef, undef, undef, undef, undef, undef, undef, undef, undef, undef, undef, undef, undef, undef], []⟩ ∧ F3 w1 l L n m ops room keep kn cN z s b S E A5 A7 A8 A6 c5 c7 c8 c6 g0 g7 gb l5 v29 v30 v32 v33 v34 v36 v9 W) ?_ ?_ _ _ _ _ ?_
    · rintro listed a W ⟨t, cN, z, s, b, S, E, A5, A7, A8, A6, c5, c7, c8, c6, g0, g7, gb, l5, v29, v30, v32, v33, v34, v36, v9, hfu, ht, h4, -⟩
      have hz : z.toNat ≤ 1 := by cases z <;> decide
      have hs : s.toNat ≤ 1 := by cases s <;> decide
      have hb : b.toNat ≤ 1 := by cases b <;> decide
      omega
    · rintro fuel listed a W IH ⟨t, cN, z, s, b, S, E, A5, A7, A8, A6, c5, c7, c8, c6, g0, g7, gb, l5, v29, v30, v32, v33, v34, v36, v9, hfu, ht, h4, hz2, hs3, rfl, rfl, hF⟩
      have hc : cN = 0 ∨ cN = 1 ∨ cN = 2 ∨ cN = 3 ∨ cN = 4 := by omega
      rcases hc with rfl | rfl | rfl | rfl | rfl
      · cases z
        · cases s
          · cases b
            · have hf : fuel + 1 + 0 = 10 := by rw [ht] at hfu; exact hfu
              clear ht hfu
              refine wpAnyH_ready (rs := [1, 2, 5, 9]) (by kernel_rfl) (by simp) ?_
              refine AllReadyH.cons rfl (fun K hK => ?_) ?_
              · go_simp
                go_at_call 11
                refine (HCP.out _ (D1.out.trans (hF.bel.mono D1.out.size))).mono ?_
                rintro e w2 ⟨l', A', c', rfl, h1, h2, h3, h4⟩
                have hF' := hF.copied h1 h2 h3 h4
                refine hK.out _ _ (HKS.out _ hF'.bel) (fun _ => ?_)
                clear hK K
                try simp only [List.setIfInBounds_toArray, List.set_cons_zero, List.set_cons_succ]
                exact IH _ _ _ ⟨1, 1, false, false, false, _, _, _, _, _, _, _, _, _, _, _, _, _, _, _, _, _, _, _, _, _, by omega, by decide, by decide, by decide, by decide, by kernel_rfl, rfl, hF'⟩
              refine AllReadyH.cons rfl (fun K hK => ?_) ?_
              · go_simp
                have hF' := hF.lit0
                refine hK.out _ _ (HKS.out _ hF'.bel) (fun _ => ?_)
                clear hK K
                try simp only [List.setIfInBounds_toArray, List.set_cons_zero, List.set_cons_succ]
                exact IH _ _ _ ⟨1, 0, true, false, false, _, _, _, _, _, _, _, _, _, _, _, _, _, _, _, _, _, _, _, _, _, by omega, by decide, by decide, by decide, by decide, by kernel_rfl, rfl, hF'⟩
              refine AllReadyH.cons rfl (fun K hK => ?_) ?_
              · go_simp
                have hF' := hF.lit7
                refine hK.out _ _ (HKS.out _ hF'.bel) (fun _ => ?_)
                clear hK K
                try simp only [List.setIfInBounds_toArray, List.set_cons_zero, List.set_cons_succ]
                exact IH _ _ _ ⟨1, 0, false, true, false, _, _, _, _, _, _, _, _, _, _, _, _, _, _, _, _, _, _, _, _, _, by omega, by decide, by decide, by decide, by decide, by kernel_rfl, rfl, hF'⟩
              refine AllReadyH.cons rfl (fun K hK => ?_) AllReadyH.nil
              go_simp
              have hF' := hF.box
              refine hK.out _ _ (HKS.out _ hF'.bel) (fun _ => ?_)
              clear hK K
              try simp only [List.setIfInBounds_toArray, List.set_cons_zero, List.set_cons_succ]
              exact IH _ _ _ ⟨1, 0, false, false, true, _, _, _, _, _, _, _, _, _, _, _, _, _, _, _, _, _, _, _, _, _, by omega, by decide, by decide, by decide, by decide, by kernel_rfl, rfl, hF'⟩
            · have hf : fuel + 1 + 1 = 10 := by rw [ht] at hfu; exact hfu
              clear ht hfu
              obtain ⟨e9, -⟩ := hF.fb rfl
              subst e9
              refine wpAnyH_ready (rs := [1, 2, 5]) (by kernel_rfl) (by simp) ?_
              refine AllReadyH.cons rfl (fun K hK => ?_) ?_
              · go_simp
                go_at_call 11
                refine (HCP.out _ (D1.out.trans (hF.bel.mono D1.out.size))).mono ?_
                rintro e w2 ⟨l', A', c', rfl, h1, h2, h3, h4⟩
                have hF' := hF.copied h1 h2 h3 h4
                refine hK.out _ _ (HKS.out _ hF'.bel) (fun _ => ?_)
                clear hK K
                try simp only [List.setIfInBounds_toArray, List.set_cons_zero, List.set_cons_succ]
                exact IH _ _ _ ⟨2, 1, false, false, true, _, _, _, _, _, _, _, _, _, _, _, _, _, _, _, _, _, _, _, _, _, by omega, by decide, by decide, by decide, by decide, by kernel_rfl, rfl, hF'⟩
              refine AllReadyH.cons rfl (fun K hK => ?_) ?_
              · go_simp
                have hF' := hF.lit0
                refine hK.out _ _ (HKS.out _ hF'.bel) (fun _ => ?_)
                clear hK K
                try simp only [List.setIfInBounds_toArray, List.set_cons_zero, List.set_cons_succ]
                exact IH _ _ _ ⟨2, 0, true, false, true, _, _, _, _, _, _, _, _, _, _, _, _, _, _, _, _, _, _, _, _, _, by omega, by decide, by decide, by decide, by decide, by kernel_rfl, rfl, hF'⟩
              refine AllReadyH.cons rfl (fun K hK => ?_) AllReadyH.nil
              go_simp
              have hF' := hF.lit7
              refine hK.out _ _ (HKS.out _ hF'.bel) (fun _ => ?_)
              clear hK K
              try simp only [List.setIfInBounds_toArray, List.set_cons_zero, List.set_cons_succ]
              exact IH _ _ _ ⟨2, 0, false, true, true, _, _, _, _, _, _, _, _, _, _, _, _, _, _, _, _, _, _, _, _, _, by omega, by decide, by decide, by decide, by decide, by kernel_rfl, rfl, hF'⟩
          · cases b
            · have hf : fuel + 1 + 1 = 10 := by rw [ht] at hfu; exact hfu
              clear ht hfu
              obtain ⟨e33, -⟩ := hF.fs rfl
              subst e33
              refine wpAnyH_ready (rs := [1, 2, 9]) (by kernel_rfl) (by simp) ?_
              refine AllReadyH.cons rfl (fun K hK => ?_) ?_
              · go_simp
                go_at_call 11
                refine (HCP.out _ (D1.out.trans (hF.bel.mono D1.out.size))).mono ?_
                rintro e w2 ⟨l', A', c', rfl, h1, h2, h3, h4⟩
                have hF' := hF.copied h1 h2 h3 h4
                refine hK.out _ _ (HKS.out _ hF'.bel) (fun _ => ?_)
                clear hK K
                try simp only [List.setIfInBounds_toArray, List.set_cons_zero, List.set_cons_succ]
                exact IH _ _ _ ⟨2, 1, false, true, false, _, _, _, _, _, _, _, _, _, _, _, _, _, _, _, _, _, _, _, _, _, by omega, by decide, by decide, by decide, by decide, by kernel_rfl, rfl, hF'⟩
              refine AllReadyH.cons rfl (fun K hK => ?_) ?_
              · go_simp
                have hF' := hF.lit0
                refine hK.out _ _ (HKS.out _ hF'.bel) (fun _ => ?_)
                clear hK K
                try simp only [List.setIfInBounds_toArray, List.set_cons_zero, List.set_cons_succ]
                exact IH _ _ _ ⟨2, 0, true, true, false, _, _, _, _, _, _, _, _, _, _, _, _, _, _, _, _, _, _, _, _, _, by omega, by decide, by decide, by decide, by decide, by kernel_rfl, rfl, hF'⟩
              refine AllReadyH.cons rfl (fun K hK => ?_) AllReadyH.nil
              go_simp
              have hF' := hF.box
              refine hK.out _ _ (HKS.out _ hF'.bel) (fun _ => ?_)
              clear hK K
              try simp only [List.setIfInBounds_toArray, List.set_cons_zero, List.set_cons_succ]
              exact IH _ _ _ ⟨2, 0, false, true, true, _, _, _, _, _, _, _, _, _, _, _, _, _, _, _, _, _, _, _, _, _, by omega, by decide, by decide, by decide, by decide, by kernel_rfl, rfl, hF'⟩
            · have hf : fuel + 1 + 2 = 10 := by rw [ht] at hfu; exact hfu
              clear ht hfu
              obtain ⟨e33, -⟩ := hF.fs rfl
              subst e33
              obtain ⟨e9, -⟩ := hF.fb rfl
              subst e9
              refine wpAnyH_ready (rs := [1, 2]) (by kernel_rfl) (by simp) ?_
              refine AllReadyH.cons rfl (fun K hK => ?_) ?_
              · go_simp
                go_at_call 11
                refine (HCP.out _ (D1.out.trans (hF.bel.mono D1.out.size))).mono ?_
                rintro e w2 ⟨l', A', c', rfl, h1, h2, h3, h4⟩
                have hF' := hF.copied h1 h2 h3 h4
                refine hK.out _ _ (HKS.out _ hF'.bel) (fun _ => ?_)
                clear hK K
                try simp only [List.setIfInBounds_toArray, List.set_cons_zero, List.set_cons_succ]
                exact IH _ _ _ ⟨3, 1, false, true, true, _, _, _, _, _, _, _, _, _, _, _, _, _, _, _, _, _, _, _, _, _, by omega, by decide, by decide, by decide, by decide, by kernel_rfl, rfl, hF'⟩
              refine AllReadyH.cons rfl (fun K hK => ?_) AllReadyH.nil
              go_simp
              have hF' := hF.lit0
              refine hK.out _ _ (HKS.out _ hF'.bel) (fun _ => ?_)
              clear hK K
              try simp only [List.setIfInBounds_toArray, List.set_cons_zero, List.set_cons_succ]
              exact IH _ _ _ ⟨3, 0, true, true, true, _, _, _, _, _, _, _, _, _, _, _, _, _, _, _, _, _, _, _, _, _, by omega, by decide, by decide, by decide, by decide, by kernel_rfl, rfl, hF'⟩
        · cases s
          · cases b
            · have hf : fuel + 1 + 1 = 10 := by rw [ht] at hfu; exact hfu
              clear ht hfu
              obtain ⟨e30, -⟩ := hF.fz rfl
              subst e30
              refine wpAnyH_ready (rs := [1, 5, 9]) (by kernel_rfl) (by simp) ?_
              refine AllReadyH.cons rfl (fun K hK => ?_) ?_
              · go_simp
                go_at_call 11
                refine (HCP.out _ (D1.out.trans (hF.bel.mono D1.out.size))).mono ?_
                rintro e w2 ⟨l', A', c', rfl, h1, h2, h3, h4⟩
                have hF' := hF.copied h1 h2 h3 h4
                refine hK.out _ _ (HKS.out _ hF'.bel) (fun _ => ?_)
                clear hK K
                try simp only [List.setIfInBounds_toArray, List.set_cons_zero, List.set_cons_succ]
                exact IH _ _ _ ⟨2, 1, true, false, false, _, _, _, _, _, _, _, _, _, _, _, _, _, _, _, _, _, _, _, _, _, by omega, by decide, by decide, by decide, by decide, by kernel_rfl, rfl, hF'⟩
              refine AllReadyH.cons rfl (fun K hK => ?_) ?_
              · go_simp
                have hF' := hF.lit7
                refine hK.out _ _ (HKS.out _ hF'.bel) (fun _ => ?_)
                clear hK K
                try simp only [List.setIfInBounds_toArray, List.set_cons_zero, List.set_cons_succ]
                exact IH _ _ _ ⟨2, 0, true, true, false, _, _, _, _, _, _, _, _, _, _, _, _, _, _, _, _, _, _, _, _, _, by omega, by decide, by decide, by decide, by decide, by kernel_rfl, rfl, hF'⟩
              refine AllReadyH.cons rfl (fun K hK => ?_) AllReadyH.nil
              go_simp
              have hF' := hF.box
              refine hK.out _ _ (HKS.out _ hF'.bel) (fun _ => ?_)
              clear hK K
              try simp only [List.setIfInBounds_toArray, List.set_cons_zero, List.set_cons_succ]
              exact IH _ _ _ ⟨2, 0, true, false, true, _, _, _, _, _, _, _, _, _, _, _, _, _, _, _, _, _, _, _, _, _, by omega, by decide, by decide, by decide, by decide, by kernel_rfl, rfl, hF'⟩
            · have hf : fuel + 1 + 2 = 10 := by rw [ht] at hfu; exact hfu
              clear ht hfu
              obtain ⟨e30, -⟩ := hF.fz rfl
              subst e30
              obtain ⟨e9, -⟩ := hF.fb rfl
              subst e9
              refine wpAnyH_ready (rs := [1, 5]) (by kernel_rfl) (by simp) ?_
              refine AllReadyH.cons rfl (fun K hK => ?_) ?_
              · go_simp
                go_at_call 11
                refine (HCP.out _ (D1.out.trans (hF.bel.mono D1.out.size))).mono ?_
                rintro e w2 ⟨l', A', c', rfl, h1, h2, h3, h4⟩
                have hF' := hF.copied h1 h2 h3 h4
                refine hK.out _ _ (HKS.out _ hF'.bel) (fun _ => ?_)
                clear hK K
                try simp only [List.setIfInBounds_toArray, List.set_cons_zero, List.set_cons_succ]
                exact IH _ _ _ ⟨3, 1, true, false, true, _, _, _, _, _, _, _, _, _, _, _, _, _, _, _, _, _, _, _, _, _, by omega, by decide, by decide, by decide, by decide, by kernel_rfl, rfl, hF'⟩
              refine AllReadyH.cons rfl (fun K hK => ?_) AllReadyH.nil
              go_simp
              have hF' := hF.lit7
              refine hK.out _ _ (HKS.out _ hF'.bel) (fun _ => ?_)
              clear hK K
              try simp only [List.setIfInBounds_toArray, List.set_cons_zero, List.set_cons_succ]
              exact IH _ _ _ ⟨3, 0, true, true, true, _, _, _, _, _, _, _, _, _, _, _, _, _, _, _, _, _, _, _, _, _, by omega, by decide, by decide, by decide, by decide, by kernel_rfl, rfl, hF'⟩
          · cases b
            · have hf : fuel + 1 + 2 = 10 := by rw [ht] at hfu; exact hfu
              clear ht hfu
              obtain ⟨e30, -⟩ := hF.fz rfl
              subst e30
              obtain ⟨e33, -⟩ := hF.fs rfl
              subst e33
              refine wpAnyH_ready (rs := [1, 9]) (by kernel_rfl) (by simp) ?_
              refine AllReadyH.cons rfl (fun K hK => ?_) ?_
              · go_simp
                go_at_call 11
                refine (HCP.out _ (D1.out.trans (hF.bel.mono D1.out.size))).mono ?_
                rintro e w2 ⟨l', A', c', rfl, h1, h2, h3, h4⟩
                have hF' := hF.copied h1 h2 h3 h4
                refine hK.out _ _ (HKS.out _ hF'.bel) (fun _ => ?_)
                clear hK K
                try simp only [List.setIfInBounds_toArray, List.set_cons_zero, List.set_cons_succ]
                exact IH _ _ _ ⟨3, 1, true, true, false, _, _, _, _, _, _, _, _, _, _, _, _, _, _, _, _, _, _, _, _, _, by omega, by decide, by decide, by decide, by decide, by kernel_rfl, rfl, hF'⟩
              refine AllReadyH.cons rfl (fun K hK => ?_) AllReadyH.nil
              go_simp
              have hF' := hF.box
              refine hK.out _ _ (HKS.out _ hF'.bel) (fun _ => ?_)
              clear hK K
              try simp only [List.setIfInBounds_toArray, List.set_cons_zero, List.set_cons_succ]
              exact IH _ _ _ ⟨3, 0, true, true, true, _, _, _, _, _, _, _, _, _, _, _, _, _, _, _, _, _, _, _, _, _, by omega, by decide, by decide, by decide, by decide, by kernel_rfl, rfl, hF'⟩
            · have hf : fuel + 1 + 3 = 10 := by rw [ht] at hfu; exact hfu
              clear ht hfu
              obtain ⟨e30, -⟩ := hF.fz rfl
              subst e30
              obtain ⟨e33, -⟩ := hF.fs rfl
              subst e33
              obtain ⟨e9, -⟩ := hF.fb rfl
              subst e9
              refine wpAnyH_ready (rs := [1]) (by kernel_rfl) (by simp) ?_
              refine AllReadyH.cons rfl (fun K hK => ?_) AllReadyH.nil
              go_simp
              go_at_call 11
              refine (HCP.out _ (D1.out.trans (hF.bel.mono D1.out.size))).mono ?_
              rintro e w2 ⟨l', A', c', rfl, h1, h2, h3, h4⟩
              have hF' := hF.copied h1 h2 h3 h4
              refine hK.out _ _ (HKS.out _ hF'.bel) (fun _ => ?_)
              clear hK K
              try simp only [List.setIfInBounds_toArray, List.set_cons_zero, List.set_cons_succ]
              exact IH _ _ _ ⟨4, 1, true, true, true, _, _, _, _, _, _, _, _, _, _, _, _, _, _, _, _, _, _, _, _, _, by omega, by decide, by decide, by decide, by decide, by kernel_rfl, rfl, hF'⟩
      · cases z
        · cases s
          · cases b
            · have hf : fuel + 1 + 1 = 10 := by rw [ht] at hfu; exact hfu
              clear ht hfu
              obtain ⟨e29, -⟩ := hF.f1 (by decide)
              subst e29
              refine wpAnyH_ready (rs := [2, 5, 9]) (by kernel_rfl) (by simp) ?_
              refine AllReadyH.cons rfl (fun K hK => ?_) ?_
              · go_simp
                have hF' := hF.lit0
                refine hK.out _ _ (HKS.out _ hF'.bel) (fun _ => ?_)
                clear hK K
                try simp only [List.setIfInBounds_toArray, List.set_cons_zero, List.set_cons_succ]
                exact IH _ _ _ ⟨2, 1, true, false, false, _, _, _, _, _, _, _, _, _, _, _, _, _, _, _, _, _, _, _, _, _, by omega, by decide, by decide, by decide, by decide, by kernel_rfl, rfl, hF'⟩
              refine AllReadyH.cons rfl (fun K hK => ?_) ?_
              · go_simp
                have hF' := hF.lit7
                refine hK.out _ _ (HKS.out _ hF'.bel) (fun _ => ?_)
                clear hK K
                try simp only [List.setIfInBounds_toArray, List.set_cons_zero, List.set_cons_succ]
                exact IH _ _ _ ⟨2, 1, false, true, false, _, _, _, _, _, _, _, _, _, _, _, _, _, _, _, _, _, _, _, _, _, by omega, by decide, by decide, by decide, by decide, by kernel_rfl, rfl, hF'⟩
              refine AllReadyH.cons rfl (fun K hK => ?_) AllReadyH.nil
              go_simp
              have hF' := hF.box
              refine hK.out _ _ (HKS.out _ hF'.bel) (fun _ => ?_)
              clear hK K
              try simp only [List.setIfInBounds_toArray, List.set_cons_zero, List.set_cons_succ]
              exact IH _ _ _ ⟨2, 1, false, false, true, _, _, _, _, _, _, _, _, _, _, _, _, _, _, _, _, _, _, _, _, _, by omega, by decide, by decide, by decide, by decide, by kernel_rfl, rfl, hF'⟩
            · have hf : fuel + 1 + 2 = 10 := by rw [ht] at hfu; exact hfu
              clear ht hfu
              obtain ⟨e29, -⟩ := hF.f1 (by decide)
              subst e29
              obtain ⟨e9, -⟩ := hF.fb rfl
              subst e9
              refine wpAnyH_ready (rs := [2, 5]) (by kernel_rfl) (by simp) ?_
              refine AllReadyH.cons rfl (fun K hK => ?_) ?_
              · go_simp
                have hF' := hF.lit0
                refine hK.out _ _ (HKS.out _ hF'.bel) (fun _ => ?_)
                clear hK K
                try simp only [List.setIfInBounds_toArray, List.set_cons_zero, List.set_cons_succ]
                exact IH _ _ _ ⟨3, 1, true, false, true, _, _, _, _, _, _, _, _, _, _, _, _, _, _, _, _, _, _, _, _, _, by omega, by decide, by decide, by decide, by decide, by kernel_rfl, rfl, hF'⟩
              refine AllReadyH.cons rfl (fun K hK => ?_) AllReadyH.nil
              go_simp
              have hF' := hF.lit7
              refine hK.out _ _ (HKS.out _ hF'.bel) (fun _ => ?_)
              clear hK K
              try simp only [List.setIfInBounds_toArray, List.set_cons_zero, List.set_cons_succ]
              exact IH _ _ _ ⟨3, 1, false, true, true, _, _, _, _, _, _, _, _, _, _, _, _, _, _, _, _, _, _, _, _, _, by omega, by decide, by decide, by decide, by decide, by kernel_rfl, rfl, hF'⟩
          · cases b
            · have hf : fuel + 1 + 2 = 10 := by rw [ht] at hfu; exact hfu
              clear ht hfu
              obtain ⟨e29, -⟩ := hF.f1 (by decide)
              subst e29
              obtain ⟨e33, -⟩ := hF.fs rfl
              subst e33
              refine wpAnyH_ready (rs := [2, 9]) (by kernel_rfl) (by simp) ?_
              refine AllReadyH.cons rfl (fun K hK => ?_) ?_
              · go_simp
                have hF' := hF.lit0
                refine hK.out _ _ (HKS.out _ hF'.bel) (fun _ => ?_)
                clear hK K
                try simp only [List.setIfInBounds_toArray, List.set_cons_zero, List.set_cons_succ]
                exact IH _ _ _ ⟨3, 1, true, true, false, _, _, _, _, _, _, _, _, _, _, _, _, _, _, _, _, _, _, _, _, _, by omega, by decide, by decide, by decide, by decide, by kernel_rfl, rfl, hF'⟩
              refine AllReadyH.cons rfl (fun K hK => ?_) AllReadyH.nil
              go_simp
              have hF' := hF.box
              refine hK.out _ _ (HKS.out _ hF'.bel) (fun _ => ?_)
              clear hK K
              try simp only [List.setIfInBounds_toArray, List.set_cons_zero, List.set_cons_succ]
              exact IH _ _ _ ⟨3, 1, false, true, true, _, _, _, _, _, _, _, _, _, _, _, _, _, _, _, _, _, _, _, _, _, by omega, by decide, by decide, by decide, by decide, by kernel_rfl, rfl, hF'⟩
            · have hf : fuel + 1 + 3 = 10 := by rw [ht] at hfu; exact hfu
              clear ht hfu
              obtain ⟨e29, -⟩ := hF.f1 (by decide)
              subst e29
              obtain ⟨e33, -⟩ := hF.fs rfl
              subst e33
              obtain ⟨e9, -⟩ := hF.fb rfl
              subst e9
              refine wpAnyH_ready (rs := [2]) (by kernel_rfl) (by simp) ?_
              refine AllReadyH.cons rfl (fun K hK => ?_) AllReadyH.nil
              go_simp
              have hF' := hF.lit0
              refine hK.out _ _ (HKS.out _ hF'.bel) (fun _ => ?_)
              clear hK K
              try simp only [List.setIfInBounds_toArray, List.set_cons_zero, List.set_cons_succ]
              exact IH _ _ _ ⟨4, 1, true, true, true, _, _, _, _, _, _, _, _, _, _, _, _, _, _, _, _, _, _, _, _, _, by omega, by decide, by decide, by decide, by decide, by kernel_rfl, rfl, hF'⟩
        · cases s
          · cases b
            · have hf : fuel + 1 + 2 = 10 := by rw [ht] at hfu; exact hfu
              clear ht hfu
              obtain ⟨e29, -⟩ := hF.f1 (by decide)
              subst e29
              obtain ⟨e30, -⟩ := hF.fz rfl
              subst e30
              refine wpAnyH_ready (rs := [4, 5, 9]) (by kernel_rfl) (by simp) ?_
              refine AllReadyH.cons rfl (fun K hK => ?_) ?_
              · refine step_append_zero _ (by rfl) (.tmp 30) (.tmp 31) (by rfl) g0 L C m dc rfl rfl HML.out ((hF.fz rfl).2.1 (by decide)) (HCB.out _ (D1.out.trans (hF.bel.mono D1.out.size))).bys (by have := HML.out; have := HMM.out; omega) ?_
                intro A' c' w' r' b' p'
                have hF' := hF.app1 r' b' p' (m := m)
                refine hK.out _ _ (HKS.out _ hF'.bel) (fun _ => ?_)
                clear hK K
                try simp only [Act.put, List.setIfInBounds_toArray, List.set_cons_zero, List.set_cons_succ]
                exact IH _ _ _ ⟨3, 2, true, false, false, _, _, _, _, _, _, _, _, _, _, _, _, _, _, _, _, _, _, _, _, _, by omega, by decide, by decide, by decide, by decide, by kernel_rfl, rfl, hF'⟩
              refine AllReadyH.cons rfl (fun K hK => ?_) ?_
              · go_simp
                have hF' := hF.lit7
                refine hK.out _ _ (HKS.out _ hF'.bel) (fun _ => ?_)
                clear hK K
                try simp only [List.setIfInBounds_toArray, List.set_cons_zero, List.set_cons_succ]
                exact IH _ _ _ ⟨3, 1, true, true, false, _, _, _, _, _, _, _, _, _, _, _, _, _, _, _, _, _, _, _, _, _, by omega, by decide, by decide, by decide, by decide, by kernel_rfl, rfl, hF'⟩
              refine AllReadyH.cons rfl (fun K hK => ?_) AllReadyH.nil
              go_simp
              have hF' := hF.box
              refine hK.out _ _ (HKS.out _ hF'.bel) (fun _ => ?_)
              clear hK K
              try simp only [List.setIfInBounds_toArray, List.set_cons_zero, List.set_cons_succ]
              exact IH _ _ _ ⟨3, 1, true, false, true, _, _, _, _, _, _, _, _, _, _, _, _, _, _, _, _, _, _, _, _, _, by omega, by decide, by decide, by decide, by decide, by kernel_rfl, rfl, hF'⟩
            · have hf : fuel + 1 + 3 = 10 := by rw [ht] at hfu; exact hfu
              clear ht hfu
              obtain ⟨e29, -⟩ := hF.f1 (by decide)
              subst e29
              obtain ⟨e30, -⟩ := hF.fz rfl
              subst e30
              obtain ⟨e9, -⟩ := hF.fb rfl
              subst e9
              refine wpAnyH_ready (rs := [4, 5]) (by kernel_rfl) (by simp) ?_
              refine AllReadyH.cons rfl (fun K hK => ?_) ?_
              · refine step_append_zero _ (by rfl) (.tmp 30) (.tmp 31) (by rfl) g0 L C m dc rfl rfl HML.out ((hF.fz rfl).2.1 (by decide)) (HCB.out _ (D1.out.trans (hF.bel.mono D1.out.size))).bys (by have := HML.out; have := HMM.out; omega) ?_
                intro A' c' w' r' b' p'
                have hF' := hF.app1 r' b' p' (m := m)
                refine hK.out _ _ (HKS.out _ hF'.bel) (fun _ => ?_)
                clear hK K
                try simp only [Act.put, List.setIfInBounds_toArray, List.set_cons_zero, List.set_cons_succ]
                exact IH _ _ _ ⟨4, 2, true, false, true, _, _, _, _, _, _, _, _, _, _, _, _, _, _, _, _, _, _, _, _, _, by omega, by decide, by decide, by decide, by decide, by kernel_rfl, rfl, hF'⟩
              refine AllReadyH.cons rfl (fun K hK => ?_) AllReadyH.nil
              go_simp
              have hF' := hF.lit7
              refine hK.out _ _ (HKS.out _ hF'.bel) (fun _ => ?_)
              clear hK K
              try simp only [List.setIfInBounds_toArray, List.set_cons_zero, List.set_cons_succ]
              exact IH _ _ _ ⟨4, 1, true, true, true, _, _, _, _, _, _, _, _, _, _, _, _, _, _, _, _, _, _, _, _, _, by omega, by decide, by decide, by decide, by decide, by kernel_rfl, rfl, hF'⟩
          · cases b
            · have hf : fuel + 1 + 3 = 10 := by rw [ht] at hfu; exact hfu
              clear ht hfu
              obtain ⟨e29, -⟩ := hF.f1 (by decide)
              subst e29
              obtain ⟨e30, -⟩ := hF.fz rfl
              subst e30
              obtain ⟨e33, -⟩ := hF.fs rfl
              subst e33
              refine wpAnyH_ready (rs := [4, 9]) (by kernel_rfl) (by simp) ?_
              refine AllReadyH.cons rfl (fun K hK => ?_) ?_
              · refine step_append_zero _ (by rfl) (.tmp 30) (.tmp 31) (by rfl) g0 L C m dc rfl rfl HML.out ((hF.fz rfl).2.1 (by decide)) (HCB.out _ (D1.out.trans (hF.bel.mono D1.out.size))).bys (by have := HML.out; have := HMM.out; omega) ?_
                intro A' c' w' r' b' p'
                have hF' := hF.app1 r' b' p' (m := m)
                refine hK.out _ _ (HKS.out _ hF'.bel) (fun _ => ?_)
                clear hK K
                try simp only [Act.put, List.setIfInBounds_toArray, List.set_cons_zero, List.set_cons_succ]
                exact IH _ _ _ ⟨4, 2, true, true, false, _, _, _, _, _, _, _, _, _, _, _, _, _, _, _, _, _, _, _, _, _, by omega, by decide, by decide, by decide, by decide, by kernel_rfl, rfl, hF'⟩
              refine AllReadyH.cons rfl (fun K hK => ?_) AllReadyH.nil
              go_simp
              have hF' := hF.box
              refine hK.out _ _ (HKS.out _ hF'.bel) (fun _ => ?_)
              clear hK K
              try simp only [List.setIfInBounds_toArray, List.set_cons_zero, List.set_cons_succ]
              exact IH _ _ _ ⟨4, 1, true, true, true, _, _, _, _, _, _, _, _, _, _, _, _, _, _, _, _, _, _, _, _, _, by omega, by decide, by decide, by decide, by decide, by kernel_rfl, rfl, hF'⟩
            · have hf : fuel + 1 + 4 = 10 := by rw [ht] at hfu; exact hfu
              clear ht hfu
              obtain ⟨e29, -⟩ := hF.f1 (by decide)
              subst e29
              obtain ⟨e30, -⟩ := hF.fz rfl
              subst e30
              obtain ⟨e33, -⟩ := hF.fs rfl
              subst e33
              obtain ⟨e9, -⟩ := hF.fb rfl
              subst e9
              refine wpAnyH_ready (rs := [4]) (by kernel_rfl) (by simp) ?_
              refine AllReadyH.cons rfl (fun K hK => ?_) AllReadyH.nil
              refine step_append_zero _ (by rfl) (.tmp 30) (.tmp 31) (by rfl) g0 L C m dc rfl rfl HML.out ((hF.fz rfl).2.1 (by decide)) (HCB.out _ (D1.out.trans (hF.bel.mono D1.out.size))).bys (by have := HML.out; have := HMM.out; omega) ?_
              intro A' c' w' r' b' p'
              have hF' := hF.app1 r' b' p' (m := m)
              refine hK.out _ _ (HKS.out _ hF'.bel) (fun _ => ?_)
              clear hK K
              try simp only [Act.put, List.setIfInBounds_toArray, List.set_cons_zero, List.set_cons_succ]
              exact IH _ _ _ ⟨5, 2, true, true, true, _, _, _, _, _, _, _, _, _, _, _, _, _, _, _, _, _, _, _, _, _, by omega, by decide, by decide, by decide, by decide, by kernel_rfl, rfl, hF'⟩
      · cases z
        · cases s
          · cases b
            · exact absurd (hz2 (by decide)) (by decide)
            · exact absurd (hz2 (by decide)) (by decide)
          · cases b
            · exact absurd (hz2 (by decide)) (by decide)
            · exact absurd (hz2 (by decide)) (by decide)
        · cases s
          · cases b
            · have hf : fuel + 1 + 3 = 10 := by rw [ht] at hfu; exact hfu
              clear ht hfu
              obtain ⟨e29, -⟩ := hF.f1 (by decide)
              subst e29
              obtain ⟨e30, -⟩ := hF.fz rfl
              subst e30
              obtain ⟨e32, -⟩ := hF.f2 rfl
              subst e32
              refine wpAnyH_ready (rs := [5, 9]) (by kernel_rfl) (by simp) ?_
              refine AllReadyH.cons rfl (fun K hK => ?_) ?_
              · go_simp
                have hF' := hF.lit7
                refine hK.out _ _ (HKS.out _ hF'.bel) (fun _ => ?_)
                clear hK K
                try simp only [List.setIfInBounds_toArray, List.set_cons_zero, List.set_cons_succ]
                exact IH _ _ _ ⟨4, 2, true, true, false, _, _, _, _, _, _, _, _, _, _, _, _, _, _, _, _, _, _, _, _, _, by omega, by decide, by decide, by decide, by decide, by kernel_rfl, rfl, hF'⟩
              refine AllReadyH.cons rfl (fun K hK => ?_) AllReadyH.nil
              go_simp
              have hF' := hF.box
              refine hK.out _ _ (HKS.out _ hF'.bel) (fun _ => ?_)
              clear hK K
              try simp only [List.setIfInBounds_toArray, List.set_cons_zero, List.set_cons_succ]
              exact IH _ _ _ ⟨4, 2, true, false, true, _, _, _, _, _, _, _, _, _, _, _, _, _, _, _, _, _, _, _, _, _, by omega, by decide, by decide, by decide, by decide, by kernel_rfl, rfl, hF'⟩
            · have hf : fuel + 1 + 4 = 10 := by rw [ht] at hfu; exact hfu
              clear ht hfu
              obtain ⟨e29, -⟩ := hF.f1 (by decide)
              subst e29
              obtain ⟨e30, -⟩ := hF.fz rfl
              subst e30
              obtain ⟨e32, -⟩ := hF.f2 rfl
              subst e32
              obtain ⟨e9, -⟩ := hF.fb rfl
              subst e9
              refine wpAnyH_ready (rs := [5]) (by kernel_rfl) (by simp) ?_
              refine AllReadyH.cons rfl (fun K hK => ?_) AllReadyH.nil
              go_simp
              have hF' := hF.lit7
              refine hK.out _ _ (HKS.out _ hF'.bel) (fun _ => ?_)
              clear hK K
              try simp only [List.setIfInBounds_toArray, List.set_cons_zero, List.set_cons_succ]
              exact IH _ _ _ ⟨5, 2, true, true, true, _, _, _, _, _, _, _, _, _, _, _, _, _, _, _, _, _, _, _, _, _, by omega, by decide, by decide, by decide, by decide, by kernel_rfl, rfl, hF'⟩
          · cases b
            · have hf : fuel + 1 + 4 = 10 := by rw [ht] at hfu; exact hfu
              clear ht hfu
              obtain ⟨e29, -⟩ := hF.f1 (by decide)
              subst e29
              obtain ⟨e30, -⟩ := hF.fz rfl
              subst e30
              obtain ⟨e32, -⟩ := hF.f2 rfl
              subst e32
              obtain ⟨e33, -⟩ := hF.fs rfl
              subst e33
              refine wpAnyH_ready (rs := [6, 9]) (by kernel_rfl) (by simp) ?_
              refine AllReadyH.cons rfl (fun K hK => ?_) ?_
              · refine step_append_place _ (by rfl) (.tmp 32) (.tmp 33) (by rfl) w1.heap.size A7 c7 L 7 _ m 1 rfl rfl HML.out (hF.f2 rfl).2.1 ((hF.fs rfl).2 (by decide)) hF.bel.size (by have := HML.out; have := HMM.out; omega) ?_
                intro A' c' w' r' hg' b' p'
                have hF' := hF.app2 r' hg' p'
                refine hK.out _ _ (HKS.out _ hF'.bel) (fun _ => ?_)
                clear hK K
                try simp only [Act.put, List.setIfInBounds_toArray, List.set_cons_zero, List.set_cons_succ]
                exact IH _ _ _ ⟨5, 3, true, true, false, _, _, _, _, _, _, _, _, _, _, _, _, _, _, _, _, _, _, _, _, _, by omega, by decide, by decide, by decide, by decide, by kernel_rfl, rfl, hF'⟩
              refine AllReadyH.cons rfl (fun K hK => ?_) AllReadyH.nil
              go_simp
              have hF' := hF.box
              refine hK.out _ _ (HKS.out _ hF'.bel) (fun _ => ?_)
              clear hK K
              try simp only [List.setIfInBounds_toArray, List.set_cons_zero, List.set_cons_succ]
              exact IH _ _ _ ⟨5, 2, true, true, true, _, _, _, _, _, _, _, _, _, _, _, _, _, _, _, _, _, _, _, _, _, by omega, by decide, by decide, by decide, by decide, by kernel_rfl, rfl, hF'⟩
            · have hf : fuel + 1 + 5 = 10 := by rw [ht] at hfu; exact hfu
              clear ht hfu
              obtain ⟨e29, -⟩ := hF.f1 (by decide)
              subst e29
              obtain ⟨e30, -⟩ := hF.fz rfl
              subst e30
              obtain ⟨e32, -⟩ := hF.f2 rfl
              subst e32
              obtain ⟨e33, -⟩ := hF.fs rfl
              subst e33
              obtain ⟨e9, -⟩ := hF.fb rfl
              subst e9
              refine wpAnyH_ready (rs := [6]) (by kernel_rfl) (by simp) ?_
              refine AllReadyH.cons rfl (fun K hK => ?_) AllReadyH.nil
              refine step_append_place _ (by rfl) (.tmp 32) (.tmp 33) (by rfl) w1.heap.size A7 c7 L 7 _ m 1 rfl rfl HML.out (hF.f2 rfl).2.1 ((hF.fs rfl).2 (by decide)) hF.bel.size (by have := HML.out; have := HMM.out; omega) ?_
              intro A' c' w' r' hg' b' p'
              have hF' := hF.app2 r' hg' p'
              refine hK.out _ _ (HKS.out _ hF'.bel) (fun _ => ?_)
              clear hK K
              try simp only [Act.put, List.setIfInBounds_toArray, List.set_cons_zero, List.set_cons_succ]
              exact IH _ _ _ ⟨6, 3, true, true, true, _, _, _, _, _, _, _, _, _, _, _, _, _, _, _, _, _, _, _, _, _, by omega, by decide, by decide, by decide, by decide, by kernel_rfl, rfl, hF'⟩
      · cases z
        · cases s
          · cases b
            · exact absurd (hz2 (by decide)) (by decide)
            · exact absurd (hz2 (by decide)) (by decide)
          · cases b
            · exact absurd (hz2 (by decide)) (by decide)
            · exact absurd (hz2 (by decide)) (by decide)
        · cases s
          · cases b
            · exact absurd (hs3 (by decide)) (by decide)
            · exact absurd (hs3 (by decide)) (by decide)
          · cases b
            · have hf : fuel + 1 + 5 = 10 := by rw [ht] at hfu; exact hfu
              clear ht hfu
              obtain ⟨e29, -⟩ := hF.f1 (by decide)
              subst e29
              obtain ⟨e30, -⟩ := hF.fz rfl
              subst e30
              obtain ⟨e33, -⟩ := hF.fs rfl
              subst e33
              obtain ⟨e34, -⟩ := hF.f3 (by decide)
              subst e34
              refine wpAnyH_ready (rs := [8, 9]) (by kernel_rfl) (by simp) ?_
              refine AllReadyH.cons rfl (fun K hK => ?_) ?_
              · go_simp
                go_at_call 12
                refine (HPL.out _ (D1.out.trans (hF.bel.mono D1.out.size))).mono ?_
                rintro e w6 ⟨A', c', rfl, h1, h2⟩
                have hF' := hF.planned h1 h2 (kn := kn) (ops := ops) (room := room)
                refine hK.out _ _ (HKS.out _ hF'.bel) (fun _ => ?_)
                clear hK K
                try simp only [List.setIfInBounds_toArray, List.set_cons_zero, List.set_cons_succ]
                exact IH _ _ _ ⟨6, 4, true, true, false, _, _, _, _, _, _, _, _, _, _, _, _, _, _, _, _, _, _, _, _, _, by omega, by decide, by decide, by decide, by decide, by kernel_rfl, rfl, hF'⟩
              refine AllReadyH.cons rfl (fun K hK => ?_) AllReadyH.nil
              go_simp
              have hF' := hF.box
              refine hK.out _ _ (HKS.out _ hF'.bel) (fun _ => ?_)
              clear hK K
              try simp only [List.setIfInBounds_toArray, List.set_cons_zero, List.set_cons_succ]
              exact IH _ _ _ ⟨6, 3, true, true, true, _, _, _, _, _, _, _, _, _, _, _, _, _, _, _, _, _, _, _, _, _, by omega, by decide, by decide, by decide, by decide, by kernel_rfl, rfl, hF'⟩
            · have hf : fuel + 1 + 6 = 10 := by rw [ht] at hfu; exact hfu
              clear ht hfu
              obtain ⟨e29, -⟩ := hF.f1 (by decide)
              subst e29
              obtain ⟨e30, -⟩ := hF.fz rfl
              subst e30
              obtain ⟨e33, -⟩ := hF.fs rfl
              subst e33
              obtain ⟨e34, -⟩ := hF.f3 (by decide)
              subst e34
              obtain ⟨e9, -⟩ := hF.fb rfl
              subst e9
              refine wpAnyH_ready (rs := [8]) (by kernel_rfl) (by simp) ?_
              refine AllReadyH.cons rfl (fun K hK => ?_) AllReadyH.nil
              go_simp
              go_at_call 12
              refine (HPL.out _ (D1.out.trans (hF.bel.mono D1.out.size))).mono ?_
              rintro e w6 ⟨A', c', rfl, h1, h2⟩
              have hF' := hF.planned h1 h2 (kn := kn) (ops := ops) (room := room)
              refine hK.out _ _ (HKS.out _ hF'.bel) (fun _ => ?_)
              clear hK K
              try simp only [List.setIfInBounds_toArray, List.set_cons_zero, List.set_cons_succ]
              exact IH _ _ _ ⟨7, 4, true, true, true, _, _, _, _, _, _, _, _, _, _, _, _, _, _, _, _, _, _, _, _, _, by omega, by decide, by decide, by decide, by decide, by kernel_rfl, rfl, hF'⟩
      · cases z
        · cases s
          · cases b
            · exact absurd (hz2 (by decide)) (by decide)
            · exact absurd (hz2 (by decide)) (by decide)
          · cases b
            · exact absurd (hz2 (by decide)) (by decide)
            · exact absurd (hz2 (by decide)) (by decide)
        · cases s
          · cases b
            · exact absurd (hs3 (by decide)) (by decide)
            · exact absurd (hs3 (by decide)) (by decide)
          · cases b
            · have hf : fuel + 1 + 6 = 10 := by rw [ht] at hfu; exact hfu
              clear ht hfu
              obtain ⟨e29, -⟩ := hF.f1 (by decide)
              subst e29
              obtain ⟨e30, -⟩ := hF.fz rfl
              subst e30
              obtain ⟨e33, -⟩ := hF.fs rfl
              subst e33
              obtain ⟨e34, -⟩ := hF.f3 (by decide)
              subst e34
              obtain ⟨e36, -⟩ := hF.f4 (by decide)
              subst e36
              refine wpAnyH_ready (rs := [9]) (by kernel_rfl) (by simp) ?_
              refine AllReadyH.cons rfl (fun K hK => ?_) AllReadyH.nil
              go_simp
              have hF' := hF.box
              refine hK.out _ _ (HKS.out _ hF'.bel) (fun _ => ?_)
              clear hK K
              try simp only [List.setIfInBounds_toArray, List.set_cons_zero, List.set_cons_succ]
              exact IH _ _ _ ⟨7, 4, true, true, true, _, _, _, _, _, _, _, _, _, _, _, _, _, _, _, _, _, _, _, _, _, by omega, by decide, by decide, by decide, by decide, by kernel_rfl, rfl, hF'⟩
            · have hf : fuel + 1 + 7 = 10 := by rw [ht] at hfu; exact hfu
              clear ht hfu
              obtain ⟨e29, -⟩ := hF.f1 (by decide)
              subst e29
              obtain ⟨e30, -⟩ := hF.fz rfl
              subst e30
              obtain ⟨e33, -⟩ := hF.fs rfl
              subst e33
              obtain ⟨e34, -⟩ := hF.f3 (by decide)
              subst e34
              obtain ⟨e36, -⟩ := hF.f4 (by decide)
              subst e36
              obtain ⟨e9, -⟩ := hF.fb rfl
              subst e9
              have sF := HKS.out _ hF.bel
              obtain ⟨-, b1, b2, b3⟩ := hF.fb rfl
              obtain ⟨y0, y1, y2⟩ := b2.cell
              have u0 := b2.frozen 0
              have u1 := b2.frozen 1
              have u2 := b2.frozen 2
              obtain rfl : fuel = 2 := by omega
              refine wpAnyH_take (i := 10) (v := .slice A5 n c5) rfl (by kernel_rfl) (by kernel_rfl) (by kernel_rfl) (fun _ _ _ h => by cases h.1) (Or.inl ⟨by first | rfl | kernel_rfl, fun _ hS => by go_simp⟩) sF ?_
              refine wpAnyH_take (i := 11) (v := .slice A8 (m + 1) c8) rfl (by kernel_rfl) (by kernel_rfl) (by kernel_rfl) (fun _ _ _ h => by cases h.1) (Or.inl ⟨by first | rfl | kernel_rfl, fun _ hS => by go_simp⟩) sF ?_
              try simp only [Act.put, List.setIfInBounds_toArray, List.set_cons_zero, List.set_cons_succ]
              refine wpAnyH_ready (rs := [12]) (by kernel_rfl) (by simp) ?_
              refine AllReadyH.cons rfl (fun K hK => ?_) AllReadyH.nil
              go_simp
              have hB' : Below w1.heap.size W (((W.setCell ⟨gb, 0, none⟩ (.int .i64 ops)).setCell ⟨gb, 1, none⟩ (.int .i64 room)).setCell ⟨gb, 2, none⟩ (.slice A6 kn c6)) := (((Below.refl _ _).setCell (p := ⟨gb, 0, none⟩) b1 _).setCell (p := ⟨gb, 1, none⟩) b1 _).setCell (p := ⟨gb, 2, none⟩) b1 _
              refine hK.out _ _ (HKS.out _ (hF.bel.trans hB')) (fun _ => ?_)
              clear hK K
              try simp only [List.setIfInBounds_toArray, List.set_cons_zero, List.set_cons_succ]
              refine wpAnyH_done (by kernel_rfl) ?_ _
              exact ⟨rfl, _, _, gb, _, _, _, _, _, _, _, _, _, _, rfl, hF.ends⟩
    · exact ⟨0, 0, false, false, false, 0, 0, none, none, none, none, 0, 0, 0, 0, 0, 0, 0, [], undef, undef, undef, undef, undef, undef, undef, by rfl, by rfl, by decide, by decide, by decide, by kernel_rfl, rfl, F3.start (Below.refl _ _).drew⟩

end Go.Proofs.Ytjacjafpeajhaaa
