/-
  Walks: a table gone over between two bounds: the iterator. Walks: what is handed out to go over a table between two bounds. Walks: a nil table gone over; how many entries, and between which keys. Walks: between which keys a table lies. A key looked for in a table: what stands while it is looked for, and behind it.
-/
import Derived.Test.YtmgggddnfeojmaaGreatJO17
set_option linter.unusedSimpArgs false
set_option linter.unusedVariables false
namespace Go.Proofs.YtmgggddnfeojmaaGreat
open Go.RowKit Go.Shelf
attribute [local go_sem] Oper.semAt_some
theorem sizeFour (w : World) (o p q : Obj) : (((w.alloc o).alloc p).alloc q).heap.size = w.heap.size + 3 := by simp only [World.size_alloc]
theorem three_new (w : World) (o p q : Obj) : ((((w.alloc o).alloc p).alloc q).heap[w.heap.size]? = some o ∧ (((w.alloc o).alloc p).alloc q).heap[w.heap.size + 1]? = some p ∧ (((w.alloc o).alloc p).alloc q).heap[w.heap.size + 2]? = some q) ∧ Below w.heap.size w (((w.alloc o).alloc p).alloc q) := by
  have h1 := below_new w o
  have h2 := below_new (w.alloc o) p
  have h3 := below_new ((w.alloc o).alloc p) q
  have s1 := World.size_alloc w o
  have s2 := World.size_alloc (w.alloc o) p
  refine ⟨⟨obj_kept (obj_kept (heap_alloc_new w o) h2 (Nat.le_refl _)) h3 (Nat.le_refl _), ?_, ?_⟩, (h1.trans (h2.mono (by omega))).trans (h3.mono (by omega))⟩
  · have := heap_alloc_new (w.alloc o) p
    rw [s1] at this
    exact obj_kept this h3 (Nat.le_refl _)
  · have := heap_alloc_new ((w.alloc o).alloc p) q
    rw [s2, s1] at this
    exact this
set_option maxRecDepth 100000 in
set_option maxHeartbeats 16000000 in
theorem entries_iter (N l : Nat) (t : Tm) (lo hi : Sl) (bt bl bh B : Nat) (stop : Nat → Bool) (K Kx : Nat → World → Prop) (Cl : World → Nat → Prop) (hG : Goer t lo hi bt bl bh B N l stop K Kx Cl) (hrl : t.R.length ≤ 2305843009213693952) (w : World) (h0 : Both t K Cl 0 w) (hB : B ≤ w.heap.size) (hbh : bh < w.heap.size) :
    CallsIn Fence.wide (N + 3) Tryz.prog 52 (#[.func (.yield l) #[] #[]] ++ #[.pointer (some ⟨bt, 0, none⟩), .pointer (some ⟨bl, 0, none⟩), .pointer (some ⟨bh, 0, none⟩)]) w fun e W' => (∃ v, e = .returned v) ∧ EPost t lo hi stop K Kx Cl W' := by
  refine callsIn_of_wp_marks Tryz.func52 rfl trivial ?_ rfl
  simp only [Tryz.ntmps52, List.size_toArray, List.length_cons, List.length_nil, Nat.reduceAdd, Nat.reduceSub, Array.replicate_succ, Array.replicate_zero, List.push_toArray, List.append_toArray, List.nil_append, List.cons_append]
  have HG := Lib.hid hG
  have HH := Lib.hid h0
  have HB := Lib.hid hB
  have HBH := Lib.hid hbh
  have HRL := Lib.hid hrl
  obtain ⟨b1, ⟨b2, -⟩, -, -⟩ := hG.box 0 w h0.1
  unfold Sl.val at b2
  obtain ⟨ln, hln⟩ : ∃ q, lo.l.length = q := ⟨_, rfl⟩
  rw [hln] at b2
  have c1 := cell_below b1 (below_new w (.cells #[.func (.yield l) #[] #[]] 112))
  have c2 := cell_below b2 (below_new w (.cells #[.func (.yield l) #[] #[]] 112))
  clear hG h0 hB hbh hrl b1 b2
  gi_wp2_with (refine ⟨trivial, ?_⟩; gi_at_call 44; refine (callsIn_wide.2 (from_any _ _ _ _ _ _ _ _ _ _)).mono ?_; rintro e w' ⟨rfl, rfl⟩)
  clear c1 c2
  have N3 := three_new w (.cells #[.func (.yield l) #[] #[]] 112) (.cells #[.pointer (some ⟨t.b, 0, none⟩)] 37) (.cells #[.slice lo.a ln lo.c, .int .i64 9223372036854775807, .bool false, .slice none 0 0] 48)
  obtain ⟨W0, hW0⟩ : ∃ W0, (((w.alloc (.cells #[.func (.yield l) #[] #[]] 112)).alloc (.cells #[.pointer (some ⟨t.b, 0, none⟩)] 37)).alloc (.cells #[.slice lo.a ln lo.c, .int .i64 9223372036854775807, .bool false, .slice none 0 0] 48)) = W0 := ⟨_, rfl⟩
  have hs : W0.heap.size = w.heap.size + 3 := by rw [← hW0]; exact sizeFour w _ _ _
  rw [hW0] at N3 ⊢
  clear hW0
  obtain ⟨b, hb⟩ : ∃ b, w.heap.size = b := ⟨_, rfl⟩
  have HB' : Hid (B ≤ b ∧ bh < b) := Lib.hid (hb ▸ ⟨HB.out, HBH.out⟩)
  have HK0 : Hid (Both t K Cl 0 W0 ∧ ∀ g, Cl W0 g → Cl w g) := Lib.hid ⟨⟨(HG.out.stay 0 w W0 HH.out.1 HH.out.2.at_.mapAt (Tw.of_below N3.2)).1, (HH.out.2.kept N3.2).less (HG.out.stay 0 w W0 HH.out.1 HH.out.2.at_.mapAt (Tw.of_below N3.2)).2⟩, (HG.out.stay 0 w W0 HH.out.1 HH.out.2.at_.mapAt (Tw.of_below N3.2)).2⟩
  have HOW := Lib.hid (HG.out.own 0 w HH.out.1).1
  have HMT : Hid (t.mb < b) := Lib.hid (by obtain ⟨es, ck, hm⟩ := HH.out.2.at_.mapAt; exact hb ▸ (Array.getElem?_eq_some_iff.1 hm).1)
  rw [hb] at N3 hs HOW ⊢
  rw [show b + 1 + 1 = b + 2 from rfl]
  have N3' : Hid _ := Lib.hid N3
  clear N3
  have HKN : Hid (Kn t lo l b bh K Cl 0 W0) := Lib.hid ⟨HK0.out.1.1, N3'.out.1.1, N3'.out.1.2.1, by rw [N3'.out.1.2.2, ← hln]; rfl, fun g g1 g2 q => by have := HOW.out g (HK0.out.2 g q); omega, HMT.out, HB'.out.2⟩
  have HI0 : Hid (IE t lo hi l b bh K Cl (0, W0) W0) := Lib.hid (by
    have hm : ¬ ClI Cl b W0 t.mb := fun q => q.elim (HG.out.own 0 W0 HK0.out.1.1).2.1 (fun q => by have := HMT.out; omega)
    have hT := HK0.out.1.2
    refine ⟨HKN.out, fun i hi => by simp at hi, Fr.refl _ _, ?_, hm⟩
    obtain ⟨q1, es, ck, q2, q3⟩ := hT
    have hx : ∀ U, AgX (ClI Cl b W0) t.mb W0 U → AgX (Cl W0) t.mb W0 U := fun U hU => hU.less (fun g hg q => q.elim id (fun q => by omega))
    exact ⟨fun V hV => q1 V (hx V hV), es, ck, q2, q3.less hx⟩)
  have hG' := HG.out
  have hB' := HB'.out.1
  have hOI := hG'.ie_own hB'
  have hOX := hG'.xe_own hB'
  rw [← hs] at hOI hOX
  have HRL' := Lib.hid HRL.out
  clear HKN HK0 HOW N3' HMT HH HB HBH hb hln
  refine range_toldK (σ := Nat × World) (gf := 70) (lb := #[.pointer (some ⟨b + 1, 0, none⟩), .pointer (some ⟨b + 2, 0, none⟩)]) rfl (enters_of Tryz.func70 (by kernel_rfl) rfl)
    (IE t lo hi l b bh K Cl) (XE t lo hi b K Kx Cl) (fun _ => .ret) hOI hOX (OnE t lo hi stop) (OffE t lo hi stop) (0, W0) HI0.out
    (fun s => s.1 = (goP t.tb (toE lo).rd).1.length ∧ (goP t.tb (toE lo).rd).2 = false ∧ ∀ i, i < (goP t.tb (toE lo).rd).1.length → stopI (goP t.tb (toE lo).rd).1 hi.l stop i = false)
    (fun s => LeftAt (goP t.tb (toE lo).rd) (stopI (goP t.tb (toE lo).rd).1 hi.l stop) s.1) ?size ?on ?off ?iter ?done ?left
  case size =>
    rintro s args s' W (⟨-, y, rfl, -⟩ | ⟨-, (⟨y, rfl, -⟩ | ⟨rfl, -⟩)⟩) <;> rfl
  case iter =>
    intro R R' hR hRs hyes hno hR' hRs' W hi hr
    rw [hs] at hR hRs hyes hno ⊢
    have hA := hG'.asks (M := N + 1) R R' hR hRs hyes hno
    refine (from_iter (N + 1) (b + 3 + 1) (b + 1) (b + 2) t (toE lo) _ _ _ _ hA HRL'.out W ⟨⟨⟨hi.1, hi.2.1⟩, hr⟩, hi.2.2.2.1⟩).mono ?_
    rintro e W' ⟨hv, hq, hT⟩
    refine ⟨hv, ?_⟩
    rcases hq with ⟨q1, q2, ⟨q3, q4⟩, q5⟩ | ⟨s, q1, V, q2, q3⟩
    · exact .inl ⟨(_, W'), ⟨rfl, q1, q2⟩, ⟨q3, q4, Fr.refl _ _, hT, fun q => q.elim (hG'.own _ W' q3.k).2.1 (fun q => by have := q3.mb.1; omega)⟩, q5⟩
    · exact .inr ⟨(s, V), q1, q2, q3⟩
  case done =>
    rintro s W ⟨d1, d2, d3⟩ hi hK
    have hp := (hOI.putObj (.deferred none) hi (.inl rfl) hK rfl).post (Kx := Kx) (stop := stop) d1 d2 d3
    rw [hs] at hK hp ⊢
    have HP := Lib.hid hp
    have HKK := Lib.hid hK
    clear hp hK hi d1 d2 d3 hOI hOX hG'
    gi_wp2
    refine ⟨by simp, .inl ⟨_, _, rfl, run_takeDeferred HKK.out, ?_⟩⟩
    exact ⟨_, results_none rfl _ _ _, ⟨_, rfl⟩, HP.out⟩
  case left =>
    rintro s W hl hi hK
    have hp := (hOX.putObj (.deferred none) hi (.inl rfl) hK rfl).post (stop := stop) hl
    rw [hs] at hK hp ⊢
    have HP := Lib.hid hp
    have HKK := Lib.hid hK
    clear hp hK hi hl hOI hOX hG'
    gi_wp2
    refine ⟨by simp, .inl ⟨_, _, rfl, run_takeDeferred HKK.out, ?_⟩⟩
    exact ⟨_, results_none rfl _ _ _, ⟨_, rfl⟩, HP.out⟩
  case on =>
    rintro ⟨j, V⟩ args s' W ⟨rfl, y, rfl, hM, hu, hst, hE, hF⟩ ⟨hk, hund, hfr, hT, hmb⟩ hsz
    rw [hs] at hsz
    simp only at hk hund hfr hM hst
    obtain ⟨yn, hyn⟩ : ∃ q, y.k.l.length = q := ⟨_, rfl⟩
    obtain ⟨vn, hvn⟩ : ∃ q, y.v.l.length = q := ⟨_, rfl⟩
    rw [En.val_eq, hyn, hvn]
    unfold RoundOf
    rw [hs]
    gi_wp2
    refine ⟨Two.below ((Below.refl (b + 5) W).alloc hsz _) (by omega), fun W₂ g2 hl => ?_⟩
    obtain ⟨⟨kn2, f2⟩, c2, z2, m2, e2⟩ := hG'.round hB' hk hT hsz g2 hl
    have y2 : EIn W₂ y := (hE.kept (below_new W _)).abide g2 (fun r e => by injection e with e; subst e; exact hl)
    clear g2 hl
    obtain ⟨E, hEE⟩ : ∃ E, W.heap.size = E := ⟨_, rfl⟩
    rw [hEE] at c2 e2 ⊢
    clear hEE
    obtain ⟨hn, hhn⟩ : ∃ q, hi.l.length = q := ⟨_, rfl⟩
    have HGD := Lib.hid (goP_good hM)
    have HD : Hid (∀ W', Below W₂.heap.size W₂ W' → Kn t lo l b bh K Cl j W' ∧ Fr Cl W₂ W') := Lib.hid (fun W' hb => hG'.down kn2 m2 hb)
    have HR : Hid (∀ W', Fr Cl W₂ W' → RdS E bh b W₂ W') := Lib.hid (fun W' hf => hG'.rds kn2 hf e2 c2)
    have HC : Hid (∀ W', RdS E bh b W₂ W' → (W'.cell? ⟨E, 0, none⟩ = some (.slice y.k.a yn y.k.c) ∧ W'.cell? ⟨E, 1, none⟩ = some (.int .i64 y.s) ∧ W'.cell? ⟨E, 2, none⟩ = some (.bool y.d) ∧ W'.cell? ⟨E, 3, none⟩ = some (.slice y.v.a vn y.v.c)) ∧ W'.cell? ⟨bh, 0, none⟩ = some (.slice hi.a hn hi.c) ∧ W'.cell? ⟨b, 0, none⟩ = some (.func (.yield l) #[] #[])) := Lib.hid (fun W' hs' => by
      have := hG'.cells kn2 e2 hs'
      rw [show hi.val = .slice hi.a hi.l.length hi.c from rfl, hhn] at this
      simpa only [Sl.val, hyn, hvn] using this)
    have B0 : Hid (Below W₂.heap.size W₂ W₂.drew) := Lib.hid (Below.refl _ _).drew
    have s0 : Hid (RdS E bh b W₂ W₂.drew) := Lib.hid (HR.out _ (HD.out _ B0.out).2)
    have HBL := Lib.hid (below_any y.k.a hi.a y.k.l hi.l yn hn y.k.c hi.c W₂.drew (hyn ▸ (y2.kept B0.out).1) (hhn ▸ (hG'.box j W₂.drew (HD.out _ B0.out).1.k).2.2.2))
    have HU : Hid ((decide (hi.l = []) || decide (cmpL y.k.l hi.l < 0)) = true) := Lib.hid hu
    rw [HU.out] at HBL
    have HCL := Lib.hid (eclone_any y W₂.drew (y2.kept B0.out) (by have := HGD.out.1.2; unfold En.rd at this; simp only at this; omega) (by have := HGD.out.2.2.1; unfold En.rd at this; simp only at this; omega))
    rw [En.val_eq, hyn, hvn] at HCL
    have HF := Lib.hid f2
    have HK := Lib.hid kn2
    have HZ := Lib.hid z2
    have HC2 := Lib.hid c2
    have HT := Lib.hid hT
    have HMB := Lib.hid hmb
    have HUN := Lib.hid hund
    have HMM := Lib.hid hM
    have HE5 := Lib.hid hF
    have HYU := Lib.hid hu
    have HST := Lib.hid hst
    clear f2 kn2 z2 c2 hT hmb hund hM hF hu hst y2 e2 m2 hk hE hyn hvn hhn hsz hfr
    gi_wp2
    refine anyJ_start (RdS E bh b W₂) (by kernel_rfl) ?_
    refine anyJ_take (i := 0) (v := .pointer (some ⟨E, 0, none⟩)) rfl (by kernel_rfl) (by kernel_rfl) (by kernel_rfl) (by kernel_rfl) (fun _ _ _ h => h) (Or.inl ⟨by first | kernel_rfl | rfl, fun _ hS => by go_simp⟩) s0.out ?_
    try simp only [Act.put, List.getElem_toArray, List.getElem_cons_zero, List.getElem_cons_succ, List.setIfInBounds_toArray, List.set_cons_zero, List.set_cons_succ]
    refine anyJ_take (i := 1) (v := .slice y.k.a yn y.k.c) rfl (by kernel_rfl) (by kernel_rfl) (by kernel_rfl) (by kernel_rfl) (fun _ _ _ h => h) (Or.inl ⟨by first | kernel_rfl | rfl, fun _ hS => by obtain ⟨⟨k0, k1, k2, k3⟩, k4, k5⟩ := HC.out _ hS; go_simp⟩) s0.out ?_
    try simp only [Act.put, List.getElem_toArray, List.getElem_cons_zero, List.getElem_cons_succ, List.setIfInBounds_toArray, List.set_cons_zero, List.set_cons_succ]
    refine anyJ_take (i := 2) (v := .slice hi.a hn hi.c) rfl (by kernel_rfl) (by kernel_rfl) (by kernel_rfl) (by kernel_rfl) (fun _ _ _ h => h) (Or.inl ⟨by first | kernel_rfl | rfl, fun _ hS => by obtain ⟨⟨k0, k1, k2, k3⟩, k4, k5⟩ := HC.out _ hS; go_simp⟩) s0.out ?_
    try simp only [Act.put, List.getElem_toArray, List.getElem_cons_zero, List.getElem_cons_succ, List.setIfInBounds_toArray, List.set_cons_zero, List.set_cons_succ]
    refine anyJ_one (i := 3) (fun ⟨_, _, h⟩ => h) (by kernel_rfl) (by kernel_rfl) rfl (by first | kernel_rfl | rfl) (fun K hK => ?_)
    go_simp
    go_at_call 53
    refine HBL.out.mono ?_
    rintro e w' ⟨rfl, rfl⟩
    refine hK.out _ _ s0.out ?_
    clear hK K
    try simp only [Act.put, List.getElem_toArray, List.getElem_cons_zero, List.getElem_cons_succ, List.setIfInBounds_toArray, List.set_cons_zero, List.set_cons_succ]
    refine anyJ_take (i := 4) (v := .bool false) rfl (by kernel_rfl) (by kernel_rfl) (by kernel_rfl) (by kernel_rfl) (fun _ _ _ h => h) (Or.inl ⟨by first | kernel_rfl | rfl, fun _ hS => by go_simp⟩) s0.out ?_
    try simp only [Act.put, List.getElem_toArray, List.getElem_cons_zero, List.getElem_cons_succ, List.setIfInBounds_toArray, List.set_cons_zero, List.set_cons_succ]
    refine anyJ_take (i := 5) (v := .bool false) rfl (by kernel_rfl) (by kernel_rfl) (by kernel_rfl) (by kernel_rfl) (fun _ _ _ h => h) (Or.inl ⟨by first | kernel_rfl | rfl, fun _ hS => by go_simp⟩) s0.out ?_
    try simp only [Act.put, List.getElem_toArray, List.getElem_cons_zero, List.getElem_cons_succ, List.setIfInBounds_toArray, List.set_cons_zero, List.set_cons_succ]
    refine anyJ_take (i := 6) (v := .func (.yield l) #[] #[]) rfl (by kernel_rfl) (by kernel_rfl) (by kernel_rfl) (by kernel_rfl) (fun _ _ _ h => h) (Or.inl ⟨by first | kernel_rfl | rfl, fun _ hS => by obtain ⟨⟨k0, k1, k2, k3⟩, k4, k5⟩ := HC.out _ hS; go_simp⟩) s0.out ?_
    try simp only [Act.put, List.getElem_toArray, List.getElem_cons_zero, List.getElem_cons_succ, List.setIfInBounds_toArray, List.set_cons_zero, List.set_cons_succ]
    refine anyJ_take (i := 7) (v := .agg #[.slice y.k.a yn y.k.c, .int .i64 y.s, .bool y.d, .slice y.v.a vn y.v.c]) rfl (by kernel_rfl) (by kernel_rfl) (by kernel_rfl) (by kernel_rfl) (fun _ _ _ h => h) (Or.inl ⟨by first | kernel_rfl | rfl, fun _ hS => by obtain ⟨⟨k0, k1, k2, k3⟩, k4, k5⟩ := HC.out _ hS; go_simp⟩) s0.out ?_
    try simp only [Act.put, List.getElem_toArray, List.getElem_cons_zero, List.getElem_cons_succ, List.setIfInBounds_toArray, List.set_cons_zero, List.set_cons_succ]
    refine anyJ_one (i := 8) (fun ⟨_, _, h⟩ => h) (by kernel_rfl) (by kernel_rfl) rfl (by first | kernel_rfl | rfl) (fun K hK => ?_)
    go_simp
    go_at_call 46
    refine HCL.out.mono ?_
    rintro e W3 ⟨y', hrd, rfl, r1, r2, b3⟩
    have B3 : Hid (Below W₂.heap.size W₂ W3) := Lib.hid (B0.out.trans (b3.mono B0.out.size))
    have D3 := Lib.hid (HD.out _ B3.out)
    have s3 : Hid (RdS E bh b W₂ W3) := Lib.hid (HR.out _ D3.out.2)
    have HYG := Lib.hid (goer_get HUN.out HMM.out HYU.out hrd)
    have HY := Lib.hid (hG'.yes j W₂.drew W3 y' HYG.out HST.out (HD.out _ B0.out).1.k b3 D3.out.1.k r1 r2 (fit_of HE5.out hrd))
    clear b3 r1 r2 hrd
    refine hK.out _ _ s3.out ?_
    clear hK K
    try simp only [Act.put, List.getElem_toArray, List.getElem_cons_zero, List.getElem_cons_succ, List.setIfInBounds_toArray, List.set_cons_zero, List.set_cons_succ]
    refine anyJ_yield (i := 9) (N := N) (L := l) (args := #[y'.val, .int .i64 0]) (by kernel_rfl) (by kernel_rfl) rfl (by first | kernel_rfl | rfl) HY.out (by go_simp) ?_
    rintro e W5 ⟨rfl, k5, f5⟩
    have K5 := Lib.hid k5
    have F5 := Lib.hid f5
    have s5 : Hid (RdS E bh b W₂ W5) := Lib.hid (HR.out _ ((HD.out _ B0.out).2.trans f5))
    refine ⟨_, rfl, s5.out, ?_⟩
    clear k5 f5 HY
    try simp only [Act.put, List.getElem_toArray, List.getElem_cons_zero, List.getElem_cons_succ, List.setIfInBounds_toArray, List.set_cons_zero, List.set_cons_succ]
    refine anyJ_take (i := 10) (v := .bool false) rfl (by kernel_rfl) (by kernel_rfl) (by kernel_rfl) (by kernel_rfl) (fun _ _ _ h => h) (Or.inl ⟨by first | kernel_rfl | rfl, fun _ hS => by go_simp⟩) s5.out ?_
    try simp only [Act.put, List.getElem_toArray, List.getElem_cons_zero, List.getElem_cons_succ, List.setIfInBounds_toArray, List.set_cons_zero, List.set_cons_succ]
    refine anyJ_take (i := 11) (v := .bool false) rfl (by kernel_rfl) (by kernel_rfl) (by kernel_rfl) (by kernel_rfl) (fun _ _ _ h => h) (Or.inl ⟨by first | kernel_rfl | rfl, fun _ hS => by go_simp⟩) s5.out ?_
    try simp only [Act.put, List.getElem_toArray, List.getElem_cons_zero, List.getElem_cons_succ, List.setIfInBounds_toArray, List.set_cons_zero, List.set_cons_succ]
    refine anyJ_done (by kernel_rfl) ?_ _
    try simp only [Act.put, List.getElem_toArray, List.getElem_cons_zero, List.getElem_cons_succ, List.setIfInBounds_toArray, List.set_cons_zero, List.set_cons_succ]
    gi_wp2
    obtain ⟨q1, q2, q3, q4⟩ := HK.out.fin HZ.out HF.out (HD.out _ B0.out).2 F5.out HT.out HMB.out
    exact ⟨q1, (HD.out _ B0.out).1.fr HZ.out F5.out K5.out, HUN.out.next HMM.out HYU.out, q2, q3, q4⟩
  case off =>
    rintro ⟨j, V⟩ args s' W ⟨rfl, ho⟩ ⟨hk, hund, hfr, hT, hmb⟩ hsz
    rw [hs] at hsz
    simp only at hk hund hfr ho
    rcases ho with ⟨y, rfl, hM, hE, hF, (hu | ⟨hu, hst⟩)⟩ | ⟨rfl, hM, hu⟩
    · skip
      obtain ⟨yn, hyn⟩ : ∃ q, y.k.l.length = q := ⟨_, rfl⟩
      obtain ⟨vn, hvn⟩ : ∃ q, y.v.l.length = q := ⟨_, rfl⟩
      rw [En.val_eq, hyn, hvn]
      unfold RoundOf
      rw [hs]
      gi_wp2
      refine ⟨Two.below ((Below.refl (b + 5) W).alloc hsz _) (by omega), fun W₂ g2 hl => ?_⟩
      obtain ⟨⟨kn2, f2⟩, c2, z2, m2, e2⟩ := hG'.round hB' hk hT hsz g2 hl
      have y2 : EIn W₂ y := (hE.kept (below_new W _)).abide g2 (fun r e => by injection e with e; subst e; exact hl)
      clear g2 hl
      obtain ⟨E, hEE⟩ : ∃ E, W.heap.size = E := ⟨_, rfl⟩
      rw [hEE] at c2 e2 ⊢
      clear hEE
      obtain ⟨hn, hhn⟩ : ∃ q, hi.l.length = q := ⟨_, rfl⟩
      have HGD := Lib.hid (goP_good hM)
      have HD : Hid (∀ W', Below W₂.heap.size W₂ W' → Kn t lo l b bh K Cl j W' ∧ Fr Cl W₂ W') := Lib.hid (fun W' hb => hG'.down kn2 m2 hb)
      have HR : Hid (∀ W', Fr Cl W₂ W' → RdS E bh b W₂ W') := Lib.hid (fun W' hf => hG'.rds kn2 hf e2 c2)
      have HC : Hid (∀ W', RdS E bh b W₂ W' → (W'.cell? ⟨E, 0, none⟩ = some (.slice y.k.a yn y.k.c) ∧ W'.cell? ⟨E, 1, none⟩ = some (.int .i64 y.s) ∧ W'.cell? ⟨E, 2, none⟩ = some (.bool y.d) ∧ W'.cell? ⟨E, 3, none⟩ = some (.slice y.v.a vn y.v.c)) ∧ W'.cell? ⟨bh, 0, none⟩ = some (.slice hi.a hn hi.c) ∧ W'.cell? ⟨b, 0, none⟩ = some (.func (.yield l) #[] #[])) := Lib.hid (fun W' hs' => by
        have := hG'.cells kn2 e2 hs'
        rw [show hi.val = .slice hi.a hi.l.length hi.c from rfl, hhn] at this
        simpa only [Sl.val, hyn, hvn] using this)
      have B0 : Hid (Below W₂.heap.size W₂ W₂.drew) := Lib.hid (Below.refl _ _).drew
      have s0 : Hid (RdS E bh b W₂ W₂.drew) := Lib.hid (HR.out _ (HD.out _ B0.out).2)
      have HBL := Lib.hid (below_any y.k.a hi.a y.k.l hi.l yn hn y.k.c hi.c W₂.drew (hyn ▸ (y2.kept B0.out).1) (hhn ▸ (hG'.box j W₂.drew (HD.out _ B0.out).1.k).2.2.2))
      have HU : Hid ((decide (hi.l = []) || decide (cmpL y.k.l hi.l < 0)) = false) := Lib.hid hu
      rw [HU.out] at HBL
      have HCL := Lib.hid (eclone_any y W₂.drew (y2.kept B0.out) (by have := HGD.out.1.2; unfold En.rd at this; simp only at this; omega) (by have := HGD.out.2.2.1; unfold En.rd at this; simp only at this; omega))
      rw [En.val_eq, hyn, hvn] at HCL
      have HF := Lib.hid f2
      have HK := Lib.hid kn2
      have HZ := Lib.hid z2
      have HC2 := Lib.hid c2
      have HT := Lib.hid hT
      have HMB := Lib.hid hmb
      have HUN := Lib.hid hund
      have HMM := Lib.hid hM
      have HE5 := Lib.hid hF
      have HYU := Lib.hid hu
      clear f2 kn2 z2 c2 hT hmb hund hM hF hu y2 e2 m2 hk hE hyn hvn hhn hsz hfr
      gi_wp2
      refine anyJ_start (RdS E bh b W₂) (by kernel_rfl) ?_
      refine anyJ_take (i := 0) (v := .pointer (some ⟨E, 0, none⟩)) rfl (by kernel_rfl) (by kernel_rfl) (by kernel_rfl) (by kernel_rfl) (fun _ _ _ h => h) (Or.inl ⟨by first | kernel_rfl | rfl, fun _ hS => by go_simp⟩) s0.out ?_
      try simp only [Act.put, List.getElem_toArray, List.getElem_cons_zero, List.getElem_cons_succ, List.setIfInBounds_toArray, List.set_cons_zero, List.set_cons_succ]
      refine anyJ_take (i := 1) (v := .slice y.k.a yn y.k.c) rfl (by kernel_rfl) (by kernel_rfl) (by kernel_rfl) (by kernel_rfl) (fun _ _ _ h => h) (Or.inl ⟨by first | kernel_rfl | rfl, fun _ hS => by obtain ⟨⟨k0, k1, k2, k3⟩, k4, k5⟩ := HC.out _ hS; go_simp⟩) s0.out ?_
      try simp only [Act.put, List.getElem_toArray, List.getElem_cons_zero, List.getElem_cons_succ, List.setIfInBounds_toArray, List.set_cons_zero, List.set_cons_succ]
      refine anyJ_take (i := 2) (v := .slice hi.a hn hi.c) rfl (by kernel_rfl) (by kernel_rfl) (by kernel_rfl) (by kernel_rfl) (fun _ _ _ h => h) (Or.inl ⟨by first | kernel_rfl | rfl, fun _ hS => by obtain ⟨⟨k0, k1, k2, k3⟩, k4, k5⟩ := HC.out _ hS; go_simp⟩) s0.out ?_
      try simp only [Act.put, List.getElem_toArray, List.getElem_cons_zero, List.getElem_cons_succ, List.setIfInBounds_toArray, List.set_cons_zero, List.set_cons_succ]
      refine anyJ_one (i := 3) (fun ⟨_, _, h⟩ => h) (by kernel_rfl) (by kernel_rfl) rfl (by first | kernel_rfl | rfl) (fun K hK => ?_)
      go_simp
      go_at_call 53
      refine HBL.out.mono ?_
      rintro e w' ⟨rfl, rfl⟩
      refine hK.out _ _ s0.out ?_
      clear hK K
      try simp only [Act.put, List.getElem_toArray, List.getElem_cons_zero, List.getElem_cons_succ, List.setIfInBounds_toArray, List.set_cons_zero, List.set_cons_succ]
      refine anyJ_take (i := 4) (v := .bool true) rfl (by kernel_rfl) (by kernel_rfl) (by kernel_rfl) (by kernel_rfl) (fun _ _ _ h => h) (Or.inl ⟨by first | kernel_rfl | rfl, fun _ hS => by go_simp⟩) s0.out ?_
      try simp only [Act.put, List.getElem_toArray, List.getElem_cons_zero, List.getElem_cons_succ, List.setIfInBounds_toArray, List.set_cons_zero, List.set_cons_succ]
      refine anyJ_take (i := 5) (v := .bool true) rfl (by kernel_rfl) (by kernel_rfl) (by kernel_rfl) (by kernel_rfl) (fun _ _ _ h => h) (Or.inl ⟨by first | kernel_rfl | rfl, fun _ hS => by go_simp⟩) s0.out ?_
      try simp only [Act.put, List.getElem_toArray, List.getElem_cons_zero, List.getElem_cons_succ, List.setIfInBounds_toArray, List.set_cons_zero, List.set_cons_succ]
      refine anyJ_take (i := 6) (v := undef) rfl (by kernel_rfl) (by kernel_rfl) (by kernel_rfl) (by kernel_rfl) (fun _ _ _ h => h) (Or.inr ⟨by first | kernel_rfl | rfl, rfl⟩) s0.out ?_
      try simp only [Act.put, List.getElem_toArray, List.getElem_cons_zero, List.getElem_cons_succ, List.setIfInBounds_toArray, List.set_cons_zero, List.set_cons_succ]
      refine anyJ_take (i := 7) (v := undef) rfl (by kernel_rfl) (by kernel_rfl) (by kernel_rfl) (by kernel_rfl) (fun _ _ _ h => h) (Or.inr ⟨by first | kernel_rfl | rfl, rfl⟩) s0.out ?_
      try simp only [Act.put, List.getElem_toArray, List.getElem_cons_zero, List.getElem_cons_succ, List.setIfInBounds_toArray, List.set_cons_zero, List.set_cons_succ]
      refine anyJ_take (i := 8) (v := undef) rfl (by kernel_rfl) (by kernel_rfl) (by kernel_rfl) (by kernel_rfl) (fun _ _ _ h => h) (Or.inr ⟨by first | kernel_rfl | rfl, rfl⟩) s0.out ?_
      try simp only [Act.put, List.getElem_toArray, List.getElem_cons_zero, List.getElem_cons_succ, List.setIfInBounds_toArray, List.set_cons_zero, List.set_cons_succ]
      refine anyJ_take (i := 9) (v := undef) rfl (by kernel_rfl) (by kernel_rfl) (by kernel_rfl) (by kernel_rfl) (fun _ _ _ h => h) (Or.inr ⟨by first | kernel_rfl | rfl, rfl⟩) s0.out ?_
      try simp only [Act.put, List.getElem_toArray, List.getElem_cons_zero, List.getElem_cons_succ, List.setIfInBounds_toArray, List.set_cons_zero, List.set_cons_succ]
      refine anyJ_take (i := 10) (v := undef) rfl (by kernel_rfl) (by kernel_rfl) (by kernel_rfl) (by kernel_rfl) (fun _ _ _ h => h) (Or.inr ⟨by first | kernel_rfl | rfl, rfl⟩) s0.out ?_
      try simp only [Act.put, List.getElem_toArray, List.getElem_cons_zero, List.getElem_cons_succ, List.setIfInBounds_toArray, List.set_cons_zero, List.set_cons_succ]
      refine anyJ_take (i := 11) (v := .bool true) rfl (by kernel_rfl) (by kernel_rfl) (by kernel_rfl) (by kernel_rfl) (fun _ _ _ h => h) (Or.inl ⟨by first | kernel_rfl | rfl, fun _ hS => by go_simp⟩) s0.out ?_
      try simp only [Act.put, List.getElem_toArray, List.getElem_cons_zero, List.getElem_cons_succ, List.setIfInBounds_toArray, List.set_cons_zero, List.set_cons_succ]
      refine anyJ_done (by kernel_rfl) ?_ _
      try simp only [Act.put, List.getElem_toArray, List.getElem_cons_zero, List.getElem_cons_succ, List.setIfInBounds_toArray, List.set_cons_zero, List.set_cons_succ]
      gi_wp2
      obtain ⟨q1, q2, q3, q4⟩ := HK.out.fin HZ.out HF.out (HD.out _ B0.out).2 (Fr.refl _ _) HT.out HMB.out
      exact ⟨rfl, q1, ⟨HUN.out, .inl ⟨_, HMM.out, HYU.out, (HD.out _ B0.out).1.k⟩⟩, q2, q3, q4⟩
    · skip
      obtain ⟨yn, hyn⟩ : ∃ q, y.k.l.length = q := ⟨_, rfl⟩
      obtain ⟨vn, hvn⟩ : ∃ q, y.v.l.length = q := ⟨_, rfl⟩
      rw [En.val_eq, hyn, hvn]
      unfold RoundOf
      rw [hs]
      gi_wp2
      refine ⟨Two.below ((Below.refl (b + 5) W).alloc hsz _) (by omega), fun W₂ g2 hl => ?_⟩
      obtain ⟨⟨kn2, f2⟩, c2, z2, m2, e2⟩ := hG'.round hB' hk hT hsz g2 hl
      have y2 : EIn W₂ y := (hE.kept (below_new W _)).abide g2 (fun r e => by injection e with e; subst e; exact hl)
      clear g2 hl
      obtain ⟨E, hEE⟩ : ∃ E, W.heap.size = E := ⟨_, rfl⟩
      rw [hEE] at c2 e2 ⊢
      clear hEE
      obtain ⟨hn, hhn⟩ : ∃ q, hi.l.length = q := ⟨_, rfl⟩
      have HGD := Lib.hid (goP_good hM)
      have HD : Hid (∀ W', Below W₂.heap.size W₂ W' → Kn t lo l b bh K Cl j W' ∧ Fr Cl W₂ W') := Lib.hid (fun W' hb => hG'.down kn2 m2 hb)
      have HR : Hid (∀ W', Fr Cl W₂ W' → RdS E bh b W₂ W') := Lib.hid (fun W' hf => hG'.rds kn2 hf e2 c2)
      have HC : Hid (∀ W', RdS E bh b W₂ W' → (W'.cell? ⟨E, 0, none⟩ = some (.slice y.k.a yn y.k.c) ∧ W'.cell? ⟨E, 1, none⟩ = some (.int .i64 y.s) ∧ W'.cell? ⟨E, 2, none⟩ = some (.bool y.d) ∧ W'.cell? ⟨E, 3, none⟩ = some (.slice y.v.a vn y.v.c)) ∧ W'.cell? ⟨bh, 0, none⟩ = some (.slice hi.a hn hi.c) ∧ W'.cell? ⟨b, 0, none⟩ = some (.func (.yield l) #[] #[])) := Lib.hid (fun W' hs' => by
        have := hG'.cells kn2 e2 hs'
        rw [show hi.val = .slice hi.a hi.l.length hi.c from rfl, hhn] at this
        simpa only [Sl.val, hyn, hvn] using this)
      have B0 : Hid (Below W₂.heap.size W₂ W₂.drew) := Lib.hid (Below.refl _ _).drew
      have s0 : Hid (RdS E bh b W₂ W₂.drew) := Lib.hid (HR.out _ (HD.out _ B0.out).2)
      have HBL := Lib.hid (below_any y.k.a hi.a y.k.l hi.l yn hn y.k.c hi.c W₂.drew (hyn ▸ (y2.kept B0.out).1) (hhn ▸ (hG'.box j W₂.drew (HD.out _ B0.out).1.k).2.2.2))
      have HU : Hid ((decide (hi.l = []) || decide (cmpL y.k.l hi.l < 0)) = true) := Lib.hid hu
      rw [HU.out] at HBL
      have HCL := Lib.hid (eclone_any y W₂.drew (y2.kept B0.out) (by have := HGD.out.1.2; unfold En.rd at this; simp only at this; omega) (by have := HGD.out.2.2.1; unfold En.rd at this; simp only at this; omega))
      rw [En.val_eq, hyn, hvn] at HCL
      have HF := Lib.hid f2
      have HK := Lib.hid kn2
      have HZ := Lib.hid z2
      have HC2 := Lib.hid c2
      have HT := Lib.hid hT
      have HMB := Lib.hid hmb
      have HUN := Lib.hid hund
      have HMM := Lib.hid hM
      have HE5 := Lib.hid hF
      have HYU := Lib.hid hu
      have HST := Lib.hid hst
      clear f2 kn2 z2 c2 hT hmb hund hM hF hu hst y2 e2 m2 hk hE hyn hvn hhn hsz hfr
      gi_wp2
      refine anyJ_start (RdS E bh b W₂) (by kernel_rfl) ?_
      refine anyJ_take (i := 0) (v := .pointer (some ⟨E, 0, none⟩)) rfl (by kernel_rfl) (by kernel_rfl) (by kernel_rfl) (by kernel_rfl) (fun _ _ _ h => h) (Or.inl ⟨by first | kernel_rfl | rfl, fun _ hS => by go_simp⟩) s0.out ?_
      try simp only [Act.put, List.getElem_toArray, List.getElem_cons_zero, List.getElem_cons_succ, List.setIfInBounds_toArray, List.set_cons_zero, List.set_cons_succ]
      refine anyJ_take (i := 1) (v := .slice y.k.a yn y.k.c) rfl (by kernel_rfl) (by kernel_rfl) (by kernel_rfl) (by kernel_rfl) (fun _ _ _ h => h) (Or.inl ⟨by first | kernel_rfl | rfl, fun _ hS => by obtain ⟨⟨k0, k1, k2, k3⟩, k4, k5⟩ := HC.out _ hS; go_simp⟩) s0.out ?_
      try simp only [Act.put, List.getElem_toArray, List.getElem_cons_zero, List.getElem_cons_succ, List.setIfInBounds_toArray, List.set_cons_zero, List.set_cons_succ]
      refine anyJ_take (i := 2) (v := .slice hi.a hn hi.c) rfl (by kernel_rfl) (by kernel_rfl) (by kernel_rfl) (by kernel_rfl) (fun _ _ _ h => h) (Or.inl ⟨by first | kernel_rfl | rfl, fun _ hS => by obtain ⟨⟨k0, k1, k2, k3⟩, k4, k5⟩ := HC.out _ hS; go_simp⟩) s0.out ?_
      try simp only [Act.put, List.getElem_toArray, List.getElem_cons_zero, List.getElem_cons_succ, List.setIfInBounds_toArray, List.set_cons_zero, List.set_cons_succ]
      refine anyJ_one (i := 3) (fun ⟨_, _, h⟩ => h) (by kernel_rfl) (by kernel_rfl) rfl (by first | kernel_rfl | rfl) (fun K hK => ?_)
      go_simp
      go_at_call 53
      refine HBL.out.mono ?_
      rintro e w' ⟨rfl, rfl⟩
      refine hK.out _ _ s0.out ?_
      clear hK K
      try simp only [Act.put, List.getElem_toArray, List.getElem_cons_zero, List.getElem_cons_succ, List.setIfInBounds_toArray, List.set_cons_zero, List.set_cons_succ]
      refine anyJ_take (i := 4) (v := .bool false) rfl (by kernel_rfl) (by kernel_rfl) (by kernel_rfl) (by kernel_rfl) (fun _ _ _ h => h) (Or.inl ⟨by first | kernel_rfl | rfl, fun _ hS => by go_simp⟩) s0.out ?_
      try simp only [Act.put, List.getElem_toArray, List.getElem_cons_zero, List.getElem_cons_succ, List.setIfInBounds_toArray, List.set_cons_zero, List.set_cons_succ]
      refine anyJ_take (i := 5) (v := .bool false) rfl (by kernel_rfl) (by kernel_rfl) (by kernel_rfl) (by kernel_rfl) (fun _ _ _ h => h) (Or.inl ⟨by first | kernel_rfl | rfl, fun _ hS => by go_simp⟩) s0.out ?_
      try simp only [Act.put, List.getElem_toArray, List.getElem_cons_zero, List.getElem_cons_succ, List.setIfInBounds_toArray, List.set_cons_zero, List.set_cons_succ]
      refine anyJ_take (i := 6) (v := .func (.yield l) #[] #[]) rfl (by kernel_rfl) (by kernel_rfl) (by kernel_rfl) (by kernel_rfl) (fun _ _ _ h => h) (Or.inl ⟨by first | kernel_rfl | rfl, fun _ hS => by obtain ⟨⟨k0, k1, k2, k3⟩, k4, k5⟩ := HC.out _ hS; go_simp⟩) s0.out ?_
      try simp only [Act.put, List.getElem_toArray, List.getElem_cons_zero, List.getElem_cons_succ, List.setIfInBounds_toArray, List.set_cons_zero, List.set_cons_succ]
      refine anyJ_take (i := 7) (v := .agg #[.slice y.k.a yn y.k.c, .int .i64 y.s, .bool y.d, .slice y.v.a vn y.v.c]) rfl (by kernel_rfl) (by kernel_rfl) (by kernel_rfl) (by kernel_rfl) (fun _ _ _ h => h) (Or.inl ⟨by first | kernel_rfl | rfl, fun _ hS => by obtain ⟨⟨k0, k1, k2, k3⟩, k4, k5⟩ := HC.out _ hS; go_simp⟩) s0.out ?_
      try simp only [Act.put, List.getElem_toArray, List.getElem_cons_zero, List.getElem_cons_succ, List.setIfInBounds_toArray, List.set_cons_zero, List.set_cons_succ]
      refine anyJ_one (i := 8) (fun ⟨_, _, h⟩ => h) (by kernel_rfl) (by kernel_rfl) rfl (by first | kernel_rfl | rfl) (fun K hK => ?_)
      go_simp
      go_at_call 46
      refine HCL.out.mono ?_
      rintro e W3 ⟨y', hrd, rfl, r1, r2, b3⟩
      have B3 : Hid (Below W₂.heap.size W₂ W3) := Lib.hid (B0.out.trans (b3.mono B0.out.size))
      have D3 := Lib.hid (HD.out _ B3.out)
      have s3 : Hid (RdS E bh b W₂ W3) := Lib.hid (HR.out _ D3.out.2)
      have HYG := Lib.hid (goer_get HUN.out HMM.out HYU.out hrd)
      have HY := Lib.hid (hG'.no j W₂.drew W3 y' HYG.out HST.out (HD.out _ B0.out).1.k b3 D3.out.1.k r1 r2 (fit_of HE5.out hrd))
      clear b3 r1 r2 hrd
      refine hK.out _ _ s3.out ?_
      clear hK K
      try simp only [Act.put, List.getElem_toArray, List.getElem_cons_zero, List.getElem_cons_succ, List.setIfInBounds_toArray, List.set_cons_zero, List.set_cons_succ]
      refine anyJ_yield (i := 9) (N := N) (L := l) (args := #[y'.val, .int .i64 0]) (by kernel_rfl) (by kernel_rfl) rfl (by first | kernel_rfl | rfl) HY.out (by go_simp) ?_
      rintro e W5 ⟨rfl, k5, f5⟩
      have K5 := Lib.hid k5
      have F5 := Lib.hid f5
      have s5 : Hid (RdS E bh b W₂ W5) := Lib.hid (HR.out _ ((HD.out _ B0.out).2.trans f5))
      refine ⟨_, rfl, s5.out, ?_⟩
      clear k5 f5 HY
      try simp only [Act.put, List.getElem_toArray, List.getElem_cons_zero, List.getElem_cons_succ, List.setIfInBounds_toArray, List.set_cons_zero, List.set_cons_succ]
      refine anyJ_take (i := 10) (v := .bool true) rfl (by kernel_rfl) (by kernel_rfl) (by kernel_rfl) (by kernel_rfl) (fun _ _ _ h => h) (Or.inl ⟨by first | kernel_rfl | rfl, fun _ hS => by go_simp⟩) s5.out ?_
      try simp only [Act.put, List.getElem_toArray, List.getElem_cons_zero, List.getElem_cons_succ, List.setIfInBounds_toArray, List.set_cons_zero, List.set_cons_succ]
      refine anyJ_take (i := 11) (v := .bool true) rfl (by kernel_rfl) (by kernel_rfl) (by kernel_rfl) (by kernel_rfl) (fun _ _ _ h => h) (Or.inl ⟨by first | kernel_rfl | rfl, fun _ hS => by go_simp⟩) s5.out ?_
      try simp only [Act.put, List.getElem_toArray, List.getElem_cons_zero, List.getElem_cons_succ, List.setIfInBounds_toArray, List.set_cons_zero, List.set_cons_succ]
      refine anyJ_done (by kernel_rfl) ?_ _
      try simp only [Act.put, List.getElem_toArray, List.getElem_cons_zero, List.getElem_cons_succ, List.setIfInBounds_toArray, List.set_cons_zero, List.set_cons_succ]
      gi_wp2
      obtain ⟨q1, q2, q3, q4⟩ := HK.out.fin HZ.out HF.out (HD.out _ B0.out).2 F5.out HT.out HMB.out
      exact ⟨rfl, q1, ⟨HUN.out, .inr ⟨fun e he => by rw [HMM.out] at he; injection he with he; exact he ▸ HYU.out, K5.out⟩⟩, q2, q3, q4⟩
    · skip
      unfold RoundOf
      rw [hs]
      gi_wp2
      refine ⟨Two.below ((Below.refl (b + 5) W).alloc hsz _) (by omega), fun W₂ g2 hl => ?_⟩
      obtain ⟨⟨kn2, f2⟩, c2, z2, m2, e2⟩ := hG'.round hB' hk hT hsz g2 hl
      clear g2 hl e2
      have cb := kn2.b0
      have c0 : W₂.cell? ⟨b, 0, none⟩ = some (.func (.yield l) #[] #[]) := by simp [World.cell?, cb]
      have HLN : Hid ((rangeP t.tb lo.l hi.l).1.length = j ∧ (rangeP t.tb lo.l hi.l).2 = true) := Lib.hid (by
        rw [range_cut]
        rw [← hM] at hund
        obtain ⟨u1, u2⟩ := und_all hund
        unfold cutP
        rw [u1, u2, hM, hu]
        exact ⟨rfl, rfl⟩)
      have hbad := hG'.bad W₂ HLN.out.2 (by rw [HLN.out.1]; exact kn2.k) ((hT.fr f2 hmb).less (fun g q => .inl q))
      rw [HLN.out.1] at hbad
      obtain ⟨fn, tmps, assign, body, hy, hY⟩ := hbad
      have HY := Lib.hid hY
      have HF := Lib.hid f2
      have HK := Lib.hid kn2
      have HZ := Lib.hid z2
      have HT := Lib.hid hT
      have HMB := Lib.hid hmb
      have HUN := Lib.hid hund
      have HMM := Lib.hid hM
      clear hY f2 kn2 z2 c2 hT hmb hund hM m2 hk hsz hfr cb hu
      gi_wp2
      refine (roundIn_any HY.out).mono ?_
      rintro e W5 ⟨rfl, k5, f5⟩
      have K5 := Lib.hid k5
      have F5 := Lib.hid f5
      clear k5 f5 HY hy c0
      gi_wp2
      obtain ⟨q1, q2, q3, q4⟩ := HK.out.fin HZ.out HF.out (Fr.refl _ _) F5.out HT.out HMB.out
      exact ⟨rfl, q1, ⟨HUN.out, .inr ⟨fun e he => by rw [← HMM.out] at he; simp at he, K5.out⟩⟩, q2, q3, q4⟩
end Go.Proofs.YtmgggddnfeojmaaGreat
namespace Go.Proofs.YtmgggddnfeojmaaGreat
open Go.RowKit
theorem set_pair {W : World} {y z : Nat} {a b u v : Value} {s t : TypeId} (hy : W.heap[y]? = some (.cells #[a] s (0, 0))) (hz : W.heap[z]? = some (.cells #[b] t (0, 0))) (hne : y ≠ z) :
    ((W.setCell ⟨y, 0, none⟩ u).setCell ⟨z, 0, none⟩ v).heap[y]? = some (.cells #[u] s (0, 0)) ∧ ((W.setCell ⟨y, 0, none⟩ u).setCell ⟨z, 0, none⟩ v).heap[z]? = some (.cells #[v] t (0, 0)) := by
  have h1 := heap_setCell_same W y 0 _ s u hy
  have h2 : (W.setCell ⟨y, 0, none⟩ u).heap[z]? = W.heap[z]? := heap_setCell_other _ _ _ _ (Ne.symm hne)
  refine ⟨(heap_setCell_other _ _ _ _ hne).trans h1, ?_⟩
  exact heap_setCell_same _ z 0 _ t v (h2.trans hz)
theorem set_pair_other (W : World) (y z j : Nat) (u v : Value) (h1 : j ≠ y) (h2 : j ≠ z) : ((W.setCell ⟨y, 0, none⟩ u).setCell ⟨z, 0, none⟩ v).heap[j]? = W.heap[j]? := by
  rw [heap_setCell_other _ _ _ _ h2, heap_setCell_other _ _ _ _ h1]
theorem set_pair_kp (W : World) (y z B : Nat) (u v : Value) (hy : y < B) (hz : z < B) : Kp (fun j => B ≤ j) W ((W.setCell ⟨y, 0, none⟩ u).setCell ⟨z, 0, none⟩ v) :=
  ((Kp.refl _ W).set y 0 u (by omega)).set z 0 v (by omega)
theorem set_pair_below {w W : World} {B : Nat} (h : Below B w W) (y z : Nat) (u v : Value) (hy : B ≤ y) (hz : B ≤ z) : Below B w ((W.setCell ⟨y, 0, none⟩ u).setCell ⟨z, 0, none⟩ v) :=
  ⟨h.os, h.tape, h.output, by simpa using h.size, fun k hk => (set_pair_other W y z k u v (by omega) (by omega)).trans (h.block k hk)⟩
/-- What Entries hands out. -/
def EntH (t : Option Addr) (L H : List Int) (w : World) (e : Ending) (w' : World) : Prop := e = .returned (.func (.func 52) #[] #[.pointer (some ⟨w.heap.size, 0, none⟩), .pointer (some ⟨w.heap.size + 1, 0, none⟩), .pointer (some ⟨w.heap.size + 2, 0, none⟩)]) ∧ Below w.heap.size w w' ∧ w'.heap[w.heap.size]? = some (.cells #[.pointer t] 37 (0, 0)) ∧
  ∃ lo hi : Sl, lo.l = L ∧ hi.l = H ∧ w'.heap[w.heap.size + 1]? = some (.cells #[lo.val] 42 (0, 0)) ∧ w'.heap[w.heap.size + 2]? = some (.cells #[hi.val] 42 (0, 0)) ∧ Row w' w.heap.size lo.a lo.c lo.l ∧ Row w' w.heap.size hi.a hi.c hi.l
set_option maxRecDepth 100000 in
set_option maxHeartbeats 8000000 in
theorem entries_any (t la ha : Option Addr) (L H : List Int) (n m c d : Nat) (w : World) (hl : In w la L n c) (hh : In w ha H m d) (hn9 : n ≤ 140737488355328) (hm9 : m ≤ 140737488355328) : Calls Tryz.prog 30 #[.pointer t, .slice la n c, .slice ha m d] w (EntH t L H w) := by
  have HN := Lib.hid hl.len
  have HM := Lib.hid hh.len
  have HCK : Hid (∀ W : World, Below w.heap.size w W → Calls Tryz.prog 42 #[.slice la n c] W (Longer W W.heap.size L)) := Lib.hid (fun W hb => clone_any la L n c W HN.out (hl.kept hb).bys (by rw [HN.out]; exact hn9))
  have HCV : Hid (∀ W : World, Below w.heap.size w W → Calls Tryz.prog 42 #[.slice ha m d] W (Longer W W.heap.size H)) := Lib.hid (fun W hb => clone_any ha H m d W HM.out (hh.kept hb).bys (by rw [HM.out]; exact hm9))
  clear hl hh hn9 hm9
  go_enter Tryz.func30, Tryz.ntmps30
  go_upto_region 1 with fail
  have N3 := three_new w (.cells #[.pointer t] 37) (.cells #[.slice la n c] 42) (.cells #[.slice ha m d] 42)
  obtain ⟨w1, hw1⟩ : ∃ w1, (((w.alloc (.cells #[.pointer t] 37)).alloc (.cells #[.slice la n c] 42)).alloc (.cells #[.slice ha m d] 42)) = w1 := ⟨_, rfl⟩
  have hz : w1.heap.size = w.heap.size + 3 := by rw [← hw1]; exact sizeFour w _ _ _
  rw [hw1] at N3 ⊢
  clear hw1
  have B1 := Lib.hid N3.2
  have HH : Hid (∀ W : World, Below w1.heap.size w1 W → W.heap[w.heap.size]? = some (.cells #[.pointer t] 37 (0, 0)) ∧ W.heap[w.heap.size + 1]? = some (.cells #[.slice la n c] 42 (0, 0)) ∧ W.heap[w.heap.size + 1 + 1]? = some (.cells #[.slice ha m d] 42 (0, 0))) := Lib.hid (fun W hb => ⟨obj_kept N3.1.1 hb (Nat.le_refl _), obj_kept N3.1.2.1 hb (Nat.le_refl _), obj_kept N3.1.2.2 hb (Nat.le_refl _)⟩)
  clear N3
  have HC : Hid (∀ W : World, Below w1.heap.size w1 W → W.cell? ⟨w.heap.size + 1, 0, none⟩ = some (.slice la n c) ∧ W.cell? ⟨w.heap.size + 1 + 1, 0, none⟩ = some (.slice ha m d) ∧ W.frozen? ⟨w.heap.size + 1, 0, none⟩ = false ∧ W.frozen? ⟨w.heap.size + 1 + 1, 0, none⟩ = false) := Lib.hid (fun W hb => by
    obtain ⟨-, h1, h2⟩ := HH.out W hb
    refine ⟨?_, ?_, ?_, ?_⟩ <;> simp [World.cell?, World.frozen?, h1, h2])
  have CB := Lib.hid (Below.refl w1.heap.size w1)
  obtain ⟨p1, p2, -, -⟩ := HC.out w1 CB.out
  go_region_with (go_at_call 42; first
    | (refine (HCK.out _ (B1.out.trans ((by repeat (first | exact Below.refl _ _ | exact CB.out | refine Below.drew ?_) : Below w1.heap.size w1 _).mono B1.out.size))).mono ?_; rintro e w2 ⟨A1, c1, rfl, r1, b1⟩; have R1 := Lib.hid (r1.mono (by repeat (first | exact Below.refl _ _ | exact CB.out | refine Below.drew ?_) : Below w1.heap.size w1 _).size); replace CB := Lib.hid (below_then (by repeat (first | exact Below.refl _ _ | exact CB.out | refine Below.drew ?_) : Below w1.heap.size w1 _) b1); obtain ⟨q1, q2, -, -⟩ := HC.out w2 CB.out; clear r1 b1)
    | (refine (HCV.out _ (B1.out.trans ((by repeat (first | exact Below.refl _ _ | exact CB.out | refine Below.drew ?_) : Below w1.heap.size w1 _).mono B1.out.size))).mono ?_; rintro e w3 ⟨A2, c2, rfl, r2, b2⟩; have R2 := Lib.hid (r2.mono (by repeat (first | exact Below.refl _ _ | exact CB.out | refine Below.drew ?_) : Below w1.heap.size w1 _).size); have B3 := Lib.hid (below_then (by repeat (first | exact Below.refl _ _ | refine Below.drew ?_) : Below w2.heap.size w2 _) b2); replace CB := Lib.hid (below_then (by repeat (first | exact Below.refl _ _ | exact CB.out | refine Below.drew ?_) : Below w1.heap.size w1 _) b2); obtain ⟨r1, r2, r3, r4⟩ := HC.out w3 CB.out; clear b2))
  all_goals
    have H4 := Lib.hid (set_pair (u := .slice A1 L.length c1) (v := .slice A2 H.length c2) (HH.out w3 CB.out).2.1 (HH.out w3 CB.out).2.2 (by omega))
    have H5 := Lib.hid ((set_pair_other w3 (w.heap.size + 1) (w.heap.size + 1 + 1) w.heap.size (.slice A1 L.length c1) (.slice A2 H.length c2) (by omega) (by omega)).trans (HH.out w3 CB.out).1)
    have K4 := Lib.hid (set_pair_kp w3 (w.heap.size + 1) (w.heap.size + 1 + 1) w1.heap.size (.slice A1 L.length c1) (.slice A2 H.length c2) (by omega) (by omega))
    have B4 := Lib.hid (set_pair_below (B1.out.trans (CB.out.mono B1.out.size)) (w.heap.size + 1) (w.heap.size + 1 + 1) (.slice A1 L.length c1) (.slice A2 H.length c2) (by omega) (by omega))
    clear r1 r2 r3 r4 q1 q2 p1 p2 HH HC HCK HCV
    generalize ((w3.setCell ⟨w.heap.size + 1, 0, none⟩ (.slice A1 L.length c1)).setCell ⟨w.heap.size + 1 + 1, 0, none⟩ (.slice A2 H.length c2)) = w4 at H4 H5 K4 B4 ⊢
    have R3 := own_kp (R1.out.kept B3.out (Nat.le_refl _)) K4.out (fun ad ha => (own_in (R1.out.kept B3.out (Nat.le_refl _)) ad ha).1)
    have R4 := own_kp R2.out K4.out (fun ad ha => (own_in R2.out ad ha).1)
    have Q3 := Lib.hid (own_mono R3 B1.out.size)
    have Q4 := Lib.hid (own_mono R4 B1.out.size)
    clear R3 R4
    go_wp2_with fail
    go_ret
    exact ⟨rfl, B4.out, H5.out, ⟨A1, c1, L⟩, ⟨A2, c2, H⟩, rfl, rfl, H4.out.1, H4.out.2, Q3.out, Q4.out⟩
end Go.Proofs.YtmgggddnfeojmaaGreat
namespace Go.Proofs.YtmgggddnfeojmaaGreat
open Go.RowKit
attribute [local go_sem] Oper.semAt_some
theorem count_any (t : Tm) (w : World) (h : TabC w t) : Calls Tryz.prog 21 #[.pointer (some ⟨t.b, 0, none⟩)] w fun e w' => e = .returned (.int .i64 t.cnt) ∧ w' = w := by
  have t1 := tbl_cells (d := .slice t.da t.L.length t.dc) (g := .slice t.ga t.K.length t.gc) (ra := t.ra) (rn := t.R.length) (rc := t.rc) (mb := t.mb) (cnt := t.cnt) h.blk
  have t2 := t1.1.2.2.1
  clear t1 h
  go_enter Tryz.func21, Tryz.ntmps21
  go_wp2_with fail
  go_ret
  exact ⟨rfl, rfl⟩
end Go.Proofs.YtmgggddnfeojmaaGreat
namespace Go.Proofs.YtmgggddnfeojmaaGreat
open Go.RowKit
/-- Both bounds, as new memory. -/
def BndsE (K L : List Int) (w : World) (e : Ending) (w' : World) : Prop := ∃ lo hi : Sl, lo.l = K ∧ hi.l = L ∧ e = .returned (.tuple #[lo.val, hi.val]) ∧ Row w' w.heap.size lo.a lo.c lo.l ∧ Row w' w.heap.size hi.a hi.c hi.l ∧ Below w.heap.size w w'
set_option maxRecDepth 100000 in
set_option maxHeartbeats 8000000 in
theorem bounds_any (t : Tm) (r : Rm) (w : World) (h : TabC w t) (hr : t.R[0]? = some r) (hn9 : r.k.l.length ≤ 140737488355328) (hm9 : t.K.length ≤ 140737488355328) : Calls Tryz.prog 19 #[.pointer (some ⟨t.b, 0, none⟩)] w (BndsE r.k.l t.K w) := by
  have hrk := h.keys r (List.mem_of_getElem? hr)
  have HCK : Hid (∀ W : World, Below w.heap.size w W → Calls Tryz.prog 42 #[.slice r.k.a r.k.l.length r.k.c] W (Longer W W.heap.size r.k.l)) := Lib.hid (fun W hb => clone_any _ _ _ _ W rfl (hrk.kept hb).bys hn9)
  have HCV : Hid (∀ W : World, Below w.heap.size w W → Calls Tryz.prog 42 #[.slice t.ga t.K.length t.gc] W (Longer W W.heap.size t.K)) := Lib.hid (fun W hb => clone_any _ _ _ _ W rfl (h.great.kept hb).bys hm9)
  have hi := (List.getElem?_eq_some_iff.1 hr).1
  have HT : Hid (∀ W, Below w.heap.size w W → TabC W t) := Lib.hid (fun W hb => h.kept hb)
  obtain ⟨ad, hra, -⟩ := row_seven h.rows hr
  have HRA := Lib.hid hra
  obtain ⟨n, hn⟩ : ∃ q, r.k.l.length = q := ⟨_, rfl⟩
  obtain ⟨m, hm⟩ : ∃ q, t.K.length = q := ⟨_, rfl⟩
  obtain ⟨rn, hrn⟩ : ∃ q, t.R.length = q := ⟨_, rfl⟩
  rw [hrn] at hi
  rw [hn] at HCK
  rw [hm] at HCV
  have HC : Hid (∀ W : World, Below w.heap.size w W → W.cell? ⟨t.b, 1, none⟩ = some (.slice (some ad) rn t.rc) ∧ W.cell? ⟨t.b, 3, none⟩ = some (.slice t.ga m t.gc) ∧ W.cell? ad = some (.slice r.k.a n r.k.c)) := Lib.hid (fun W hb => by
    have t1 := tbl_cells (d := .slice t.da t.L.length t.dc) (g := .slice t.ga t.K.length t.gc) (ra := t.ra) (rn := t.R.length) (rc := t.rc) (mb := t.mb) (cnt := t.cnt) (HT.out W hb).blk
    rw [hrn, hm, HRA.out] at t1
    obtain ⟨ad', hra', r0, -⟩ := row_seven (HT.out W hb).rows hr
    rw [HRA.out] at hra'
    injection hra' with hra'
    subst hra'
    rw [hn] at r0
    have e0 : ad.add (0 * 7) = ad := by
      obtain ⟨a, b, c⟩ := ad
      rfl
    rw [e0] at r0
    exact ⟨t1.1.2.1, t1.1.2.2.2.1, r0⟩)
  have HN := Lib.hid hn
  have HM := Lib.hid hm
  clear hn9 hm9 hrk hr h hra HT hrn hn hm
  have CB := Lib.hid (Below.refl w.heap.size w)
  obtain ⟨p1, p2, p3⟩ := HC.out w CB.out
  have i0 : (0 : Int) < rn := by omega
  have i1 : rn ≠ 0 := by omega
  go_enter Tryz.func19, Tryz.ntmps19
  go_upto_region 3 with fail
  go_region_with (go_at_call 42; first
    | (refine (HCK.out _ (by repeat (first | exact Below.refl _ _ | exact CB.out | refine Below.drew ?_) : Below w.heap.size w _)).mono ?_; rintro e w2 ⟨A1, c1, rfl, r1, b1⟩; have R1 := Lib.hid (r1.mono (by repeat (first | exact Below.refl _ _ | exact CB.out | refine Below.drew ?_) : Below w.heap.size w _).size); replace CB := Lib.hid (below_then (by repeat (first | exact Below.refl _ _ | exact CB.out | refine Below.drew ?_) : Below w.heap.size w _) b1); obtain ⟨q1, q2, q3⟩ := HC.out w2 CB.out; clear r1 b1)
    | (refine (HCV.out _ (by repeat (first | exact Below.refl _ _ | exact CB.out | refine Below.drew ?_) : Below w.heap.size w _)).mono ?_; rintro e w3 ⟨A2, c2, rfl, r2, b2⟩; have R2 := Lib.hid (r2.mono (by repeat (first | exact Below.refl _ _ | exact CB.out | refine Below.drew ?_) : Below w.heap.size w _).size); have B3 := Lib.hid (below_then (by repeat (first | exact Below.refl _ _ | refine Below.drew ?_) : Below w2.heap.size w2 _) b2); replace CB := Lib.hid (below_then (by repeat (first | exact Below.refl _ _ | exact CB.out | refine Below.drew ?_) : Below w.heap.size w _) b2); obtain ⟨r1, r2, r3⟩ := HC.out w3 CB.out; clear b2))
  all_goals
    clear r1 r2 r3 q1 q2 q3 p1 p2 p3 HC HCK HCV
    have Q3 := Lib.hid (R1.out.kept B3.out (Nat.le_refl _))
    go_wp2_with fail
    go_ret2
    exact ⟨⟨A1, c1, r.k.l⟩, ⟨A2, c2, t.K⟩, rfl, rfl, rfl, Q3.out, R2.out, CB.out⟩
end Go.Proofs.YtmgggddnfeojmaaGreat
namespace Go.Proofs.YtmgggddnfeojmaaGreat
open Go.RowKit
theorem allocs_get : ∀ (l : List Obj) (w : World), (∀ (i : Nat) (o : Obj), l[i]? = some o → (l.foldl World.alloc w).heap[w.heap.size + i]? = some o) ∧ (l.foldl World.alloc w).heap.size = w.heap.size + l.length ∧ Below w.heap.size w (l.foldl World.alloc w)
  | [], w => ⟨fun i o h => by simp at h, by simp, Below.refl _ _⟩
  | p :: l, w => by
    obtain ⟨h1, h2, h3⟩ := allocs_get l (w.alloc p)
    have s1 := World.size_alloc w p
    have b1 := below_new w p
    rw [s1] at h1 h2 h3
    refine ⟨fun i o h => ?_, by rw [List.foldl_cons, h2, List.length_cons]; omega, b1.trans (h3.mono (by omega))⟩
    rw [List.foldl_cons]
    cases i with
    | zero =>
      injection h with h
      subst h
      exact (h3.block _ (by omega)).trans (heap_alloc_new w p)
    | succ i =>
      have := h1 i o (by simpa using h)
      rwa [show w.heap.size + (i + 1) = w.heap.size + 1 + i by omega]
/-- The blocks of the one who looks. -/
def ClG (H : Nat) : World → Nat → Prop := fun _ g => H ≤ g ∧ g < H + 8
/-- His results. -/
def ResG (H : Nat) (y : En) (b : Bool) (er : Int) (W : World) : Prop := W.heap[H + 1]? = some (.cells #[y.k.val, .int .i64 y.s, .bool y.d, y.v.val] 48 (0, 0)) ∧ W.heap[H + 2]? = some (.cells #[.bool b] 4 (0, 0)) ∧ W.heap[H + 3]? = some (.cells #[.int .i64 er] 30 (0, 0))
def zeroEn : En := ⟨⟨none, 0, []⟩, 0, false, ⟨none, 0, []⟩⟩
/-- What stands while a key is looked for. -/
structure KG (H : Nat) (w : World) (t : Tm) (k : Sl) (s : Int) (W : World) : Prop where
  tw : Tw t.mb w W
  b0 : W.heap[H]? = some (.cells #[k.val] 42 (0, 0))
  res : ResG H zeroEn false 0 W
  b4 : W.heap[H + 4]? = some (.cells #[.pointer (some ⟨t.b, 0, none⟩)] 37 (0, 0))
  b5 : W.heap[H + 5]? = some (.cells #[k.val, .int .i64 s, .bool false, .slice none 0 0] 48 (0, 0))
/-- What is answered of what is gone over. -/
def AnsG (p : Option Er × Bool) (y : En) (b : Bool) (er : Int) : Prop := (p = (some y.rd, false) ∧ b = true ∧ er = 0) ∨ (p.1 = none ∧ y = zeroEn ∧ b = false ∧ er = if p.2 then 11 else 0)
def GotG (H : Nat) (p : Option Er × Bool) (W : World) : Prop := ∃ (y : En) (b : Bool) (er : Int), ResG H y b er W ∧ AnsG p y b er ∧ Row W H y.k.a y.k.c y.k.l ∧ Row W H y.v.a y.v.c y.v.l
/-- What Get answers. -/
def GetE (t : Tm) (K : List Int) (s : Int) (w : World) (e : Ending) (w' : World) : Prop := ∃ (y : En) (b : Bool) (er : Int), AnsG (getP t.tb K s) y b er ∧ e = .returned (.tuple #[y.val, .bool b, .int .i64 er]) ∧ Row w' w.heap.size y.k.a y.k.c y.k.l ∧ Row w' w.heap.size y.v.a y.v.c y.v.l ∧ Tw t.mb w w' ∧ TabAt w' t
def IG (H : Nat) (w : World) (t : Tm) (k : Sl) (s : Int) (z : Nat × World) (W : World) : Prop := z.1 = 0 ∧ KG H w t k s W ∧ TabW (ClG H W) W t
def XG (H : Nat) (w : World) (t : Tm) (k : Sl) (s : Int) (z : Nat × World) (W : World) : Prop := Fr (ClG H) z.2 W ∧ TabW (ClG H W) W t ∧ Tw t.mb w W ∧ GotG H (getP t.tb k.l s) W ∧ (z.1 = 2 → getP t.tb k.l s = (none, false))
def keyE (k : Sl) (s : Int) : En := ⟨k, s, false, ⟨none, 0, []⟩⟩
def OffG (t : Tm) (k : Sl) (s : Int) (z : Nat × World) (args : Array Value) (z' : Nat × World) (W : World) : Prop := z.1 = 0 ∧ z'.2 = W ∧ ((∃ (y : En) (M : List Er), (goP t.tb (keyE k s).rd).1 = y.rd :: M ∧ args = #[y.val, .int .i64 0] ∧ EIn W y ∧ EFit y ∧ z'.1 = if y.k.l = k.l then 1 else 2) ∨ (goP t.tb (keyE k s).rd = ([], true) ∧ args = #[.agg #[.slice none 0 0, .int .i64 0, .bool false, .slice none 0 0], .int .i64 11] ∧ z'.1 = 3))
section
variable {H : Nat} {w W W' : World} {t : Tm} {k : Sl} {s : Int}
theorem ResG.of {y : En} {b : Bool} {er : Int} (h : ResG H y b er W) (q : ∀ g o, H ≤ g → g < H + 6 → W.heap[g]? = some o → W'.heap[g]? = some o) : ResG H y b er W' := ⟨q _ _ (by omega) (by omega) h.1, q _ _ (by omega) (by omega) h.2.1, q _ _ (by omega) (by omega) h.2.2⟩
theorem KG.of (h : KG H w t k s W) (ht : Tw t.mb w W') (q : ∀ g o, H ≤ g → g < H + 6 → W.heap[g]? = some o → W'.heap[g]? = some o) : KG H w t k s W' := ⟨ht, q _ _ (by omega) (by omega) h.b0, h.res.of q, q _ _ (by omega) (by omega) h.b4, q _ _ (by omega) (by omega) h.b5⟩
theorem Tw.grow (ht : Tw t.mb w W) {row : Option Nat} (hg : W.grownBy W' row) (hr : ∀ r, row = some r → w.heap.size ≤ r) : Tw t.mb w W' := by
  refine ⟨hg.os.trans ht.os, hg.tape.trans ht.tape, hg.output.trans ht.output, Nat.le_trans ht.size hg.size, fun j hj => ?_⟩
  have hz := ht.size
  exact (hg.block j (by omega) (fun e => by have := hr j e.symm; omega)).trans (ht.block j hj)
theorem KG.grow (h : KG H w t k s W) (hw : w.heap.size ≤ H) {row : Option Nat} (hg : W.grownBy W' row) (hr : ∀ r, row = some r → H + 6 ≤ r) : KG H w t k s W' :=
  h.of (h.tw.grow hg (fun r e => by have := hr r e; omega)) (fun g o h1 h2 ho => grown_obj ho hg (fun e => by have := hr g e.symm; omega))
theorem KG.tw2 (h : KG H w t k s W) (hm : t.mb < H) (ht : Tw t.mb W W') : KG H w t k s W' :=
  h.of (h.tw.trans ht) (fun g o h1 h2 ho => ht.obj ho (by omega))
theorem fr_grown {row : Option Nat} (hg : W.grownBy W' row) (hr : ∀ r, row = some r → H + 6 ≤ r ∧ r < H + 8) : Fr (ClG H) W W' := fun g o ho hn => ⟨grown_obj ho hg (fun e => hn (by have := hr g e.symm; unfold ClG; omega)), hn⟩
theorem OwnAt.ig (hw : w.heap.size ≤ H) (hm : t.mb < H) : OwnAt (H + 6) (IG H w t k s) := fun z W W' row ⟨h1, h2, h3⟩ hg hr => by
  have hr' : ∀ r, row = some r → H + 6 ≤ r ∧ r < H + 8 := fun r e => by have := (hr r e).1; omega
  exact ⟨h1, h2.grow hw hg (fun r e => (hr' r e).1), h3.fr (fr_grown hg hr') (by unfold ClG; omega)⟩
theorem GotG.grow {p : Option Er × Bool} (h : GotG H p W) {row : Option Nat} (hg : W.grownBy W' row) (hr : ∀ r, row = some r → H + 6 ≤ r ∧ ∃ o : Obj, W.heap[r]? = some o ∧ o.isCells = false) : GotG H p W' := by
  obtain ⟨y, b, er, h1, h2, h3, h4⟩ := h
  exact ⟨y, b, er, h1.of (fun g o g1 g2 ho => grown_obj ho hg (fun e => by have := (hr g e.symm).1; omega)), h2, own_abide h3 hg (fun r e => (hr r e).2), own_abide h4 hg (fun r e => (hr r e).2)⟩
theorem OwnAt.xg (hw : w.heap.size ≤ H) (hm : t.mb < H) : OwnAt (H + 6) (XG H w t k s) := fun z W W' row ⟨h1, h2, h3, h4, h5⟩ hg hr => by
  have hr' : ∀ r, row = some r → H + 6 ≤ r ∧ r < H + 8 := fun r e => by have := (hr r e).1; omega
  have hf := fr_grown (H := H) hg hr'
  exact ⟨h1.trans hf, h2.fr hf (by unfold ClG; omega), h3.grow hg (fun r e => by have := (hr' r e).1; omega), h4.grow hg (fun r e => ⟨(hr' r e).1, (hr r e).2⟩), h5⟩
end
/-- The results laid. -/
theorem setG_facts {W : World} {H : Nat} {a b c d p q e f g h u v : Value} {t1 t2 t3 : TypeId} (h1 : W.heap[H + 1]? = some (.cells #[a, b, c, d] t1 (0, 0))) (h2 : W.heap[H + 1 + 1]? = some (.cells #[p] t2 (0, 0))) (h3 : W.heap[H + 1 + 1 + 1]? = some (.cells #[q] t3 (0, 0))) :
    let W' := ((((((W.setCell ⟨H + 1, 0, none⟩ e).setCell ⟨H + 1, 1, none⟩ f).setCell ⟨H + 1, 2, none⟩ g).setCell ⟨H + 1, 3, none⟩ h).setCell ⟨H + 1 + 1, 0, none⟩ u).setCell ⟨H + 1 + 1 + 1, 0, none⟩ v)
    (W'.heap[H + 1]? = some (.cells #[e, f, g, h] t1 (0, 0)) ∧ W'.heap[H + 2]? = some (.cells #[u] t2 (0, 0)) ∧ W'.heap[H + 3]? = some (.cells #[v] t3 (0, 0))) ∧ Kp (fun j => j ≠ H + 1 ∧ j ≠ H + 1 + 1 ∧ j ≠ H + 1 + 1 + 1) W W' := by
  intro W'
  have k1 := set_four (e := e) (f := f) (g := g) (h := h) h1
  have kk : ∀ j, j ≠ H + 1 → ((((W.setCell ⟨H + 1, 0, none⟩ e).setCell ⟨H + 1, 1, none⟩ f).setCell ⟨H + 1, 2, none⟩ g).setCell ⟨H + 1, 3, none⟩ h).heap[j]? = W.heap[j]? := fun j hj => by
    rw [heap_setCell_other _ _ _ _ (by simpa using hj), heap_setCell_other _ _ _ _ (by simpa using hj), heap_setCell_other _ _ _ _ (by simpa using hj), heap_setCell_other _ _ _ _ (by simpa using hj)]
  have k2 := (kk (H + 1 + 1) (by omega)).trans h2
  have k3 := (kk (H + 1 + 1 + 1) (by omega)).trans h3
  obtain ⟨V, hV⟩ : ∃ V, ((((W.setCell ⟨H + 1, 0, none⟩ e).setCell ⟨H + 1, 1, none⟩ f).setCell ⟨H + 1, 2, none⟩ g).setCell ⟨H + 1, 3, none⟩ h) = V := ⟨_, rfl⟩
  have eW : W' = (V.setCell ⟨H + 1 + 1, 0, none⟩ u).setCell ⟨H + 1 + 1 + 1, 0, none⟩ v := by rw [← hV]
  rw [hV] at k1 k2 k3
  obtain ⟨p1, p2⟩ := set_pair (u := u) (v := v) k2 k3 (by omega)
  refine ⟨⟨?_, ?_, ?_⟩, ?_⟩
  · rw [eW]
    exact (set_pair_other V _ _ _ u v (by omega) (by omega)).trans k1
  · rw [eW]
    exact p1
  · rw [eW]
    exact p2
  · exact (((set_four_kp (Kp.refl _ W) (H + 1) e f g h (by simp)).set (H + 1 + 1) 0 u (by simp))).set (H + 1 + 1 + 1) 0 v (by simp)
end Go.Proofs.YtmgggddnfeojmaaGreat
