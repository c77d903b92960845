/-
  Walks: an entry is put behind those that are ahead: the walk. Walks: Put. Walks: a new table; a nil one. Walks: Get, of a key that is there.
-/
import Derived.Test.YtcffpkflijpdjaaJO06
set_option linter.unusedSimpArgs false
set_option linter.unusedVariables false
namespace Go.Proofs.Ytcffpkflijpdjaa
open Go.RowKit
theorem cells_sixteen {W : World} {z : Nat} {a0 a1 a2 a3 a4 a5 a6 a7 a8 a9 a10 a11 a12 a13 a14 a15 : Value} {t : TypeId} (h : W.heap[z]? = some (.cells #[a0, a1, a2, a3, a4, a5, a6, a7, a8, a9, a10, a11, a12, a13, a14, a15] t (0, 0))) : W.cell? ⟨z, 0, none⟩ = some a0 ∧ W.cell? ⟨z, 1, none⟩ = some a1 ∧ W.cell? ⟨z, 2, none⟩ = some a2 ∧ W.cell? ⟨z, 3, none⟩ = some a3 ∧ W.cell? ⟨z, 4, none⟩ = some a4 ∧ W.cell? ⟨z, 5, none⟩ = some a5 ∧ W.cell? ⟨z, 6, none⟩ = some a6 ∧ W.cell? ⟨z, 7, none⟩ = some a7 ∧ W.cell? ⟨z, 8, none⟩ = some a8 ∧ W.cell? ⟨z, 9, none⟩ = some a9 ∧ W.cell? ⟨z, 10, none⟩ = some a10 ∧ W.cell? ⟨z, 11, none⟩ = some a11 ∧ W.cell? ⟨z, 12, none⟩ = some a12 ∧ W.cell? ⟨z, 13, none⟩ = some a13 ∧ W.cell? ⟨z, 14, none⟩ = some a14 ∧ W.cell? ⟨z, 15, none⟩ = some a15 := by
  refine ⟨?_, ?_, ?_, ?_, ?_, ?_, ?_, ?_, ?_, ?_, ?_, ?_, ?_, ?_, ?_, ?_⟩ <;> simp [World.cell?, h]
theorem box_two {W : World} {g : Nat} {a b : Value} {ty : TypeId} (h : W.heap[g]? = some (.cells #[a, b] ty (0, 0))) : W.cell? ⟨g, 0, none⟩ = some a ∧ W.cell? ⟨g, 1, none⟩ = some b := by
  refine ⟨?_, ?_⟩ <;> simp [World.cell?, h]
theorem frozen_two {W : World} {g : Nat} {a b : Value} {ty : TypeId} (h : W.heap[g]? = some (.cells #[a, b] ty (0, 0))) : W.frozen? ⟨g, 1, none⟩ = false := by simp [World.frozen?, h]
theorem ins9_of {w wr wv w8 : World} {t : MT} {z g6 j g n c8 : Nat} {x' : En} {la τ : List Nat} {A8 : Option Addr} (s : InsS w wr t z g6 x' la j) (ht : MTab w t) (hτ : towerOf t.ns la j = τ) (hA : t.nA = some ⟨g, 0, none⟩) (hl : (raise t.ns la t.ns.length j).length = n) (hb : Below wr.heap.size wr wv)
    (r8 : Nrow w8 0 A8 c8 (raise t.ns la t.ns.length j ++ [⟨x', τ⟩])) (g8 : wv.grownBy w8 (Value.slice (some ⟨g, 0, none⟩) n t.nc).ownBlock) (p8 : ∀ ad, A8 = some ad → (∃ a0, some (⟨g, 0, none⟩ : Addr) = some a0 ∧ ad.block = a0.block) ∨ wv.heap.size ≤ ad.block) : Ins9 w w8 t A8 c8 (putN t.ns la j x') x' := by
  have hnr : Nrow wv 0 t.nA t.nc (raise t.ns la t.ns.length j) := own_kept s.nrow hb (Nat.le_refl _)
  have g9 : wv.grownBy w8 (Value.slice t.nA (raise t.ns la t.ns.length j).length t.nc).ownBlock := by rw [hA, hl]; exact g8
  have hsz : w.heap.size ≤ wv.heap.size := Nat.le_trans s.kp.size hb.size
  have hrow : ∀ {A : Option Addr} {c : Nat} {L : List Int}, Row wr w.heap.size A c L → Row w8 w.heap.size A c L := fun hr => by
    have := hr.kept hb (Nat.le_refl _)
    exact own_apart this hnr (by decide) g9
  refine ⟨Nat.le_trans hsz g8.size, g8.os.trans (hb.os.trans s.kp.os), g8.tape.trans (hb.tape.trans s.kp.tape), g8.output.trans (hb.output.trans s.kp.output), fun k hk hn => ?_, by unfold putN; rw [hτ]; exact r8, fun k ⟨ad, e1, e2⟩ => ?_, obj_beside (obj_kept (s.rest ht).1 hb (Nat.le_refl _)) hnr (by decide) g9, hrow s.xs.1, hrow s.xs.2⟩
  · rw [g9.block k (by omega) (fun e => hn ?_), hb.block k (by have := s.kp.size; omega)]
    · exact s.kp.block k ⟨hk, hn⟩
    · rw [hA] at e ⊢
      have : k = g := by simpa [Value.ownBlock] using e
      exact ⟨_, rfl, this⟩
  · rcases p8 ad e1 with ⟨a0, q1, q2⟩ | q
    · injection q1 with q1
      exact .inl ⟨⟨g, 0, none⟩, hA, by rw [e2, q2, ← q1]⟩
    · exact .inr (by omega)
set_option maxRecDepth 100000 in
set_option maxHeartbeats 16000000 in
theorem minsert_any {w : World} {t : MT} (h : MTab w t) (x : En) (hx : EIn w x) (hk : x.k.l.length ≤ 140737488355328) (hv : x.v.l.length ≤ 140737488355328) (la : List Nat) (hl : la.length = 12) (hlast : LastOk t.ns x.rd la) (hne : nx t.ns 0 (la.getD 0 0) = 0 ∨ ordE (eo t.ns (nx t.ns 0 (la.getD 0 0))) x.rd ≠ 0) (hg : GoodE x.rd) (hf : (t.ns.length + 1) * 160 ≤ 140737488355328) :
    Calls Try.prog 54 #[.pointer (some ⟨t.b, 0, none⟩), x.val, .agg (tvals la).toArray] w fun e w' => e = .returned (.tuple #[]) ∧ ∃ t' : MT, t'.b = t.b ∧ MTab w' t' ∧ t'.has.Perm (x.rd :: t.has) ∧ t'.ns.length = t.ns.length + 1 ∧ Tds t.own t'.own w w' := by
  have HT := Lib.hid h
  have HX := Lib.hid hx
  have HLAST := Lib.hid hlast
  have HNE := Lib.hid (And.intro hne hg)
  have HLB : Hid (∀ g, g < 12 → la.getD g 0 < t.ns.length) := Lib.hid (fun g hg => (hlast g hg).1)
  have HC := Lib.hid (fun W (hW : Below w.heap.size w W) => eclone_any x W (hx.kept hW) hk hv)
  have HF := Lib.hid hf
  obtain ⟨l0, l1, l2, l3, l4, l5, l6, l7, l8, l9, l10, l11, hla⟩ := twelve hl
  have HLA := Lib.hid hla
  rw [hla, show (tvals [l0, l1, l2, l3, l4, l5, l6, l7, l8, l9, l10, l11]).toArray = #[.int .i64 (l0 : Int), .int .i64 (l1 : Int), .int .i64 (l2 : Int), .int .i64 (l3 : Int), .int .i64 (l4 : Int), .int .i64 (l5 : Int), .int .i64 (l6 : Int), .int .i64 (l7 : Int), .int .i64 (l8 : Int), .int .i64 (l9 : Int), .int .i64 (l10 : Int), .int .i64 (l11 : Int)] from rfl]
  rw [En.val_eq] at HC ⊢
  obtain ⟨xn, hxn⟩ : ∃ m, x.k.l.length = m := ⟨_, rfl⟩
  obtain ⟨xv, hxv⟩ : ∃ m, x.v.l.length = m := ⟨_, rfl⟩
  rw [hxn, hxv] at HC ⊢
  obtain ⟨hq, hs, hb⟩ := allocs_get [.cells #[.slice x.k.a xn x.k.c, .int .i64 x.s, .bool x.d, .slice x.v.a xv x.v.c] 26, .cells #[.int .i64 (l0 : Int), .int .i64 (l1 : Int), .int .i64 (l2 : Int), .int .i64 (l3 : Int), .int .i64 (l4 : Int), .int .i64 (l5 : Int), .int .i64 (l6 : Int), .int .i64 (l7 : Int), .int .i64 (l8 : Int), .int .i64 (l9 : Int), .int .i64 (l10 : Int), .int .i64 (l11 : Int)] 91] w
  have q0 := hq 0 _ rfl
  have q1 := hq 1 _ rfl
  simp only [List.foldl_cons, List.foldl_nil, Nat.add_zero, List.length_cons, List.length_nil] at hb q0 q1 hs
  obtain ⟨w1, hw1⟩ : ∃ w1, ((w.alloc (.cells #[.slice x.k.a xn x.k.c, .int .i64 x.s, .bool x.d, .slice x.v.a xv x.v.c] 26)).alloc (.cells #[.int .i64 (l0 : Int), .int .i64 (l1 : Int), .int .i64 (l2 : Int), .int .i64 (l3 : Int), .int .i64 (l4 : Int), .int .i64 (l5 : Int), .int .i64 (l6 : Int), .int .i64 (l7 : Int), .int .i64 (l8 : Int), .int .i64 (l9 : Int), .int .i64 (l10 : Int), .int .i64 (l11 : Int)] 91)) = w1 := ⟨_, rfl⟩
  rw [hw1] at hb q0 q1 hs
  obtain ⟨x0, x1, x2, x3⟩ := box_four q0
  have H1 : Hid (Below w.heap.size w w1 ∧ w1.heap.size = w.heap.size + 2 ∧ w1.heap[w.heap.size + 1]? = some (.cells (tvals la).toArray 91 (0, 0))) := Lib.hid ⟨hb, hs, by rw [HLA.out]; exact q1⟩
  clear h hx hk hv hl hlast hne hg hf hla hxn hxv hq hs hb q0 q1
  go_enter Try.func54, Try.ntmps54
  go_upto_region 1 with fail
  try rw [hw1]
  clear hw1
  go_upto_region 2 with (go_at_call 49; refine (HC.out w1 H1.out.1).mono ?_; rintro e w2 ⟨x', hx', rfl, q1, q2, b2⟩; rw [En.val_eq]; have H2 : Hid (x'.rd = x.rd ∧ Row w2 w1.heap.size x'.k.a x'.k.c x'.k.l ∧ Row w2 w1.heap.size x'.v.a x'.v.c x'.v.l ∧ Below w1.heap.size w1 w2) := Lib.hid ⟨hx', q1, q2, b2⟩; clear hx' q1 q2 b2)
  clear x0 x1 x2 x3
  obtain ⟨kn, hkn⟩ : ∃ m, x'.k.l.length = m := ⟨_, rfl⟩
  obtain ⟨kv, hkv⟩ : ∃ m, x'.v.l.length = m := ⟨_, rfl⟩
  rw [hkn, hkv]
  have HKN := Lib.hid (And.intro hkn hkv)
  obtain ⟨w3, hw3⟩ : ∃ w3, w2.alloc (.cells #[.slice x'.k.a kn x'.k.c, .int .i64 x'.s, .bool x'.d, .slice x'.v.a kv x'.v.c, .int .i64 0, .int .i64 0, .int .i64 0, .int .i64 0, .int .i64 0, .int .i64 0, .int .i64 0, .int .i64 0, .int .i64 0, .int .i64 0, .int .i64 0, .int .i64 0] 93) = w3 := ⟨_, rfl⟩
  have H3 : Hid (InsS w w3 t (w.heap.size + 1) w2.heap.size x' la 0 ∧ Below w.heap.size w w3 ∧ w.heap.size + 2 ≤ w2.heap.size) := Lib.hid (by
    have b3 : Below w2.heap.size w2 w3 := by rw [← hw3]; exact below_new w2 _
    have hsz : w1.heap.size ≤ w2.heap.size := H2.out.2.2.2.size
    have b13 : Below w1.heap.size w1 w3 := H2.out.2.2.2.trans (b3.mono hsz)
    have bw : Below w.heap.size w w3 := H1.out.1.trans (b13.mono H1.out.1.size)
    refine ⟨⟨⟨bw.os, bw.tape, bw.output, bw.size, fun g hg => bw.block g hg.1⟩, (own_kept (HT.out.nrow) bw (Nat.le_refl _)), obj_kept H1.out.2.2 b13 (Nat.le_refl _), ?_, ⟨(H2.out.2.1.kept b3 (Nat.le_refl _)).mono H1.out.1.size, (H2.out.2.2.1.kept b3 (Nat.le_refl _)).mono H1.out.1.size⟩⟩, bw, by have := H1.out.2.1; omega⟩
    rw [← hw3, towerOf_zero]
    have := heap_alloc_new w2 (.cells #[.slice x'.k.a kn x'.k.c, .int .i64 x'.s, .bool x'.d, .slice x'.v.a kv x'.v.c, .int .i64 0, .int .i64 0, .int .i64 0, .int .i64 0, .int .i64 0, .int .i64 0, .int .i64 0, .int .i64 0, .int .i64 0, .int .i64 0, .int .i64 0, .int .i64 0] 93)
    rw [this]
    rw [← hkn, ← hkv]
    rfl)
  try rw [hw3]
  clear hw3 hkn hkv
  have HHT : Hid (Calls Try.prog 77 #[.pointer (some ⟨t.b, 0, none⟩)] w3 fun e w' => ∃ j : Nat, 1 ≤ j ∧ j ≤ 12 ∧ e = .returned (.int .i64 (j : Int)) ∧ Below w3.heap.size w3 w') := Lib.hid (mheight_any (HT.out.kept H3.out.2.1) (by have := HF.out; omega))
  go_upto_region 3 with (go_at_call 77; refine HHT.out.mono ?_; rintro e w4 ⟨j, hj1, hj12, rfl, b4⟩; have H4 : Hid (InsS w w4 t (w.heap.size + 1) w2.heap.size x' la 0 ∧ 1 ≤ j) := Lib.hid ⟨H3.out.1.kept b4, hj1⟩; clear b4 hj1)
  obtain ⟨n, hn⟩ : ∃ n, t.ns.length = n := ⟨_, rfl⟩
  have HN := Lib.hid hn
  clear hn
  go_loopw [14] (fun t14 wr => ∃ h : Nat, h ≤ j ∧ t14 = .int .i64 h ∧ Hid (InsS w wr t (w.heap.size + 1) w2.heap.size x' la h)) (fun t14 _ => j - (intOf t14).toNat)
  case atStart => exact ⟨0, by omega, rfl, Lib.hid H4.out.1⟩
  case round =>
    obtain ⟨h, hh, rfl, hr⟩ := hrel
    by_cases hlt : h < j
    · have h12 : h < 12 := by omega
      obtain ⟨ad, hA, ⟨c0, c1, -, -, -⟩, -⟩ := hr.out.step HT.out (by omega) (by have := H3.out.2.2; omega) (by have := H3.out.2.2; omega) h12 HLB.out
      obtain ⟨a, ha⟩ : ∃ a, la.getD h 0 = a := ⟨_, rfl⟩
      have HAA := Lib.hid (And.intro ha hA)
      rw [ha] at c0
      rw [HN.out] at c1
      have a0 : (a : Int) < n := by have := HLB.out h h12; have := HN.out; omega
      have h0 : (h : Int) < j := by omega
      have h1 : (h : Int) < 12 := by omega
      clear ha hA
      go_upto_region 5 with fail
      go_region
      have R5 : Hid (InsS w wr.drew t (w.heap.size + 1) w2.heap.size x' la h) := Lib.hid (hr.out.kept (Below.refl _ _).drew)
      clear c0 c1
      generalize wr.drew = w5 at R5 ⊢
      obtain ⟨ad', hA', ⟨-, c1, c2, ⟨u, c3⟩, c4⟩, hst⟩ := R5.out.step HT.out (by omega) (by have := H3.out.2.2; omega) (by have := H3.out.2.2; omega) h12 HLB.out
      obtain rfl : ad = ad' := by rw [HAA.out.2] at hA'; injection hA'
      obtain ⟨v, hv⟩ : ∃ v, nx t.ns h a = v := ⟨_, rfl⟩
      rw [HAA.out.1, hv] at c2
      rw [HAA.out.1, hv] at hst
      rw [HN.out] at c1
      obtain ⟨d1, ⟨u2, d2⟩, d3, hst2⟩ := hst _ rfl
      have HST := Lib.hid hst2
      rw [HN.out] at d1 HST
      clear hst hst2 hA'
      go_upto_region 7 with fail
      clear c1 c2 c3 c4
      generalize w5.setCell ⟨w2.heap.size, 4 + h, none⟩ (.int .i64 (v : Int)) = w6 at d1 d2 d3 HST ⊢
      go_region
      have RF : Hid (InsS w (w6.setCell ⟨(ad.add (a * 16)).block, (ad.add (a * 16)).off + 4 + h, none⟩ (.int .i64 (n : Int))).drew t (w.heap.size + 1) w2.heap.size x' la (h + 1)) := Lib.hid (InsS.kept HST.out (Below.refl _ _).drew)
      clear d1 d2 d3 HST
      generalize (w6.setCell ⟨(ad.add (a * 16)).block, (ad.add (a * 16)).off + 4 + h, none⟩ (.int .i64 (n : Int))).drew = w7 at RF ⊢
      go_wp2_with fail
      go_roundw
      case rel => exact ⟨h + 1, by omega, by go_num, RF⟩
      case measure => simp [intOf]; omega
    · obtain rfl : j = h := by omega
      have HS := Lib.hid hr.out
      clear hr hlt hh
      obtain ⟨g, hA, -, hgs, -⟩ := HT.out.nrow.place HT.out.skip.pos
      obtain ⟨t0, t1, t2, t3, t4, t5, t6, t7, t8, t9, t10, t11, hτ⟩ := twelve (towerOf_len t.ns la j)
      have HTA := Lib.hid (And.intro hτ hA)
      have hnb := HS.out.nb
      rw [hτ, show (x'.cells ++ tvals [t0, t1, t2, t3, t4, t5, t6, t7, t8, t9, t10, t11]).toArray = #[.slice x'.k.a x'.k.l.length x'.k.c, .int .i64 x'.s, .bool x'.d, .slice x'.v.a x'.v.l.length x'.v.c, .int .i64 (t0 : Int), .int .i64 (t1 : Int), .int .i64 (t2 : Int), .int .i64 (t3 : Int), .int .i64 (t4 : Int), .int .i64 (t5 : Int), .int .i64 (t6 : Int), .int .i64 (t7 : Int), .int .i64 (t8 : Int), .int .i64 (t9 : Int), .int .i64 (t10 : Int), .int .i64 (t11 : Int)] from rfl, HKN.out.1, HKN.out.2] at hnb
      have c1 := (show wr.cell? ⟨t.b, 1, none⟩ = some (.slice (some ⟨g, 0, none⟩) n t.nc) from by rw [← hA, ← HN.out]; simp [World.cell?, (HS.out.rest HT.out).1])
      obtain ⟨y0, y1, y2, y3, y4, y5, y6, y7, y8, y9, y10, y11, y12, y13, y14, y15⟩ := cells_sixteen hnb
      have cA : ∀ o, (wr.alloc o).cell? ⟨t.b, 1, none⟩ = some (.slice (some ⟨g, 0, none⟩) n t.nc) := fun o => by rw [← hA, ← HN.out]; simp [World.cell?, obj_kept (HS.out.rest HT.out).1 (below_new wr o) (Nat.le_refl _)]
      have cB : ∀ o, (wr.alloc o).drew.cell? ⟨t.b, 1, none⟩ = some (.slice (some ⟨g, 0, none⟩) n t.nc) := cA
      have HNR : Hid (Nrow wr 0 (some ⟨g, 0, none⟩) t.nc (raise t.ns la t.ns.length j)) := Lib.hid (hA ▸ HS.out.nrow)
      have HRL : Hid ((raise t.ns la t.ns.length j).length = n) := Lib.hid (by rw [raise_len]; exact HN.out)
      clear hτ hA hnb
      go_upto_region 9 with fail
      go_region_law (refine step_append_nrow _ (by rfl) (.tmp 49) (.tmp 51) (by rfl) 0 (some ⟨g, 0, none⟩) t.nc (raise t.ns la t.ns.length j) ⟨x', [t0, t1, t2, t3, t4, t5, t6, t7, t8, t9, t10, t11]⟩ _ n 1 rfl rfl HRL.out (own_kept HNR.out (by repeat (first | exact Below.refl _ _ | refine Below.drew ?_ | refine below_al ?_ _)) (Nat.le_refl _)) (lit_node _ _ _ (by rw [← HKN.out.1, ← HKN.out.2]; rfl)) (Nat.zero_le _) (by have := HRL.out; have := HF.out; have := HN.out; omega) ?_; intro A8 c8 w8 r8 b8 g8 p8; have H8 : Hid (Ins9 w w8 t A8 c8 (putN t.ns la j x') x') := Lib.hid (ins9_of HS.out HT.out HTA.out.1 HTA.out.2 HRL.out (by repeat (first | exact Below.refl _ _ | refine Below.drew ?_ | refine below_al ?_ _)) r8 g8 p8); obtain ⟨-, z1⟩ := box_two H8.out.obj; have f1 := frozen_two H8.out.obj; clear r8 b8 g8 p8)
      all_goals
        have H9 := Lib.hid (H8.out.done HT.out H2.out.1 ⟨HX.out.1.byt, HX.out.2.byt⟩ HLAST.out HNE.out.1 HNE.out.2 H4.out.2 hj12)
        rw [HN.out] at H9
        clear c1 cA cB y0 y1 y2 y3 y4 y5 y6 y7 y8 y9 y10 y11 y12 y13 y14 y15 z1 f1 H8 HNR
        go_wp2_with fail
        go_end0
        exact ⟨rfl, by rw [HN.out]; exact H9.out⟩
end Go.Proofs.Ytcffpkflijpdjaa
namespace Go.Proofs.Ytcffpkflijpdjaa
open Go.RowKit
/-- What Put answers, and what the table is then. -/
def PutR (t : MT) (x : Er) (w : World) (e : Ending) (w' : World) : Prop := ∃ (er : Int) (t' : MT), e = .returned (.int .i64 er) ∧ MTab w' t' ∧ t'.b = t.b ∧ Tds t.own t'.own w w' ∧ ((er = 30 ∧ ¬ GoodE x ∧ t' = t) ∨ (er = 31 ∧ GoodE x ∧ (∃ y ∈ t.has, ordE y x = 0) ∧ t' = t) ∨ (er = 0 ∧ GoodE x ∧ t'.has.Perm (x :: t.has) ∧ t'.ns.length = t.ns.length + 1))
set_option maxRecDepth 100000 in
set_option maxHeartbeats 16000000 in
theorem mput_any {w : World} {t : MT} (h : MTab w t) (x : En) (hx : EIn w x) (hfit : EFit x) (hk : x.k.l.length ≤ 140737488355328) (hv : x.v.l.length ≤ 140737488355328) (hf : (t.ns.length + 1) * 160 ≤ 140737488355328) : Calls Try.prog 16 #[.pointer (some ⟨t.b, 0, none⟩), x.val] w (PutR t x.rd w) := by
  have HT := Lib.hid h
  have HX := Lib.hid hx
  have HIN := Lib.hid (fun (w' : World) (t' : MT) (h' : MTab w' t') (hx' : EIn w' x) (la : List Nat) (hl : la.length = 12) (hlast : LastOk t'.ns x.rd la) (hne : nx t'.ns 0 (la.getD 0 0) = 0 ∨ ordE (eo t'.ns (nx t'.ns 0 (la.getD 0 0))) x.rd ≠ 0) (hg : GoodE x.rd) (hf : (t'.ns.length + 1) * 160 ≤ 140737488355328) => minsert_any h' x hx' hk hv la hl hlast hne hg hf)
  have HF := Lib.hid hf
  obtain ⟨gd, hgd⟩ : ∃ g, decide (GoodE x.rd) = g := ⟨_, rfl⟩
  have HMB := Lib.hid (fun W (_ : Below w.heap.size w W) => mayBe_any x W hfit (by omega) (by omega))
  have HAH := Lib.hid (fun W (hW : Below w.heap.size w W) => mahead_any (h.kept hW) x (hx.kept hW))
  have HGD := Lib.hid hgd
  simp only [hgd] at HMB
  rw [En.val_eq] at HMB HAH ⊢
  simp only [En.val_eq] at HIN
  obtain ⟨xn, hxn⟩ : ∃ m, x.k.l.length = m := ⟨_, rfl⟩
  obtain ⟨xv, hxv⟩ : ∃ m, x.v.l.length = m := ⟨_, rfl⟩
  have HXN := Lib.hid (And.intro hxn hxv)
  simp only [hxn, hxv] at HMB HAH HIN ⊢
  obtain ⟨HB1, C1⟩ := box_cells w (.slice x.k.a xn x.k.c) (.int .i64 x.s) (.bool x.d) (.slice x.v.a xv x.v.c)
  obtain ⟨w1, hw1⟩ : ∃ w1, w.alloc (.cells #[.slice x.k.a xn x.k.c, .int .i64 x.s, .bool x.d, .slice x.v.a xv x.v.c] 26) = w1 := ⟨_, rfl⟩
  rw [hw1] at C1 HB1
  obtain ⟨x0, x1, x2, x3⟩ := C1 w1 (Below.refl _ _)
  have HBX := Lib.hid C1
  have HBEL := Lib.hid HB1
  unfold PutR
  clear h hx hfit hk hv hf hgd hxn hxv C1 HB1
  cases gd
  · go_enter Try.func16, Try.ntmps16
    go_wp2_with (go_at_call 50; refine (HMB.out w1 HBEL.out).mono ?_; rintro e w2 ⟨rfl, b2⟩; have B2 : Hid (Below w.heap.size w w2) := Lib.hid (HBEL.out.trans (b2.mono HBEL.out.size)); clear b2)
    go_ret
    exact ⟨30, t, rfl, HT.out.kept B2.out, rfl, Tds.of_below B2.out, .inl ⟨rfl, of_decide_eq_false HGD.out, rfl⟩⟩
  · go_enter Try.func16, Try.ntmps16
    go_upto_region 5 with (go_at_call 50; refine (HMB.out w1 HBEL.out).mono ?_; rintro e w2 ⟨rfl, b2⟩; have B2 : Hid (Below w1.heap.size w1 w2) := Lib.hid b2; clear b2)
    clear x0 x1 x2 x3
    obtain ⟨x0, x1, x2, x3⟩ := HBX.out w2 B2.out
    have BW2 : Hid (Below w.heap.size w w2) := Lib.hid (HBEL.out.trans (B2.out.mono HBEL.out.size))
    go_upto_region 6 with (go_at_call 51; refine (HAH.out w2 BW2.out).mono ?_; rintro e w3 ⟨la, hl, rfl, hlast, b3⟩; have H3 : Hid (la.length = 12 ∧ LastOk t.ns x.rd la ∧ Below w2.heap.size w2 w3) := Lib.hid ⟨hl, hlast, b3⟩; obtain ⟨l0, l1, l2, l3, l4, l5, l6, l7, l8, l9, l10, l11, hla⟩ := twelve hl; have HLA := Lib.hid hla; rw [hla, show (tvals [l0, l1, l2, l3, l4, l5, l6, l7, l8, l9, l10, l11]).toArray = #[.int .i64 (l0 : Int), .int .i64 (l1 : Int), .int .i64 (l2 : Int), .int .i64 (l3 : Int), .int .i64 (l4 : Int), .int .i64 (l5 : Int), .int .i64 (l6 : Int), .int .i64 (l7 : Int), .int .i64 (l8 : Int), .int .i64 (l9 : Int), .int .i64 (l10 : Int), .int .i64 (l11 : Int)] from rfl]; clear hl hlast b3 hla)
    clear x0 x1 x2 x3
    obtain ⟨w4, hw4⟩ : ∃ w4, w3.alloc (.cells #[.int .i64 (l0 : Int), .int .i64 (l1 : Int), .int .i64 (l2 : Int), .int .i64 (l3 : Int), .int .i64 (l4 : Int), .int .i64 (l5 : Int), .int .i64 (l6 : Int), .int .i64 (l7 : Int), .int .i64 (l8 : Int), .int .i64 (l9 : Int), .int .i64 (l10 : Int), .int .i64 (l11 : Int)] 91) = w4 := ⟨_, rfl⟩
    have HTW : Hid (w4.heap[w3.heap.size]? = some (.cells #[.int .i64 (l0 : Int), .int .i64 (l1 : Int), .int .i64 (l2 : Int), .int .i64 (l3 : Int), .int .i64 (l4 : Int), .int .i64 (l5 : Int), .int .i64 (l6 : Int), .int .i64 (l7 : Int), .int .i64 (l8 : Int), .int .i64 (l9 : Int), .int .i64 (l10 : Int), .int .i64 (l11 : Int)] 91 (0, 0))) := Lib.hid (by rw [← hw4]; exact heap_alloc_new w3 _)
    have HB14 : Hid (Below w1.heap.size w1 w4) := Lib.hid (below_then (below_then B2.out H3.out.2.2) (by rw [← hw4]; exact below_new w3 _))
    have HW4 : Hid (Below w.heap.size w w4) := Lib.hid (HBEL.out.trans (HB14.out.mono HBEL.out.size))
    have HL0 : Hid (l0 < t.ns.length ∧ (l0 = 0 ∨ ordE (eo t.ns l0) x.rd < 0) ∧ (nx t.ns 0 l0 = 0 ∨ ¬ ordE (eo t.ns (nx t.ns 0 l0)) x.rd < 0)) := Lib.hid (by have := H3.out.2.1 0 (by omega); rw [HLA.out] at this; exact this)
    have HINS : Hid (∀ W, Below w.heap.size w W → (nx t.ns 0 l0 = 0 ∨ ordE (eo t.ns (nx t.ns 0 l0)) x.rd ≠ 0) → Calls Try.prog 54 #[.pointer (some ⟨t.b, 0, none⟩), .agg #[.slice x.k.a xn x.k.c, .int .i64 x.s, .bool x.d, .slice x.v.a xv x.v.c], .agg #[.int .i64 (l0 : Int), .int .i64 (l1 : Int), .int .i64 (l2 : Int), .int .i64 (l3 : Int), .int .i64 (l4 : Int), .int .i64 (l5 : Int), .int .i64 (l6 : Int), .int .i64 (l7 : Int), .int .i64 (l8 : Int), .int .i64 (l9 : Int), .int .i64 (l10 : Int), .int .i64 (l11 : Int)]] W fun e w' => e = .returned (.tuple #[]) ∧ ∃ t' : MT, t'.b = t.b ∧ MTab w' t' ∧ t'.has.Perm (x.rd :: t.has) ∧ t'.ns.length = t.ns.length + 1 ∧ Tds t.own t'.own W w') := Lib.hid (fun W hW hne => by
      have := HIN.out W t (HT.out.kept hW) (HX.out.kept hW) la H3.out.1 H3.out.2.1 (by rw [HLA.out]; exact hne) (of_decide_eq_true HGD.out) HF.out
      rw [HLA.out] at this
      exact this)
    try rw [hw4]
    clear hw4 HIN HAH HMB
    obtain ⟨⟨y0, -⟩, -⟩ := cells_twelve HTW.out
    obtain ⟨p, hp⟩ : ∃ p, nx t.ns 0 l0 = p := ⟨_, rfl⟩
    have HP := Lib.hid hp
    have HNX : Hid (Calls Try.prog 52 #[.pointer (some ⟨t.b, 0, none⟩), .int .i64 l0] w4 fun e w' => e = .returned (.int .i64 (p : Nat)) ∧ w4 = w') := Lib.hid (by have := mnext_any (HT.out.kept HW4.out) HL0.out.1; rw [hp] at this; exact this.mono (fun e w' h => ⟨h.1, h.2.symm⟩))
    clear hp
    go_upto_region 7 with (go_at_call 52; refine HNX.out.mono ?_; rintro e w' ⟨rfl, rfl⟩)
    clear y0 HNX
    by_cases hp0 : p = 0
    · subst hp0
      refine wp_region_held (S := fun _ => True) (by kernel_rfl) ?_
      change wpAnyH _ _ _ _ _ _ _ _ (World.drew _)
      have s0 : (fun _ : World => True) w4.drew := trivial
      refine wpAnyH_take (i := 0) (v := .int .i64 0) rfl (by kernel_rfl) (by kernel_rfl) (by kernel_rfl) (fun _ _ _ h => h) (Or.inl ⟨by first | kernel_rfl | rfl, fun _ hS => by go_simp⟩) s0 ?_
      try simp only [Act.put, List.getElem_toArray, List.getElem_cons_zero, List.getElem_cons_succ, List.setIfInBounds_toArray, List.set_cons_zero, List.set_cons_succ]
      refine wpAnyH_take (i := 1) (v := .bool false) rfl (by kernel_rfl) (by kernel_rfl) (by kernel_rfl) (fun _ _ _ h => h) (Or.inl ⟨by first | kernel_rfl | rfl, fun _ hS => by go_simp⟩) s0 ?_
      try simp only [Act.put, List.getElem_toArray, List.getElem_cons_zero, List.getElem_cons_succ, List.setIfInBounds_toArray, List.set_cons_zero, List.set_cons_succ]
      refine wpAnyH_take (i := 2) (v := .bool false) rfl (by kernel_rfl) (by kernel_rfl) (by kernel_rfl) (fun _ _ _ h => h) (Or.inl ⟨by first | kernel_rfl | rfl, fun _ hS => by go_simp⟩) s0 ?_
      try simp only [Act.put, List.getElem_toArray, List.getElem_cons_zero, List.getElem_cons_succ, List.setIfInBounds_toArray, List.set_cons_zero, List.set_cons_succ]
      refine wpAnyH_take (i := 3) (v := undef) rfl (by kernel_rfl) (by kernel_rfl) (by kernel_rfl) (fun _ _ _ h => h) (Or.inr ⟨by first | kernel_rfl | rfl, rfl⟩) s0 ?_
      try simp only [Act.put, List.getElem_toArray, List.getElem_cons_zero, List.getElem_cons_succ, List.setIfInBounds_toArray, List.set_cons_zero, List.set_cons_succ]
      refine wpAnyH_take (i := 4) (v := undef) rfl (by kernel_rfl) (by kernel_rfl) (by kernel_rfl) (fun _ _ _ h => h) (Or.inr ⟨by first | kernel_rfl | rfl, rfl⟩) s0 ?_
      try simp only [Act.put, List.getElem_toArray, List.getElem_cons_zero, List.getElem_cons_succ, List.setIfInBounds_toArray, List.set_cons_zero, List.set_cons_succ]
      refine wpAnyH_take (i := 5) (v := undef) rfl (by kernel_rfl) (by kernel_rfl) (by kernel_rfl) (fun _ _ _ h => h) (Or.inr ⟨by first | kernel_rfl | rfl, rfl⟩) s0 ?_
      try simp only [Act.put, List.getElem_toArray, List.getElem_cons_zero, List.getElem_cons_succ, List.setIfInBounds_toArray, List.set_cons_zero, List.set_cons_succ]
      refine wpAnyH_take (i := 6) (v := undef) rfl (by kernel_rfl) (by kernel_rfl) (by kernel_rfl) (fun _ _ _ h => h) (Or.inr ⟨by first | kernel_rfl | rfl, rfl⟩) s0 ?_
      try simp only [Act.put, List.getElem_toArray, List.getElem_cons_zero, List.getElem_cons_succ, List.setIfInBounds_toArray, List.set_cons_zero, List.set_cons_succ]
      refine wpAnyH_take (i := 7) (v := undef) rfl (by kernel_rfl) (by kernel_rfl) (by kernel_rfl) (fun _ _ _ h => h) (Or.inr ⟨by first | kernel_rfl | rfl, rfl⟩) s0 ?_
      try simp only [Act.put, List.getElem_toArray, List.getElem_cons_zero, List.getElem_cons_succ, List.setIfInBounds_toArray, List.set_cons_zero, List.set_cons_succ]
      refine wpAnyH_take (i := 8) (v := undef) rfl (by kernel_rfl) (by kernel_rfl) (by kernel_rfl) (fun _ _ _ h => h) (Or.inr ⟨by first | kernel_rfl | rfl, rfl⟩) s0 ?_
      try simp only [Act.put, List.getElem_toArray, List.getElem_cons_zero, List.getElem_cons_succ, List.setIfInBounds_toArray, List.set_cons_zero, List.set_cons_succ]
      refine wpAnyH_take (i := 9) (v := undef) rfl (by kernel_rfl) (by kernel_rfl) (by kernel_rfl) (fun _ _ _ h => h) (Or.inr ⟨by first | kernel_rfl | rfl, rfl⟩) s0 ?_
      try simp only [Act.put, List.getElem_toArray, List.getElem_cons_zero, List.getElem_cons_succ, List.setIfInBounds_toArray, List.set_cons_zero, List.set_cons_succ]
      refine wpAnyH_take (i := 10) (v := undef) rfl (by kernel_rfl) (by kernel_rfl) (by kernel_rfl) (fun _ _ _ h => h) (Or.inr ⟨by first | kernel_rfl | rfl, rfl⟩) s0 ?_
      try simp only [Act.put, List.getElem_toArray, List.getElem_cons_zero, List.getElem_cons_succ, List.setIfInBounds_toArray, List.set_cons_zero, List.set_cons_succ]
      refine wpAnyH_take (i := 11) (v := undef) rfl (by kernel_rfl) (by kernel_rfl) (by kernel_rfl) (fun _ _ _ h => h) (Or.inr ⟨by first | kernel_rfl | rfl, rfl⟩) s0 ?_
      try simp only [Act.put, List.getElem_toArray, List.getElem_cons_zero, List.getElem_cons_succ, List.setIfInBounds_toArray, List.set_cons_zero, List.set_cons_succ]
      refine wpAnyH_take (i := 12) (v := undef) rfl (by kernel_rfl) (by kernel_rfl) (by kernel_rfl) (fun _ _ _ h => h) (Or.inr ⟨by first | kernel_rfl | rfl, rfl⟩) s0 ?_
      try simp only [Act.put, List.getElem_toArray, List.getElem_cons_zero, List.getElem_cons_succ, List.setIfInBounds_toArray, List.set_cons_zero, List.set_cons_succ]
      refine wpAnyH_take (i := 13) (v := undef) rfl (by kernel_rfl) (by kernel_rfl) (by kernel_rfl) (fun _ _ _ h => h) (Or.inr ⟨by first | kernel_rfl | rfl, rfl⟩) s0 ?_
      try simp only [Act.put, List.getElem_toArray, List.getElem_cons_zero, List.getElem_cons_succ, List.setIfInBounds_toArray, List.set_cons_zero, List.set_cons_succ]
      refine wpAnyH_take (i := 14) (v := .bool false) rfl (by kernel_rfl) (by kernel_rfl) (by kernel_rfl) (fun _ _ _ h => h) (Or.inl ⟨by first | kernel_rfl | rfl, fun _ hS => by go_simp⟩) s0 ?_
      try simp only [Act.put, List.getElem_toArray, List.getElem_cons_zero, List.getElem_cons_succ, List.setIfInBounds_toArray, List.set_cons_zero, List.set_cons_succ]
      refine wpAnyH_done (by kernel_rfl) ?_ _
      try simp only [Act.put, List.getElem_toArray, List.getElem_cons_zero, List.getElem_cons_succ, List.setIfInBounds_toArray, List.set_cons_zero, List.set_cons_succ]
      have B5 : Hid (Below w4.heap.size w4 w4.drew) := Lib.hid (Below.refl _ _).drew
      generalize w4.drew = w5 at B5 ⊢
      have HI9 := Lib.hid (HINS.out _ (HW4.out.trans ((B5.out).mono HW4.out.size)) (.inl HP.out))
      obtain ⟨x0, x1, x2, x3⟩ := HBX.out _ (HB14.out.trans ((B5.out).mono HB14.out.size))
      obtain ⟨⟨y0, y1, y2, y3, y4, y5, y6, y7, y8, y9, y10, y11⟩, -⟩ := cells_twelve (obj_kept HTW.out (B5.out) (Nat.le_refl _))
      go_wp2_with (go_at_call 54; refine HI9.out.mono ?_; rintro e w9 ⟨rfl, t', e1, e2, e3, e4, e5⟩; have H9 : Hid (t'.b = t.b ∧ MTab w9 t' ∧ t'.has.Perm (x.rd :: t.has) ∧ t'.ns.length = t.ns.length + 1 ∧ Tds t.own t'.own w w9) := Lib.hid ⟨e1, e2, e3, e4, (Tds.of_below (HW4.out.trans ((B5.out).mono HW4.out.size))).trans e5⟩; clear e1 e2 e3 e4 e5)
      go_ret
      exact ⟨0, t', rfl, H9.out.2.1, H9.out.1, H9.out.2.2.2.2, .inr (.inr ⟨rfl, of_decide_eq_true HGD.out, H9.out.2.2.1, H9.out.2.2.2.1⟩)⟩
    · have hpn : p < t.ns.length := by
        rcases HT.out.skip.asc0 l0 HL0.out.1 with e | ⟨e, -⟩
        · rw [HP.out] at e; exact absurd e hp0
        · rw [HP.out] at e; exact e
      obtain ⟨ad, q, hA, hq, -, hE, -⟩ := (HT.out.kept HW4.out).node hpn
      obtain ⟨qn, hqn⟩ : ∃ m, q.e.k.l.length = m := ⟨_, rfl⟩
      obtain ⟨qv, hqv⟩ : ∃ m, q.e.v.l.length = m := ⟨_, rfl⟩
      obtain ⟨o, ho⟩ : ∃ o, ordE (eo t.ns p) x.rd = o := ⟨_, rfl⟩
      obtain ⟨n, hn⟩ : ∃ n, t.ns.length = n := ⟨_, rfl⟩
      have HO := Lib.hid ho
      have HOR : Hid (∀ W, Below w4.heap.size w4 W → Calls Try.prog 53 #[.agg #[.slice q.e.k.a qn q.e.k.c, .int .i64 q.e.s, .bool q.e.d, .slice q.e.v.a qv q.e.v.c], .agg #[.slice x.k.a xn x.k.c, .int .i64 x.s, .bool x.d, .slice x.v.a xv x.v.c]] W fun e w' => e = .returned (.int .i64 o) ∧ Below W.heap.size W w') := Lib.hid (fun W hW => by
        have := order_any q.e x W (hE.kept hW) (HX.out.kept (HW4.out.trans (hW.mono HW4.out.size)))
        rwa [En.val_eq, En.val_eq, hqn, hqv, HXN.out.1, HXN.out.2, ← eo_of hq, ho] at this)
      have HSC : Hid (∀ W, Below w4.heap.size w4 W → W.cell? ⟨t.b, 1, none⟩ = some (.slice (some ad) n t.nc) ∧ (W.cell? (ad.add (p * 16)) = some (.slice q.e.k.a qn q.e.k.c) ∧ W.cell? ⟨(ad.add (p * 16)).block, (ad.add (p * 16)).off + 1, none⟩ = some (.int .i64 q.e.s) ∧ W.cell? ⟨(ad.add (p * 16)).block, (ad.add (p * 16)).off + 2, none⟩ = some (.bool q.e.d) ∧ W.cell? ⟨(ad.add (p * 16)).block, (ad.add (p * 16)).off + 3, none⟩ = some (.slice q.e.v.a qv q.e.v.c)) ∧ W.cell? ⟨w.heap.size, 0, none⟩ = some (.slice x.k.a xn x.k.c) ∧ W.cell? ⟨w.heap.size, 1, none⟩ = some (.int .i64 x.s) ∧ W.cell? ⟨w.heap.size, 2, none⟩ = some (.bool x.d) ∧ W.cell? ⟨w.heap.size, 3, none⟩ = some (.slice x.v.a xv x.v.c)) := Lib.hid (fun W hW => by
        have hT := HT.out.kept (HW4.out.trans (hW.mono HW4.out.size))
        have h1 := (hT.cells).2
        rw [hA, hn] at h1
        have h2 := lies_node_at (hA ▸ hT.nrow.lies) hq
        have h3 := h2.1
        unfold AtE at h3
        rw [hqn, hqv] at h3
        exact ⟨h1, h3, HBX.out W (HB14.out.trans (hW.mono HB14.out.size))⟩)
      have HPN := Lib.hid (And.intro hp0 hpn)
      have i0 : (p : Int) < n := by omega
      have z0 : ((p : Int) != 0) = true := by simp; omega
      clear hqn hqv hq hE ho hp0 hpn hn hA
      have BB : Hid (Below w4.heap.size w4 w4) := Lib.hid (Below.refl _ _)
      by_cases ho0 : o = 0
      · have d0 : (o == 0) = true := by simpa using ho0
        have HO0 := Lib.hid ho0
        clear ho0
        go_region_held3 (fun W => W.cell? ⟨t.b, 1, none⟩ = some (.slice (some ad) n t.nc) ∧ (W.cell? (ad.add (p * 16)) = some (.slice q.e.k.a qn q.e.k.c) ∧ W.cell? ⟨(ad.add (p * 16)).block, (ad.add (p * 16)).off + 1, none⟩ = some (.int .i64 q.e.s) ∧ W.cell? ⟨(ad.add (p * 16)).block, (ad.add (p * 16)).off + 2, none⟩ = some (.bool q.e.d) ∧ W.cell? ⟨(ad.add (p * 16)).block, (ad.add (p * 16)).off + 3, none⟩ = some (.slice q.e.v.a qv q.e.v.c)) ∧ W.cell? ⟨w.heap.size, 0, none⟩ = some (.slice x.k.a xn x.k.c) ∧ W.cell? ⟨w.heap.size, 1, none⟩ = some (.int .i64 x.s) ∧ W.cell? ⟨w.heap.size, 2, none⟩ = some (.bool x.d) ∧ W.cell? ⟨w.heap.size, 3, none⟩ = some (.slice x.v.a xv x.v.c)) (first | exact HSC.out _ BB.out | exact HSC.out _ BB.out.drew | go_keep) (first
          | (go_at_call 53; refine (HOR.out _ (by first | exact BB.out | exact BB.out.drew)).mono ?_; rintro e w6 ⟨rfl, b6⟩; have BB : Hid (Below w4.heap.size w4 w6) := Lib.hid (below_then (by first | exact BB.out | exact BB.out.drew) b6); clear b6))
        all_goals
          go_wp2_with fail
          go_ret
          exact ⟨31, t, rfl, HT.out.kept (HW4.out.trans (BB.out.mono HW4.out.size)), rfl, Tds.of_below (HW4.out.trans (BB.out.mono HW4.out.size)), .inr (.inl ⟨rfl, of_decide_eq_true HGD.out, ⟨_, List.mem_map_of_mem ((HT.out.skip.all p).2 ⟨by have := HPN.out.1; omega, HPN.out.2⟩), HO.out.trans HO0.out⟩, rfl⟩)⟩
      · have d0 : (o == 0) = false := by simpa using ho0
        have HO0 := Lib.hid ho0
        clear ho0
        go_region_held3 (fun W => W.cell? ⟨t.b, 1, none⟩ = some (.slice (some ad) n t.nc) ∧ (W.cell? (ad.add (p * 16)) = some (.slice q.e.k.a qn q.e.k.c) ∧ W.cell? ⟨(ad.add (p * 16)).block, (ad.add (p * 16)).off + 1, none⟩ = some (.int .i64 q.e.s) ∧ W.cell? ⟨(ad.add (p * 16)).block, (ad.add (p * 16)).off + 2, none⟩ = some (.bool q.e.d) ∧ W.cell? ⟨(ad.add (p * 16)).block, (ad.add (p * 16)).off + 3, none⟩ = some (.slice q.e.v.a qv q.e.v.c)) ∧ W.cell? ⟨w.heap.size, 0, none⟩ = some (.slice x.k.a xn x.k.c) ∧ W.cell? ⟨w.heap.size, 1, none⟩ = some (.int .i64 x.s) ∧ W.cell? ⟨w.heap.size, 2, none⟩ = some (.bool x.d) ∧ W.cell? ⟨w.heap.size, 3, none⟩ = some (.slice x.v.a xv x.v.c)) (first | exact HSC.out _ BB.out | exact HSC.out _ BB.out.drew | go_keep) (first
          | (go_at_call 53; refine (HOR.out _ (by first | exact BB.out | exact BB.out.drew)).mono ?_; rintro e w6 ⟨rfl, b6⟩; have BB : Hid (Below w4.heap.size w4 w6) := Lib.hid (below_then (by first | exact BB.out | exact BB.out.drew) b6); clear b6))
        all_goals
          have HI9 := Lib.hid (HINS.out _ (HW4.out.trans ((BB.out).mono HW4.out.size)) (.inr (by rw [HP.out, HO.out]; exact HO0.out)))
          obtain ⟨x0, x1, x2, x3⟩ := HBX.out _ (HB14.out.trans ((BB.out).mono HB14.out.size))
          obtain ⟨⟨y0, y1, y2, y3, y4, y5, y6, y7, y8, y9, y10, y11⟩, -⟩ := cells_twelve (obj_kept HTW.out (BB.out) (Nat.le_refl _))
          go_wp2_with (go_at_call 54; refine HI9.out.mono ?_; rintro e w9 ⟨rfl, t', e1, e2, e3, e4, e5⟩; have H9 : Hid (t'.b = t.b ∧ MTab w9 t' ∧ t'.has.Perm (x.rd :: t.has) ∧ t'.ns.length = t.ns.length + 1 ∧ Tds t.own t'.own w w9) := Lib.hid ⟨e1, e2, e3, e4, (Tds.of_below (HW4.out.trans ((BB.out).mono HW4.out.size))).trans e5⟩; clear e1 e2 e3 e4 e5)
          go_ret
          exact ⟨0, t', rfl, H9.out.2.1, H9.out.1, H9.out.2.2.2.2, .inr (.inr ⟨rfl, of_decide_eq_true HGD.out, H9.out.2.2.1, H9.out.2.2.2.1⟩)⟩
end Go.Proofs.Ytcffpkflijpdjaa
namespace Go.Proofs.Ytcffpkflijpdjaa
open Go.RowKit
theorem info3 : (Try.prog.info? 3).map (fun i => (i.zero, i.size, i.bytes)) = some (some (.int .i64 0), 1, 8) := by kernel_rfl
theorem irow_made (w : World) : Irow (w.alloc (.cells #[] 3)) w.heap.size (some ⟨w.heap.size, 0, none⟩) 0 [] :=
  World.ownsRow_lit w #[] 0 (Nat.le_refl _) (Nat.zero_le _) rfl
theorem wpList_append_irow (w : World) {ops : Array Oper} {rest : List Oper} {o : Oper} {a : Act} {Q : Exit → Act → World → Prop} (hgd : o.guard = none) (s x : Operand)
    (ho : o.op = .call { callee := .builtin .append, args := #[s, x], argTypes := #[37, 37] })
    (B : Nat) (A : Option Addr) (c : Nat) (M : List Int) (C : Option Addr) (m cm : Nat) (hs : a.eval s = .slice A 0 c) (hx : a.eval x = .slice C m cm) (em : M.length = m) (h : Irow w B A c []) (hm : Lies w C (ivals M)) (hB : B ≤ w.heap.size) (hr : m * 8 ≤ 140737488355328)
    (k : ∀ A' c' w', Irow w' B A' c' M → Below B w w' → wpList Try.prog ops Q rest (a.put o.dst (.slice A' m c')) w') : wpList Try.prog ops Q (o :: rest) a w := by
  subst em
  obtain ⟨i, hi, hz0, hz1, hz2⟩ := info_parts info3
  refine wpList_plain hgd fun K hK => ?_
  obtain ⟨A', c', w', r, h2, h3⟩ := run_append_lies w 37 o.type 3 i (.int .i64 0) 1 8 Try.underlying37 hi hz0 hz1 hz2 rfl (by decide) B A 0 c [] h C M.length cm (ivals M) (by simp [ivals_len]) hm ivals_one (by unfold maxLen; omega) (by omega) hB
  rw [Nat.zero_add] at r h2
  have k' := k A' c' w' (by unfold Irow; simpa using h2) h3
  unfold Oper.wp execOp
  simp only [ho, resolve, invoke, builtin, Sem.run_bind, Sem.run_pure, Result.andThen_ok, List.map_toArray, List.map_cons, List.map_nil, hs, hx, r]
  exact hK _ _ k'
set_option maxRecDepth 100000 in
theorem cloneI_any (A : Option Addr) (L : List Int) (n c : Nat) (w : World) (hn : L.length = n) (h : Lies w A (ivals L)) (hl : n * 8 ≤ 140737488355328) :
    Calls Try.prog 56 #[.slice A n c] w fun e w' => ∃ A' c', e = .returned (.slice A' n c') ∧ Irow w' w.heap.size A' c' L ∧ Below w.heap.size w w' := by
  subst hn
  cases A with
  | none =>
    have hL : L = [] := by
      rcases h with h | ⟨_, h, _⟩
      · simpa [ivals] using h
      · cases h
    subst hL
    clear h hl
    rw [List.length_nil]
    have hnil := fun W => Go.Lib.run_eql_slice_nil_nil (P := Try.prog) W 0 c Try.underlying37
    go_enter Try.func56, Try.ntmps56
    go_wp2_with fail
    go_ret
    exact ⟨none, 0, rfl, Irow.nil _ _, Below.refl _ _⟩
  | some ad =>
    have HB : Hid (Lies (w.alloc (.cells #[] 3)) (some ad) (ivals L)) := Lib.hid (Lies.kept h (below_new w _))
    have HL := Lib.hid hl
    have M0 := Lib.hid (irow_made w)
    have B0 := Lib.hid (below_new w (.cells #[] 3))
    obtain ⟨n, hn⟩ : ∃ n, L.length = n := ⟨_, rfl⟩
    have HN := Lib.hid hn
    rw [hn]
    clear h hl hn
    have hnil := fun W => Go.Lib.run_eql_slice_some_nil (P := Try.prog) W ad n c Try.underlying37
    go_enter Try.func56, Try.ntmps56
    go_wp2_with (at_builtin; refine wpList_append_irow _ rfl (.tmp 5) (.tmp 6) rfl w.heap.size _ 0 L _ n c rfl rfl HN.out M0.out HB.out (by simp) (by have := HL.out; have := HN.out; omega) ?_; intro A1 c1 w1 r1 b1; have R1 := Lib.hid r1; have B1 := Lib.hid b1; clear r1 b1)
    go_ret
    exact ⟨A1, c1, rfl, R1.out, B0.out.trans B1.out⟩
def nodeZ : Array Value := #[.slice none 0 0, .int .i64 0, .bool false, .slice none 0 0, .int .i64 0, .int .i64 0, .int .i64 0, .int .i64 0, .int .i64 0, .int .i64 0, .int .i64 0, .int .i64 0, .int .i64 0, .int .i64 0, .int .i64 0, .int .i64 0]
def headN : Nd := ⟨⟨⟨none, 0, []⟩, 0, false, ⟨none, 0, []⟩⟩, List.replicate 12 0⟩
theorem madeZ : madeCells zNode.cells 16 = nodeZ := by kernel_rfl
theorem make_one (W : World) : (Instr.makeSlice 94 (.int .i64 1) (.int .i64 1)).run Try.prog W = .ok (.slice (some ⟨W.heap.size, 0, none⟩) 1 1) (W.alloc (.cells #[.slice none 0 0, .int .i64 0, .bool false, .slice none 0 0, .int .i64 0, .int .i64 0, .int .i64 0, .int .i64 0, .int .i64 0, .int .i64 0, .int .i64 0, .int .i64 0, .int .i64 0, .int .i64 0, .int .i64 0, .int .i64 0] 93)) := by
  obtain ⟨i, hi, hz0, hz1, hz2⟩ := info_parts info93
  have hr := run_make (P := Try.prog) W 94 93 i zNode Try.underlying94 hi hz0 .i64 .i64 1 1 (by decide) (by decide) (by rw [hz2]; decide) (by decide)
  have e : madeCells zNode.cells (1 * i.size) = #[.slice none 0 0, .int .i64 0, .bool false, .slice none 0 0, .int .i64 0, .int .i64 0, .int .i64 0, .int .i64 0, .int .i64 0, .int .i64 0, .int .i64 0, .int .i64 0, .int .i64 0, .int .i64 0, .int .i64 0, .int .i64 0] := by rw [hz1]; exact madeZ
  rw [← e]
  exact hr
theorem head_row (W : World) : Nrow (W.alloc (.cells #[.slice none 0 0, .int .i64 0, .bool false, .slice none 0 0, .int .i64 0, .int .i64 0, .int .i64 0, .int .i64 0, .int .i64 0, .int .i64 0, .int .i64 0, .int .i64 0, .int .i64 0, .int .i64 0, .int .i64 0, .int .i64 0] 93)) 0 (some ⟨W.heap.size, 0, none⟩) 1 [headN] :=
  World.ownsRow_lit W _ 1 (Nat.zero_le _) (by decide) rfl
theorem skip_new : Skip [headN] [] := by
  refine ⟨Nat.le_refl _, fun h i hh hi => .inl ?_, ?_, fun j => ⟨fun h => (by cases h), fun h => ?_⟩, fun j h => by cases h⟩
  · have : i = 0 := by simp at hi; omega
    subst this
    unfold nx headN
    simp only [List.getElem?_cons_zero]
    rw [List.getD_eq_getElem?_getD, List.getElem?_replicate_of_lt hh]
    rfl
  · show nx [headN] 0 0 = 0
    rfl
  · simp at h; omega
set_option maxRecDepth 100000 in
set_option maxHeartbeats 8000000 in
theorem mnew_any {w : World} (A : Option Addr) (L : List Int) (n c : Nat) (hn : L.length = n) (h : Lies w A (ivals L)) (hl : n * 8 ≤ 140737488355328) : Calls Try.prog 22 #[.slice A n c] w fun e w' => ∃ t : MT, e = .returned (.pointer (some ⟨t.b, 0, none⟩)) ∧ MTab w' t ∧ t.has = [] ∧ t.ns.length = 1 ∧ (∀ g, t.own g → w.heap.size ≤ g) ∧ Below w.heap.size w w' := by
  have HC := Lib.hid (fun W (hW : Below w.heap.size w W) => cloneI_any A L n c W hn (h.kept hW) hl)
  have HN := Lib.hid hn
  have hmk := make_one
  clear h hl hn
  go_enter Try.func22, Try.ntmps22
  go_upto_region 1 with fail
  go_region_held3 (fun _ => True) (exact trivial) (first
    | (go_at_call 56; refine (HC.out _ (by repeat (first | exact Below.refl _ _ | refine Below.drew ?_ | refine below_al ?_ _))).mono ?_; rintro e w6 ⟨A', c', rfl, hr, hb⟩; have H6 := Lib.hid (And.intro hr hb); clear hr hb))
  all_goals
    clear hmk
  · obtain ⟨W9, hW9⟩ : ∃ W9, ((w6.alloc (.cells #[.slice none 0 0, .int .i64 0, .bool false, .slice none 0 0, .int .i64 0, .int .i64 0, .int .i64 0, .int .i64 0, .int .i64 0, .int .i64 0, .int .i64 0, .int .i64 0, .int .i64 0, .int .i64 0, .int .i64 0, .int .i64 0] 93)).alloc (.cells #[.slice A' n c', .slice (some ⟨w6.heap.size, 0, none⟩) 1 1] 96)) = W9 := ⟨_, rfl⟩
    have HB6 : Hid (Below w.heap.size w w6) := Lib.hid (below_then (Below.refl _ _).drew H6.out.2)
    have H9 : Hid (MTab W9 ⟨w6.heap.size + 1, A', c', L, some ⟨w6.heap.size, 0, none⟩, 1, [headN], []⟩ ∧ Below w.heap.size w W9) := Lib.hid (by
      have b1 := below_new w6 (.cells #[.slice none 0 0, .int .i64 0, .bool false, .slice none 0 0, .int .i64 0, .int .i64 0, .int .i64 0, .int .i64 0, .int .i64 0, .int .i64 0, .int .i64 0, .int .i64 0, .int .i64 0, .int .i64 0, .int .i64 0, .int .i64 0] 93)
      have b2 := below_new (w6.alloc (.cells #[.slice none 0 0, .int .i64 0, .bool false, .slice none 0 0, .int .i64 0, .int .i64 0, .int .i64 0, .int .i64 0, .int .i64 0, .int .i64 0, .int .i64 0, .int .i64 0, .int .i64 0, .int .i64 0, .int .i64 0, .int .i64 0] 93)) (.cells #[.slice A' n c', .slice (some ⟨w6.heap.size, 0, none⟩) 1 1] 96)
      rw [hW9] at b2
      have hsz : (w6.alloc (.cells #[.slice none 0 0, .int .i64 0, .bool false, .slice none 0 0, .int .i64 0, .int .i64 0, .int .i64 0, .int .i64 0, .int .i64 0, .int .i64 0, .int .i64 0, .int .i64 0, .int .i64 0, .int .i64 0, .int .i64 0, .int .i64 0] 93)).heap.size = w6.heap.size + 1 := by simp
      refine ⟨⟨?_, ?_, own_kept (head_row w6) b2 (Nat.le_refl _), fun q hq => ?_, fun q hq => ?_, skip_new⟩, below_then (below_then HB6.out b1) b2⟩
      · have := heap_alloc_new (w6.alloc (.cells #[.slice none 0 0, .int .i64 0, .bool false, .slice none 0 0, .int .i64 0, .int .i64 0, .int .i64 0, .int .i64 0, .int .i64 0, .int .i64 0, .int .i64 0, .int .i64 0, .int .i64 0, .int .i64 0, .int .i64 0, .int .i64 0] 93)) (.cells #[.slice A' n c', .slice (some ⟨w6.heap.size, 0, none⟩) 1 1] 96)
        rw [hW9, hsz] at this
        rw [this, HN.out]
        rfl
      · exact own_mono (own_kept (own_kept H6.out.1 b1 (Nat.le_refl _)) b2 (Nat.le_refl _)) (Nat.zero_le _)
      · rw [List.mem_singleton.1 hq]; exact ⟨Row.nil _ _, Row.nil _ _, (by refine ⟨?_, ?_⟩ <;> intro x hx <;> cases hx)⟩
      · rw [List.mem_singleton.1 hq]; rfl)
    have HO : Hid (∀ g, MT.own ⟨w6.heap.size + 1, A', c', L, some ⟨w6.heap.size, 0, none⟩, 1, [headN], []⟩ g → w.heap.size ≤ g) := Lib.hid (fun g hg => by
      have h6 := HB6.out.size
      rcases hg with rfl | ⟨ad, e, e2⟩ | ⟨ad, e, e2⟩ | ⟨q, hq, hg⟩
      · show w.heap.size ≤ w6.heap.size + 1; omega
      · rw [e2]; exact (own_in H6.out.1 ad e).1
      · injection e with e; rw [e2, ← e]; exact h6
      · rw [List.mem_singleton.1 hq] at hg
        rcases hg with ⟨ad, e, -⟩ | ⟨ad, e, -⟩ <;> cases e)
    rw [hW9]
    clear hW9
    go_wp2_with fail
    go_ret
    exact ⟨_, rfl, H9.out.1, rfl, rfl, HO.out, H9.out.2⟩
  · obtain ⟨W9, hW9⟩ : ∃ W9, (w6.alloc (.cells #[.slice A' n c', .slice (some ⟨w.heap.size, 0, none⟩) 1 1] 96)) = W9 := ⟨_, rfl⟩
    have hb1 : Below w.heap.size w (w.alloc (.cells #[.slice none 0 0, .int .i64 0, .bool false, .slice none 0 0, .int .i64 0, .int .i64 0, .int .i64 0, .int .i64 0, .int .i64 0, .int .i64 0, .int .i64 0, .int .i64 0, .int .i64 0, .int .i64 0, .int .i64 0, .int .i64 0] 93)).drew := (below_new w _).drew
    have HB6 : Hid (Below w.heap.size w w6) := Lib.hid (below_then hb1 H6.out.2)
    have HN6 : Hid (Nrow w6 0 (some ⟨w.heap.size, 0, none⟩) 1 [headN]) := Lib.hid (own_kept (head_row w) ((Below.refl _ _).drew.trans H6.out.2) (Nat.le_refl _))
    have H9 : Hid (MTab W9 ⟨w6.heap.size, A', c', L, some ⟨w.heap.size, 0, none⟩, 1, [headN], []⟩ ∧ Below w.heap.size w W9) := Lib.hid (by
      have b2 := below_new w6 (.cells #[.slice A' n c', .slice (some ⟨w.heap.size, 0, none⟩) 1 1] 96)
      rw [hW9] at b2
      refine ⟨⟨?_, ?_, own_kept HN6.out b2 (Nat.le_refl _), fun q hq => ?_, fun q hq => ?_, skip_new⟩, below_then HB6.out b2⟩
      · have := heap_alloc_new w6 (.cells #[.slice A' n c', .slice (some ⟨w.heap.size, 0, none⟩) 1 1] 96)
        rw [hW9] at this
        rw [this, HN.out]
        rfl
      · exact own_mono (own_kept H6.out.1 b2 (Nat.le_refl _)) (Nat.zero_le _)
      · rw [List.mem_singleton.1 hq]; exact ⟨Row.nil _ _, Row.nil _ _, (by refine ⟨?_, ?_⟩ <;> intro x hx <;> cases hx)⟩
      · rw [List.mem_singleton.1 hq]; rfl)
    have HO : Hid (∀ g, MT.own ⟨w6.heap.size, A', c', L, some ⟨w.heap.size, 0, none⟩, 1, [headN], []⟩ g → w.heap.size ≤ g) := Lib.hid (fun g hg => by
      have h6 := HB6.out.size
      rcases hg with rfl | ⟨ad, e, e2⟩ | ⟨ad, e, e2⟩ | ⟨q, hq, hg⟩
      · exact h6
      · rw [e2]; exact Nat.le_trans hb1.size (own_in H6.out.1 ad e).1
      · injection e with e; rw [e2, ← e]; exact Nat.le_refl _
      · rw [List.mem_singleton.1 hq] at hg
        rcases hg with ⟨ad, e, -⟩ | ⟨ad, e, -⟩ <;> cases e)
    rw [hW9]
    clear hW9 hb1
    go_wp2_with fail
    go_ret
    exact ⟨_, rfl, H9.out.1, rfl, rfl, HO.out, H9.out.2⟩
theorem results_ctt {P : Program} {fn : Func} {p u v : Tmp} {ty : TypeId} (h : fn.results = #[.cell p ty, .tmp u, .tmp v]) (tmps : Array Value) (w : World) (g : Nat) (t : TypeId) (cs : Array Value) (fr : Nat × Nat) (d : TypeDesc)
    (hp : tmps.getD p undef = .pointer (some ⟨g, 0, none⟩)) (hg : w.heap[g]? = some (.cells cs t fr))
    (hu : P.underlying ty = some d) (hd : (match d with | .struct _ | .array _ _ => true | _ => false) = true) (hi : (P.info? ty).map (·.size) = some cs.size) :
    (results fn tmps).run P w = .ok (.tuple #[.agg cs, tmps.getD u undef, tmps.getD v undef]) w := by
  have hp' : tmps[p]?.getD undef = .pointer (some ⟨g, 0, none⟩) := by simpa using hp
  simp [results, h, hp', asAddr, run_loadVar_row w g t ty cs fr d hg hu hd hi]
end Go.Proofs.Ytcffpkflijpdjaa
namespace Go.Proofs.Ytcffpkflijpdjaa
open Go.RowKit
theorem frozen_four {W : World} {g : Nat} {a b c d : Value} {ty : TypeId} (j : Nat) (h : W.heap[g]? = some (.cells #[a, b, c, d] ty (0, 0))) : W.frozen? ⟨g, j, none⟩ = false := by simp [World.frozen?, h]
set_option maxRecDepth 100000 in
set_option maxHeartbeats 16000000 in
theorem mget_found {w : World} {t : MT} (h : MTab w t) (A : Option Addr) (K : List Int) (n c : Nat) (s v : Int) (hk : In w A K n c)
    (hl : ∀ i q, i ≠ 0 → t.ns[i]? = some q → q.e.k.l.length ≤ 140737488355328 ∧ q.e.v.l.length ≤ 140737488355328)
    (hfound : ∀ a, a < t.ns.length → (a = 0 ∨ ordE (eo t.ns a) (K, s, false, []) < 0) → (nx t.ns 0 a = 0 ∨ ¬ ordE (eo t.ns (nx t.ns 0 a)) (K, s, false, []) < 0) → nx t.ns 0 a ≠ 0 ∧ nx t.ns 0 a < t.ns.length ∧ (eo t.ns (nx t.ns 0 a)).1 = K ∧ (eo t.ns (nx t.ns 0 a)).2.1 = v) :
    Calls Try.prog 15 #[.pointer (some ⟨t.b, 0, none⟩), .slice A n c, .int .i64 s] w fun e w' => ∃ y : En, y.s = v ∧ e = .returned (.tuple #[y.val, .bool true, .int .i64 0]) ∧ Below w.heap.size w w' := by
  have HT := Lib.hid h
  have HK := Lib.hid hk
  have HL := Lib.hid hl
  have HFD := Lib.hid hfound
  obtain ⟨w1, hw1⟩ : ∃ w1, w.alloc (.cells #[.slice none 0 0, .int .i64 0, .bool false, .slice none 0 0] 26) = w1 := ⟨_, rfl⟩
  have H1 : Hid (Below w.heap.size w w1 ∧ w1.heap[w.heap.size]? = some (.cells #[.slice none 0 0, .int .i64 0, .bool false, .slice none 0 0] 26 (0, 0))) := Lib.hid (by rw [← hw1]; exact ⟨below_new w _, heap_alloc_new w _⟩)
  have HFR : Hid (∀ W, Below w1.heap.size w1 W → Calls Try.prog 47 #[.pointer (some ⟨t.b, 0, none⟩), .agg #[.slice A n c, .int .i64 s, .bool false, .slice none 0 0]] W fun e w' => ∃ a : Nat, a < t.ns.length ∧ e = .returned (.int .i64 (nx t.ns 0 a : Nat)) ∧ (a = 0 ∨ ordE (eo t.ns a) (K, s, false, []) < 0) ∧ (nx t.ns 0 a = 0 ∨ ¬ ordE (eo t.ns (nx t.ns 0 a)) (K, s, false, []) < 0) ∧ Below W.heap.size W w') := Lib.hid (fun W hW => by
    have hb : Below w.heap.size w W := H1.out.1.trans (hW.mono H1.out.1.size)
    have hi := hk.kept hb
    have := mfrom_any (h.kept hb) ⟨⟨A, c, K⟩, s, false, ⟨none, 0, []⟩⟩ ⟨by simpa only [hi.len] using hi, in_nil W⟩
    unfold En.val Sl.val at this
    simp only [hi.len] at this
    exact this)
  clear h hk hl hfound
  go_enter Try.func15, Try.ntmps15
  go_upto_region 1 with fail
  try rw [hw1]
  clear hw1
  go_upto_region 4 with (go_at_call 47; refine (HFR.out _ (by repeat (first | exact Below.refl _ _ | refine Below.drew ?_ | refine below_al ?_ _))).mono ?_; rintro e w2 ⟨a, ha, rfl, h1, h2, b2⟩; have H2 : Hid ((nx t.ns 0 a ≠ 0 ∧ nx t.ns 0 a < t.ns.length ∧ (eo t.ns (nx t.ns 0 a)).1 = K ∧ (eo t.ns (nx t.ns 0 a)).2.1 = v) ∧ Below w1.heap.size w1 w2) := Lib.hid ⟨HFD.out a ha h1 h2, below_then (by repeat (first | exact Below.refl _ _ | refine Below.drew ?_ | refine below_al ?_ _)) b2⟩; clear ha h1 h2 b2)
  obtain ⟨p, hp⟩ : ∃ p, nx t.ns 0 a = p := ⟨_, rfl⟩
  rw [hp] at H2 ⊢
  have HW2 : Hid (Below w.heap.size w w2) := Lib.hid (H1.out.1.trans (H2.out.2.mono H1.out.1.size))
  obtain ⟨ad, q, hA, hq, ⟨⟨c2, c3, c4, c5⟩, -⟩, hE, -⟩ := (HT.out.kept HW2.out).node H2.out.1.2.1
  have c1 := (HT.out.kept HW2.out).cells.2
  rw [hA] at c1
  obtain ⟨qn, hqn⟩ : ∃ m, q.e.k.l.length = m := ⟨_, rfl⟩
  obtain ⟨qv, hqv⟩ : ∃ m, q.e.v.l.length = m := ⟨_, rfl⟩
  obtain ⟨m, hm⟩ : ∃ n, t.ns.length = n := ⟨_, rfl⟩
  have HQ : Hid (q.e.k.l = K ∧ q.e.s = v) := Lib.hid (by have := H2.out.1.2.2; rw [eo_of hq] at this; exact this)
  have HEQ : Hid (Calls Try.prog 48 #[.slice q.e.k.a qn q.e.k.c, .slice A n c] w2 fun e w' => e = .returned (.bool true) ∧ w2 = w') := Lib.hid (by
    have h1 := hE.1
    have := equal_any _ _ _ _ _ _ _ _ w2 h1 (HK.out.kept HW2.out)
    rw [hqn, decide_eq_true HQ.out.1] at this
    exact this.mono (fun e w' h => ⟨h.1, h.2.symm⟩))
  have HCL : Hid (Calls Try.prog 49 #[.agg #[.slice q.e.k.a qn q.e.k.c, .int .i64 q.e.s, .bool q.e.d, .slice q.e.v.a qv q.e.v.c]] w2 (ECop w2 q.e)) := Lib.hid (by
    have := eclone_any q.e w2 hE (HL.out _ q H2.out.1.1 hq).1 (HL.out _ q H2.out.1.1 hq).2
    rwa [En.val_eq, hqn, hqv] at this)
  rw [hqn] at c2
  rw [hqv] at c5
  rw [hm] at c1
  have i0 : (p : Int) < m := by have := H2.out.1.2.1; omega
  have z0 : ((p : Int) == 0) = false := by have := H2.out.1.1; simp; omega
  clear hp hA hq hE hqn hqv hm HFR HFD
  go_upto_region 6 with (go_at_call 48; refine HEQ.out.mono ?_; rintro e w' ⟨rfl, rfl⟩)
  go_wp2_with (go_at_call 49; refine HCL.out.mono ?_; rintro e w3 ⟨y, hy, rfl, -, -, b3⟩; rw [En.val_eq]; have H3 : Hid (y.s = v ∧ Below w.heap.size w w3 ∧ w3.heap[w.heap.size]? = some (.cells #[.slice none 0 0, .int .i64 0, .bool false, .slice none 0 0] 26 (0, 0))) := Lib.hid ⟨(congrArg (fun r : Er => r.2.1) hy).trans HQ.out.2, below_then HW2.out b3, obj_kept (obj_kept H1.out.2 H2.out.2 (Nat.le_refl _)) b3 (Nat.le_refl _)⟩; clear hy b3; obtain ⟨y0, y1, y2, y3⟩ := box_four H3.out.2.2; have f0 := frozen_four 0 H3.out.2.2; have f1 := frozen_four 1 H3.out.2.2; have f2 := frozen_four 2 H3.out.2.2; have f3 := frozen_four 3 H3.out.2.2)
  try simp only [Exit.inBlock, Exit.then]
  refine bodyPost_ret (results_ctt rfl _ _ w.heap.size 26 #[.slice y.k.a y.k.l.length y.k.c, .int .i64 y.s, .bool y.d, .slice y.v.a y.v.l.length y.v.c] (0, 0) _ rfl (set_four H3.out.2.2) Try.underlying26 rfl (by kernel_rfl)) rfl ?_
  exact ⟨y, H3.out.1, by rw [En.val_eq]; rfl, (set_four_kp (Kp.of_below H3.out.2.1) w.heap.size _ _ _ _ (by omega)).below (fun _ hk => hk)⟩
end Go.Proofs.Ytcffpkflijpdjaa
