/-
  Walks: a row of a table's index. Memory: a table as it lies. Plain and memory: names of files; what turns and what does not; files by name as they are read. Plain: files by name in a map, in the order of their names; what is read of the program's disk. Memory: the program's disk as it lies.
-/
import Derived.Laws.Strings
import Derived.Deep.QuietTactic
import Derived.BigQuiet
import Derived.Deep.RegionLaw
import Derived.Deep.RegionHeld3
import Derived.Deep.RegionWith
import Derived.Lib.BufferMore
import Derived.Deep.CutRange
import Derived.Deep.Cut
import Derived.Deep.CutBlock
import Derived.Maps.OwnSet
import Derived.Sort.KeysCollected
import Derived.Test.YtmgggddnfeojmaaGreatJO01
import Derived.Test.YtmgggddnfeojmaaGreatJO11
set_option linter.unusedSimpArgs false
set_option linter.unusedVariables false
namespace Go.Proofs.YtmgggddnfeojmaaGreat
open Go.RowKit
theorem headP_le {L : List Int} {n a : Int} {K : List Int} (hB : Byt L) (h : headP L = some (n, K, a)) : 0 ≤ a ∧ a ≤ L.length := by
  unfold headP at h
  split at h
  · cases h
  · next h1 =>
    split at h
    · cases h
    · split at h
      · cases h
      · split at h
        · cases h
        · injection h with h
          have e : (fReadP L 0).2.1 = a := congrArg (fun p => p.2.2) h
          have := (fRead_facts (a := 0) hB).2.2 (by simpa using h1)
          omega
theorem idxP_le {L : List Int} (hB : Byt L) : ∀ (n : Nat) (a : Int) (acc l : List Er) (a' : Int), 0 ≤ a → a ≤ L.length → idxP L n a acc = some (l, a') → 0 ≤ a' ∧ a' ≤ L.length
  | 0, a, acc, l, a', h0, h1, h => by
    unfold idxP at h
    injection h with h
    have e : a = a' := congrArg Prod.snd h
    omega
  | n + 1, a, acc, l, a', h0, h1, h => by
    unfold idxP at h
    split at h
    · cases h
    · next h2 =>
      split at h
      · cases h
      · have := (fRead_facts (a := a) hB).2.2 (by simpa using h2)
        exact idxP_le hB n _ _ l a' (by omega) (by omega) h
theorem seven_facts {W : World} {z : Nat} {t : TypeId} {v0 v1 v2 v3 v4 v5 v6 : Value} (h : W.heap[z]? = some (.cells #[v0, v1, v2, v3, v4, v5, v6] t (0, 0))) :
    (W.cell? ⟨z, 0, none⟩ = some v0 ∧ W.cell? ⟨z, 1, none⟩ = some v1 ∧ W.cell? ⟨z, 2, none⟩ = some v2 ∧ W.cell? ⟨z, 3, none⟩ = some v3 ∧ W.cell? ⟨z, 4, none⟩ = some v4 ∧ W.cell? ⟨z, 5, none⟩ = some v5 ∧ W.cell? ⟨z, 6, none⟩ = some v6) ∧
    (W.frozen? ⟨z, 0, none⟩ = false ∧ W.frozen? ⟨z, 1, none⟩ = false ∧ W.frozen? ⟨z, 2, none⟩ = false ∧ W.frozen? ⟨z, 3, none⟩ = false ∧ W.frozen? ⟨z, 4, none⟩ = false ∧ W.frozen? ⟨z, 5, none⟩ = false ∧ W.frozen? ⟨z, 6, none⟩ = false) := by
  refine ⟨⟨?_, ?_, ?_, ?_, ?_, ?_, ?_⟩, ?_, ?_, ?_, ?_, ?_, ?_, ?_⟩ <;> simp [World.cell?, World.frozen?, h]
theorem set_seven {W : World} {z : Nat} {t : TypeId} {v0 v1 v2 v3 v4 v5 v6 u0 u1 u2 u3 u4 u5 u6 : Value} (h : W.heap[z]? = some (.cells #[v0, v1, v2, v3, v4, v5, v6] t (0, 0))) :
    (((((((W.setCell ⟨z, 0, none⟩ u0).setCell ⟨z, 1, none⟩ u1).setCell ⟨z, 2, none⟩ u2).setCell ⟨z, 3, none⟩ u3).setCell ⟨z, 4, none⟩ u4).setCell ⟨z, 5, none⟩ u5).setCell ⟨z, 6, none⟩ u6).heap[z]? = some (.cells #[u0, u1, u2, u3, u4, u5, u6] t (0, 0)) := by
  have h0 : (W.setCell ⟨z, 0, none⟩ u0).heap[z]? = some (.cells #[u0, v1, v2, v3, v4, v5, v6] t (0, 0)) := heap_setCell_same _ z 0 _ t u0 h
  have h1 : ((W.setCell ⟨z, 0, none⟩ u0).setCell ⟨z, 1, none⟩ u1).heap[z]? = some (.cells #[u0, u1, v2, v3, v4, v5, v6] t (0, 0)) := heap_setCell_same _ z 1 _ t u1 h0
  have h2 : (((W.setCell ⟨z, 0, none⟩ u0).setCell ⟨z, 1, none⟩ u1).setCell ⟨z, 2, none⟩ u2).heap[z]? = some (.cells #[u0, u1, u2, v3, v4, v5, v6] t (0, 0)) := heap_setCell_same _ z 2 _ t u2 h1
  have h3 : ((((W.setCell ⟨z, 0, none⟩ u0).setCell ⟨z, 1, none⟩ u1).setCell ⟨z, 2, none⟩ u2).setCell ⟨z, 3, none⟩ u3).heap[z]? = some (.cells #[u0, u1, u2, u3, v4, v5, v6] t (0, 0)) := heap_setCell_same _ z 3 _ t u3 h2
  have h4 : (((((W.setCell ⟨z, 0, none⟩ u0).setCell ⟨z, 1, none⟩ u1).setCell ⟨z, 2, none⟩ u2).setCell ⟨z, 3, none⟩ u3).setCell ⟨z, 4, none⟩ u4).heap[z]? = some (.cells #[u0, u1, u2, u3, u4, v5, v6] t (0, 0)) := heap_setCell_same _ z 4 _ t u4 h3
  have h5 : ((((((W.setCell ⟨z, 0, none⟩ u0).setCell ⟨z, 1, none⟩ u1).setCell ⟨z, 2, none⟩ u2).setCell ⟨z, 3, none⟩ u3).setCell ⟨z, 4, none⟩ u4).setCell ⟨z, 5, none⟩ u5).heap[z]? = some (.cells #[u0, u1, u2, u3, u4, u5, v6] t (0, 0)) := heap_setCell_same _ z 5 _ t u5 h4
  exact heap_setCell_same _ z 6 _ t u6 h5
theorem set_seven_below {w W : World} {B : Nat} (h : Below B w W) (z : Nat) (hz : B ≤ z) (u0 u1 u2 u3 u4 u5 u6 : Value) : Below B w (((((((W.setCell ⟨z, 0, none⟩ u0).setCell ⟨z, 1, none⟩ u1).setCell ⟨z, 2, none⟩ u2).setCell ⟨z, 3, none⟩ u3).setCell ⟨z, 4, none⟩ u4).setCell ⟨z, 5, none⟩ u5).setCell ⟨z, 6, none⟩ u6) :=
  ((((((((Kp.of_below h).set z 0 u0 (by omega)).set z 1 u1 (by omega)).set z 2 u2 (by omega)).set z 3 u3 (by omega)).set z 4 u4 (by omega)).set z 5 u5 (by omega)).set z 6 u6 (by omega)).below (fun _ h => h)
theorem results_ct {P : Program} {fn : Func} {p u : Tmp} {ty : TypeId} (h : fn.results = #[.cell p ty, .tmp u]) (tmps : Array Value) (w : World) (g : Nat) (t : TypeId) (cs : Array Value) (fr : Nat × Nat) (d : TypeDesc)
    (hp : tmps.getD p undef = .pointer (some ⟨g, 0, none⟩)) (hg : w.heap[g]? = some (.cells cs t fr))
    (hu : P.underlying ty = some d) (hd : (match d with | .struct _ | .array _ _ => true | _ => false) = true) (hi : (P.info? ty).map (·.size) = some cs.size) :
    (results fn tmps).run P w = .ok (.tuple #[.agg cs, tmps.getD u undef]) w := by
  have hp' : tmps[p]?.getD undef = .pointer (some ⟨g, 0, none⟩) := by simpa using hp
  simp [results, h, hp', asAddr, run_loadVar_row w g t ty cs fr d hg hu hd hi]
/-- A row of the index, as it lies. -/
structure Rm where
  k : Sl
  s : Int
  n : Int
  fro : Int
  tu : Int
def Rm.cells (r : Rm) : List Value := [r.k.val, .int .i64 r.s, .bool false, .slice none 0 0, .int .i64 r.n, .int .i64 r.fro, .int .i64 r.tu]
def Rm.rd (r : Rm) : Rw := ⟨(r.k.l, r.s, false, []), r.n, r.fro, r.tu⟩
/-- What reading a row answers. -/
def RwE (w : World) (x : En) (r : Option Rw) (e : Ending) (w' : World) : Prop := Below w.heap.size w w' ∧ match r with
  | none => e = .returned (.tuple #[.agg #[.slice none 0 0, .int .i64 0, .bool false, .slice none 0 0, .int .i64 0, .int .i64 0, .int .i64 0], .bool false])
  | some q => e = .returned (.tuple #[.agg #[.slice x.k.a x.k.l.length x.k.c, .int .i64 x.s, .bool false, .slice none 0 0, .int .i64 q.count, .int .i64 q.fro, .int .i64 q.upTo], .bool true])
theorem rwE_none {w w' : World} {x : En} {r : Option Rw} (h : r = none) (hb : Below w.heap.size w w') : RwE w x r (.returned (.tuple #[.agg #[.slice none 0 0, .int .i64 0, .bool false, .slice none 0 0, .int .i64 0, .int .i64 0, .int .i64 0], .bool false])) w' := by
  subst h
  exact ⟨hb, rfl⟩
set_option maxRecDepth 100000 in
set_option maxHeartbeats 8000000 in
theorem rowAt_any (x : En) (a z : Int) (w : World) (hx : EIn w x) (h0 : 0 ≤ a) (h1 : a ≤ z) (h2 : z ≤ 4611686018427387904) :
    Calls Tryz.prog 69 #[x.val, .int .i64 a, .int .i64 z] w (RwE w x (rowP x.rd a z)) := by
  obtain ⟨R, hR⟩ : ∃ R, rowP x.rd a z = R := ⟨_, rfl⟩
  rw [hR, En.val_eq]
  unfold rowP at hR
  rw [show x.rd.2.2.2 = x.v.l from rfl, show x.rd.1 = x.k.l from rfl, show x.rd.2.1 = x.s from rfl] at hR
  have HV : Hid (∀ W i, Below w.heap.size w W → Calls Tryz.prog 91 #[.slice x.v.a x.v.l.length x.v.c, .int .i64 i] W fun e w' => e = Ans (uintP x.v.l i) ∧ W = w') := Lib.hid (fun W i hb => uint_any x.v.a x.v.l _ x.v.c i W (hx.kept hb).2)
  have hY := hx.2.byt
  obtain ⟨u0, u1, -, -, -, -⟩ := uintP_bd x.v.l 0 hY
  have HU := Lib.hid (fun W hb => HV.out W 0 hb)
  have HW := Lib.hid (fun W hb => HV.out W (uintP x.v.l 0).2.1 hb)
  obtain ⟨t0, t1, -, -, -, -⟩ := uintP_bd x.v.l (uintP x.v.l 0).2.1 hY
  unfold Ans at HU HW
  generalize uintP x.v.l 0 = p at HU HW hR u0 u1 t0 t1
  obtain ⟨cnt, i1, e1⟩ := p
  simp only at HU HW hR u0 u1 t0 t1
  generalize uintP x.v.l i1 = p at HW hR t0 t1
  obtain ⟨sz, i2, e2⟩ := p
  simp only at HW hR t0 t1
  clear HV hY hx
  obtain ⟨⟨ka, kc, k⟩, s, d, ⟨va, vc, v⟩⟩ := x
  simp only at HU HW hR ⊢
  obtain ⟨kn, hkn⟩ : ∃ n, k.length = n := ⟨_, rfl⟩
  obtain ⟨vn, hvn⟩ : ∃ n, v.length = n := ⟨_, rfl⟩
  have HKN := Lib.hid hkn
  rw [hkn]
  rw [hvn] at HU HW hR ⊢
  clear hkn hvn
  have HRR := Lib.hid hR
  clear hR
  go_enter Tryz.func69, Tryz.ntmps69
  go_upto_region 1 with fail
  obtain ⟨w2, hw2⟩ : ∃ w2, ((w.alloc (.cells #[.slice ka kn kc, .int .i64 s, .bool d, .slice va vn vc] 48)).alloc (.cells #[.slice none 0 0, .int .i64 0, .bool false, .slice none 0 0, .int .i64 0, .int .i64 0, .int .i64 0] 100)) = w2 := ⟨_, rfl⟩
  have B2 : Hid (Below w.heap.size w w2) := Lib.hid (hw2 ▸ (below_new _ _).alloc (by simp) _)
  have H1 : Hid (w2.heap[w.heap.size]? = some (.cells #[.slice ka kn kc, .int .i64 s, .bool d, .slice va vn vc] 48 (0, 0))) := Lib.hid (by rw [← hw2]; exact block_alloc (heap_alloc_new w _) _)
  have H2 : Hid (w2.heap[w.heap.size + 1]? = some (.cells #[.slice none 0 0, .int .i64 0, .bool false, .slice none 0 0, .int .i64 0, .int .i64 0, .int .i64 0] 100 (0, 0))) := Lib.hid (by
    have := heap_alloc_new (w.alloc (.cells #[.slice ka kn kc, .int .i64 s, .bool d, .slice va vn vc] 48)) (.cells #[.slice none 0 0, .int .i64 0, .bool false, .slice none 0 0, .int .i64 0, .int .i64 0, .int .i64 0] 100)
    rwa [hw2, show (w.alloc (.cells #[.slice ka kn kc, .int .i64 s, .bool d, .slice va vn vc] 48)).heap.size = w.heap.size + 1 by simp] at this)
  rw [hw2]
  clear hw2
  obtain ⟨b0, b1, b3⟩ : w2.cell? ⟨w.heap.size, 0, none⟩ = some (.slice ka kn kc) ∧ w2.cell? ⟨w.heap.size, 1, none⟩ = some (.int .i64 s) ∧ w2.cell? ⟨w.heap.size, 3, none⟩ = some (.slice va vn vc) := by
    have h := H1.out
    refine ⟨?_, ?_, ?_⟩ <;> simp [World.cell?, h]
  obtain ⟨⟨r0, r1, r2, r3, r4, r5, r6⟩, f0, f1, f2, f3, f4, f5, f6⟩ := seven_facts H2.out
  have S1 := Lib.hid trivial
  by_cases g1 : e1 = 0
  · have g1' : (e1 != 0) = false := by simpa using g1
    by_cases g2 : cnt < 1
    · have g2' : decide (cnt < 1) = true := by simpa using g2
      have HE : Hid (R = none) := Lib.hid (by rw [← HRR.out, if_pos (.inr (.inl g2))])
      clear HRR g1 g2
      go_wp2_with (first
        | (have t1 := S1; go_at_call 91; refine (HU.out _ B2.out).mono ?_; rintro e w4 ⟨rfl, rfl⟩; clear S1 t1)
        | (go_at_call 91; refine (HW.out _ B2.out).mono ?_; rintro e w4 ⟨rfl, rfl⟩))
      try simp only [Exit.inBlock, Exit.then]
      refine bodyPost_ret (results_ct rfl _ _ (w.heap.size + 1) 100 _ (0, 0) _ rfl (set_seven H2.out) Tryz.underlying100 rfl (by kernel_rfl)) rfl ?_
      exact rwE_none HE.out (set_seven_below B2.out _ (by omega) _ _ _ _ _ _ _)
    · have g2' : decide (cnt < 1) = false := by simpa using g2
      by_cases g3 : 1024 < cnt
      · have g3' : decide (1024 < cnt) = true := by simpa using g3
        have HE : Hid (R = none) := Lib.hid (by rw [← HRR.out, if_pos (.inr (.inr g3))])
        clear HRR g1 g2
        go_wp2_with (first
          | (have t1 := S1; go_at_call 91; refine (HU.out _ B2.out).mono ?_; rintro e w4 ⟨rfl, rfl⟩; clear S1 t1)
          | (go_at_call 91; refine (HW.out _ B2.out).mono ?_; rintro e w4 ⟨rfl, rfl⟩))
        try simp only [Exit.inBlock, Exit.then]
        refine bodyPost_ret (results_ct rfl _ _ (w.heap.size + 1) 100 _ (0, 0) _ rfl (set_seven H2.out) Tryz.underlying100 rfl (by kernel_rfl)) rfl ?_
        exact rwE_none HE.out (set_seven_below B2.out _ (by omega) _ _ _ _ _ _ _)
      · have g3' : decide (1024 < cnt) = false := by simpa using g3
        rw [if_neg (by simp only [not_or]; exact ⟨by simpa using g1, g2, g3⟩)] at HRR
        have w1 : wrap64 cnt = cnt := by unfold wrap64; omega
        have wz : IntKind.u64.wrap (z - a) = z - a := by rw [IntKind.wrap_u64]; omega
        by_cases g4 : e2 = 0
        · have g4' : (e2 != 0) = false := by simpa using g4
          by_cases g5 : i2 < (vn : Int)
          · have g5' : decide (i2 < (vn : Int)) = true := by simpa using g5
            have HE : Hid (R = none) := Lib.hid (by rw [← HRR.out, if_pos (.inr (.inl g5))])
            clear HRR g1 g2 g4 g5
            go_wp2_with (first
              | (have t1 := S1; go_at_call 91; refine (HU.out _ B2.out).mono ?_; rintro e w4 ⟨rfl, rfl⟩; clear S1 t1)
              | (go_at_call 91; refine (HW.out _ B2.out).mono ?_; rintro e w4 ⟨rfl, rfl⟩))
            try simp only [Exit.inBlock, Exit.then]
            refine bodyPost_ret (results_ct rfl _ _ (w.heap.size + 1) 100 _ (0, 0) _ rfl (set_seven H2.out) Tryz.underlying100 rfl (by kernel_rfl)) rfl ?_
            exact rwE_none HE.out (set_seven_below B2.out _ (by omega) _ _ _ _ _ _ _)
          · have g5' : decide (i2 < (vn : Int)) = false := by simpa using g5
            by_cases g6 : z - a < sz
            · have g6' : decide (z - a < sz) = true := by simpa using g6
              have HE : Hid (R = none) := Lib.hid (by rw [← HRR.out, if_pos (.inr (.inr g6))])
              clear HRR g1 g2 g4 g5
              go_wp2_with (first
                | (have t1 := S1; go_at_call 91; refine (HU.out _ B2.out).mono ?_; rintro e w4 ⟨rfl, rfl⟩; clear S1 t1)
                | (go_at_call 91; refine (HW.out _ B2.out).mono ?_; rintro e w4 ⟨rfl, rfl⟩))
              try simp only [Exit.inBlock, Exit.then]
              refine bodyPost_ret (results_ct rfl _ _ (w.heap.size + 1) 100 _ (0, 0) _ rfl (set_seven H2.out) Tryz.underlying100 rfl (by kernel_rfl)) rfl ?_
              exact rwE_none HE.out (set_seven_below B2.out _ (by omega) _ _ _ _ _ _ _)
            · have g6' : decide (z - a < sz) = false := by simpa using g6
              have HE : Hid (R = some ⟨(k, s, false, []), cnt, a, a + sz⟩) := Lib.hid (by rw [← HRR.out, if_neg (by simp only [not_or]; exact ⟨by simpa using g4, g5, g6⟩)])
              have w3 : wrap64 sz = sz := by unfold wrap64; omega
              have w5 : wrap64 (a + sz) = a + sz := by unfold wrap64; omega
              clear HRR g1 g2 g4 g5
              go_upto_region 8 with (first
                | (have t1 := S1; go_at_call 91; refine (HU.out _ B2.out).mono ?_; rintro e w4 ⟨rfl, rfl⟩; clear S1 t1)
                | (go_at_call 91; refine (HW.out _ B2.out).mono ?_; rintro e w4 ⟨rfl, rfl⟩))
              obtain ⟨w3', hw3⟩ : ∃ w3', w2.alloc (.cells #[.slice ka kn kc, .int .i64 s, .bool false, .slice none 0 0] 48) = w3' := ⟨_, rfl⟩
              have B3 : Hid (Below w.heap.size w w3') := Lib.hid (hw3 ▸ B2.out.alloc B2.out.size _)
              have H3 : Hid (w3'.heap[w.heap.size + 1]? = some (.cells #[.slice none 0 0, .int .i64 0, .bool false, .slice none 0 0, .int .i64 0, .int .i64 0, .int .i64 0] 100 (0, 0))) := Lib.hid (hw3 ▸ block_alloc H2.out _)
              have H4 : Hid (w3'.heap[w2.heap.size]? = some (.cells #[.slice ka kn kc, .int .i64 s, .bool false, .slice none 0 0] 48 (0, 0))) := Lib.hid (hw3 ▸ heap_alloc_new w2 _)
              rw [hw3]
              clear hw3 b0 b1 b3 r0 r1 r2 r3 r4 r5 r6 f0 f1 f2 f3 f4 f5 f6
              obtain ⟨d0, d1, d2, d3⟩ : w3'.cell? ⟨w2.heap.size, 0, none⟩ = some (.slice ka kn kc) ∧ w3'.cell? ⟨w2.heap.size, 1, none⟩ = some (.int .i64 s) ∧ w3'.cell? ⟨w2.heap.size, 2, none⟩ = some (.bool false) ∧ w3'.cell? ⟨w2.heap.size, 3, none⟩ = some (.slice none 0 0) := by
                have h := H4.out
                refine ⟨?_, ?_, ?_, ?_⟩ <;> simp [World.cell?, h]
              obtain ⟨⟨r0, r1, r2, r3, r4, r5, r6⟩, f0, f1, f2, f3, f4, f5, f6⟩ := seven_facts H3.out
              go_wp2_with fail
              try simp only [Exit.inBlock, Exit.then]
              refine bodyPost_ret (results_ct rfl _ _ (w.heap.size + 1) 100 _ (0, 0) _ rfl (set_seven H3.out) Tryz.underlying100 rfl (by kernel_rfl)) rfl ?_
              rw [HE.out]
              exact ⟨set_seven_below B3.out _ (by omega) _ _ _ _ _ _ _, by rw [HKN.out]; rfl⟩
        · have g4' : (e2 != 0) = true := by simpa using g4
          have HE : Hid (R = none) := Lib.hid (by rw [← HRR.out, if_pos (.inl g4)])
          clear HRR g1 g2 g4
          go_wp2_with (first
            | (have t1 := S1; go_at_call 91; refine (HU.out _ B2.out).mono ?_; rintro e w4 ⟨rfl, rfl⟩; clear S1 t1)
            | (go_at_call 91; refine (HW.out _ B2.out).mono ?_; rintro e w4 ⟨rfl, rfl⟩))
          try simp only [Exit.inBlock, Exit.then]
          refine bodyPost_ret (results_ct rfl _ _ (w.heap.size + 1) 100 _ (0, 0) _ rfl (set_seven H2.out) Tryz.underlying100 rfl (by kernel_rfl)) rfl ?_
          exact rwE_none HE.out (set_seven_below B2.out _ (by omega) _ _ _ _ _ _ _)
  · have g1' : (e1 != 0) = true := by simpa using g1
    have HE : Hid (R = none) := Lib.hid (by rw [← HRR.out, if_pos (.inl g1)])
    clear HRR g1
    go_wp2_with (first
      | (have t1 := S1; go_at_call 91; refine (HU.out _ B2.out).mono ?_; rintro e w4 ⟨rfl, rfl⟩; clear S1 t1)
      | (go_at_call 91; refine (HW.out _ B2.out).mono ?_; rintro e w4 ⟨rfl, rfl⟩))
    try simp only [Exit.inBlock, Exit.then]
    refine bodyPost_ret (results_ct rfl _ _ (w.heap.size + 1) 100 _ (0, 0) _ rfl (set_seven H2.out) Tryz.underlying100 rfl (by kernel_rfl)) rfl ?_
    exact rwE_none HE.out (set_seven_below B2.out _ (by omega) _ _ _ _ _ _ _)
end Go.Proofs.YtmgggddnfeojmaaGreat
namespace Go.Proofs.YtmgggddnfeojmaaGreat
open Go.RowKit
theorem info100 : (Tryz.prog.info? 100).map (fun i => (i.zero, i.size, i.bytes)) = some (some (.agg #[.slice none 0 0, .int .i64 0, .bool false, .slice none 0 0, .int .i64 0, .int .i64 0, .int .i64 0]), 7, 88) := by kernel_rfl
def rvals (l : List Rm) : List Value := l.flatMap Rm.cells
theorem rvals_len : ∀ l : List Rm, (rvals l).length = l.length * 7
  | [] => rfl
  | q :: l => by
    have := rvals_len l
    unfold rvals at this ⊢
    rw [List.flatMap_cons, List.length_append, this]
    simp [Rm.cells]
    omega
theorem rvals_append (l m : List Rm) : rvals (l ++ m) = rvals l ++ rvals m := by simp [rvals]
theorem rvals_one {l : List Rm} : ∀ u ∈ rvals l, u.oneCell' = true := fun u hu => by
  obtain ⟨q, -, h⟩ := List.mem_flatMap.1 hu
  simp [Rm.cells] at h
  rcases h with rfl | rfl | rfl | rfl | rfl | rfl | rfl <;> rfl
theorem flat_at {α : Type} (f : α → List Value) (n : Nat) (hf : ∀ x, (f x).length = n) : ∀ (l : List α) (j i : Nat) (x : α) (v : Value), l[j]? = some x → (f x)[i]? = some v → (l.flatMap f)[j * n + i]? = some v
  | [], _, _, _, _, h, _ => by simp at h
  | y :: l, 0, i, x, v, h, g => by
    simp at h
    subst h
    rw [List.flatMap_cons, Nat.zero_mul, Nat.zero_add, List.getElem?_append_left (List.getElem?_eq_some_iff.1 g).1]
    exact g
  | y :: l, j + 1, i, x, v, h, g => by
    rw [List.flatMap_cons, List.getElem?_append_right (by rw [hf, Nat.succ_mul]; omega), hf, show (j + 1) * n + i - n = j * n + i by rw [Nat.succ_mul]; omega]
    exact flat_at f n hf l j i x v (by simpa using h) g
theorem lies_row {w : World} {A : Option Addr} {l : List Rm} {j : Nat} {r : Rm} (h : Lies w A (rvals l)) (hr : l[j]? = some r) : ∃ ad, A = some ad ∧ ∀ i v, r.cells[i]? = some v → w.cell? ((ad.add (j * 7)).add i) = some v := by
  have k := fun i v hv => flat_at Rm.cells 7 (fun _ => rfl) l j i r v hr hv
  rcases h with h | ⟨ad, rfl, h2⟩
  · have := k 0 _ rfl
    unfold rvals at h
    rw [h] at this
    simp at this
  · refine ⟨ad, rfl, fun i v hv => ?_⟩
    rw [add_add]
    exact h2 _ _ (k i v hv)
/-- A row of rows of the call's own, or nil. -/
def Rrow (w : World) (B : Nat) (A : Option Addr) (c : Nat) (l : List Rm) : Prop := w.ownsRow B 100 7 (.slice A l.length c) l.length (rvals l)
theorem Rrow.nil (w : World) (B : Nat) : Rrow w B none 0 [] := World.ownsRow_nil w B _ _
theorem Rrow.lies {w : World} {B : Nat} {A : Option Addr} {c : Nat} {l : List Rm} (h : Rrow w B A c l) : Lies w A (rvals l) := by
  rcases h.2 with ⟨_, h⟩ | ⟨g, cap, cur, e, _⟩
  · exact .inl (by rw [List.eq_nil_of_length_eq_zero h]; rfl)
  · injection e with e1 e2 e3
    subst e1
    exact .inr ⟨_, rfl, fun j u hu => World.ownsRow.cells h (g := g) rfl j u hu⟩
theorem Rrow.kept {w w' : World} {B C : Nat} {A : Option Addr} {c : Nat} {l : List Rm} (h : Rrow w B A c l) (hb : Below C w w') (hC : w.heap.size ≤ C) : Rrow w' B A c l := own_kept h hb hC
theorem Rrow.mono {w : World} {B C : Nat} {A : Option Addr} {c : Nat} {l : List Rm} (h : Rrow w B A c l) (hC : C ≤ B) : Rrow w C A c l := own_mono h hC
theorem run_append_rrow (w : World) (ty : TypeId) (B : Nat) (A : Option Addr) (c : Nat) (T U : List Rm) (C : Option Addr) (cm : Nat) (h : Rrow w B A c T) (hm : Lies w C (rvals U)) (hB : B ≤ w.heap.size) (hr : (T.length + U.length) * 88 ≤ 140737488355328) :
    ∃ A' c' w', (Builtin.append_ #[101, 101] ty #[.slice A T.length c, .slice C U.length cm]).run Tryz.prog w = .ok (.slice A' (T.length + U.length) c') w' ∧ Rrow w' B A' c' (T ++ U) ∧ Below B w w' ∧ w.grownBy w' (Value.slice A T.length c).ownBlock := by
  obtain ⟨i, hi, hz0, hz1, hz2⟩ := info_parts info100
  obtain ⟨A', c', w', r, h2, h3, h4⟩ := run_append_grown (P := Tryz.prog) w 101 ty 100 i (.agg #[.slice none 0 0, .int .i64 0, .bool false, .slice none 0 0, .int .i64 0, .int .i64 0, .int .i64 0]) 7 88 Tryz.underlying101 hi hz0 hz1 hz2 rfl (by decide) B A T.length c (rvals T) h C U.length cm (rvals U) (by rw [rvals_len]) hm rvals_one (by unfold maxLen; omega) hr hB
  rw [← rvals_append] at h2
  exact ⟨A', c', w', r, by unfold Rrow; rw [List.length_append]; exact h2, h3, h4⟩
/-- An append of rows, as a step of a region that draws. -/
theorem step_append_rrow (w : World) {ops : Array Oper} {o : Oper} {a : Act} {K : Act → World → Prop} {Q : Exit → Act → World → Prop} {E : Prop} (hgd : o.guard = none) (s x : Operand)
    (ho : o.op = .call { callee := .builtin .append, args := #[s, x], argTypes := #[101, 101] })
    (B : Nat) (A : Option Addr) (c : Nat) (T U : List Rm) (C : Option Addr) (n m cm : Nat) (hs : a.eval s = .slice A n c) (hx : a.eval x = .slice C m cm) (en : T.length = n) (em : U.length = m) (h : Rrow w B A c T) (hm : Lies w C (rvals U)) (hB : B ≤ w.heap.size) (hr : (T.length + U.length) * 88 ≤ 140737488355328)
    (k : ∀ A' c' w', Rrow w' B A' c' (T ++ U) → Below B w w' → w.grownBy w' (Value.slice A n c).ownBlock → K (a.put o.dst (.slice A' (n + m) c')) w') : if Region.wanted o (yielded ops a.tmps) = true then Oper.wp Tryz.prog o a w K Q else E := by
  have hw : Region.wanted o (yielded ops a.tmps) = true := by simp [Region.wanted, hgd]
  rw [if_pos hw]
  subst en
  subst em
  obtain ⟨A', c', w', r, h2, h3, h4⟩ := run_append_rrow w o.type B A c T U C cm h hm hB hr
  have k' := k A' c' w' h2 h3 h4
  unfold Oper.wp execOp
  simp only [ho, resolve, invoke, builtin, Sem.run_bind, Sem.run_pure, Result.andThen_ok, List.map_toArray, List.map_cons, List.map_nil, hs, hx, r]
  exact k'
/-- What an append lets be. -/
theorem obj_beside {w w' : World} {D g : Nat} {C : Option Addr} {d n m : Nat} {e : TypeId} {s : Nat} {ys : List Value} {o : Obj} (h : w.heap[g]? = some o) (hs : w.ownsRow D e s (.slice C n d) m ys) (ho : ∀ cs fr, o ≠ .cells cs e fr) (hg : w.grownBy w' (Value.slice C n d).ownBlock) : w'.heap[g]? = some o := by
  have hlt : g < w.heap.size := (Array.getElem?_eq_some_iff.1 h).1
  rw [hg.block g hlt, h]
  intro e'
  rcases hs.2 with ⟨hn, _⟩ | ⟨g', cap', cur', e2, _, h2', _⟩
  · rw [hn] at e'
    simp [Value.ownBlock] at e'
  · rw [e2] at e'
    obtain rfl : g = g' := by simpa [Value.ownBlock] using e'
    rw [h] at h2'
    injection h2' with h2'
    exact ho _ _ h2'
theorem lit_row (w : World) (r : Rm) (kn : Nat) (hk : r.k.l.length = kn) : Lies (w.alloc (.cells #[.slice r.k.a kn r.k.c, .int .i64 r.s, .bool false, .slice none 0 0, .int .i64 r.n, .int .i64 r.fro, .int .i64 r.tu] 100)) (some ⟨w.heap.size, 0, none⟩) (rvals [r]) := by
  subst hk
  exact lit_lies w _ _ rfl _
/-- A table: where it lies, its file, its rows, its greatest key, where the map of the blocks that were read lies. -/
structure Tm where
  b : Nat
  da : Option Addr
  dc : Nat
  L : List Int
  ra : Option Addr
  rc : Nat
  R : List Rm
  cnt : Int
  ga : Option Addr
  gc : Nat
  K : List Int
  mb : Nat
def Tm.tb (t : Tm) : Tb := ⟨t.L, t.R.map Rm.rd, t.K⟩
def Tm.cells (t : Tm) : Array Value := #[.slice t.da t.L.length t.dc, .slice t.ra t.R.length t.rc, .int .i64 t.cnt, .slice t.ga t.K.length t.gc, .map (some t.mb)]
/-- What the rows are among themselves. -/
structure RowsOk (n : Nat) (R : List Rm) : Prop where
  lo : ∀ r ∈ R, 0 ≤ r.fro ∧ r.fro ≤ r.tu ∧ r.tu ≤ n
  fit : ∀ r ∈ R, (-9223372036854775808 ≤ r.s ∧ r.s ≤ 9223372036854775807) ∧ 1 ≤ r.n ∧ r.n ≤ 1024
  up : ∀ (i j : Nat) (r s : Rm), i < j → R[i]? = some r → R[j]? = some s → r.tu ≤ s.fro
/-- The blocks that were read. -/
def Cached (W : World) (t : Tm) (es : List MapEntry) : Prop := ∀ e ∈ es, ∃ f u A l c, e.key = .agg #[.int .i64 f, .int .i64 u] ∧ e.val = .slice A l.length c ∧ (l.length ≤ c ∧ (c : Int) ≤ 9223372036854775807) ∧ Lies W A (evals l) ∧ EIns W l ∧ (∀ q ∈ l, EFit q) ∧ ∀ i r, t.R[i]? = some r → r.fro = f → r.tu = u → blockP t.tb i = some (ers l)
structure TabAt (W : World) (t : Tm) : Prop where
  blk : W.heap[t.b]? = some (.cells t.cells 104 (0, 0))
  data : In W t.da t.L t.L.length t.dc
  rows : Lies W t.ra (rvals t.R)
  rcap : t.R.length ≤ t.rc ∧ (t.rc : Int) ≤ 9223372036854775807
  keys : ∀ r ∈ t.R, In W r.k.a r.k.l r.k.l.length r.k.c
  great : In W t.ga t.K t.K.length t.gc
  ok : RowsOk t.L.length t.R
  ord : ∀ (i j : Nat) (r s : Rm), i < j → t.R[i]? = some r → t.R[j]? = some s → ordE r.rd.first s.rd.first < 0
  map : ∃ es ck, W.heap[t.mb]? = some (.map es.toArray ck) ∧ Cached W t es
end Go.Proofs.YtmgggddnfeojmaaGreat
namespace Go.Proofs.YtmgggddnfeojmaaGreat
open Go.RowKit
/-- A name's letter. -/
def okB (x : Int) : Bool := decide ((97 ≤ x ∧ x ≤ 122) ∨ (48 ≤ x ∧ x ≤ 57) ∨ x = 46 ∨ x = 45)
/-- A file's name. -/
def okName (s : ByteArray) : Bool := (nums s).all okB && (decide (1 ≤ s.size) && decide (s.size ≤ 32))
theorem okB_ways (x : Nat) : (97 ≤ x ∧ x ≤ 122 ∧ okB x = true) ∨ (¬ 97 ≤ x ∧ 48 ≤ x ∧ x ≤ 57 ∧ okB x = true) ∨ (x = 46 ∧ okB x = true) ∨ (x = 45 ∧ okB x = true) ∨ (97 ≤ x ∧ ¬ x ≤ 122 ∧ okB x = false) ∨ (¬ 97 ≤ x ∧ 48 ≤ x ∧ ¬ x ≤ 57 ∧ okB x = false) ∨ (¬ 48 ≤ x ∧ ¬ x = 46 ∧ ¬ x = 45 ∧ okB x = false) := by
  unfold okB
  by_cases h1 : 97 ≤ x
  · by_cases h2 : x ≤ 122
    · exact .inl ⟨h1, h2, by simp; omega⟩
    · exact .inr (.inr (.inr (.inr (.inl ⟨h1, h2, by simp; omega⟩))))
  · by_cases h3 : 48 ≤ x
    · by_cases h4 : x ≤ 57
      · exact .inr (.inl ⟨h1, h3, h4, by simp; omega⟩)
      · exact .inr (.inr (.inr (.inr (.inr (.inl ⟨h1, h3, h4, by simp; omega⟩)))))
    · by_cases h5 : x = 46
      · exact .inr (.inr (.inl ⟨h5, by simp; omega⟩))
      · by_cases h6 : x = 45
        · exact .inr (.inr (.inr (.inl ⟨h6, by simp; omega⟩)))
        · exact .inr (.inr (.inr (.inr (.inr (.inr ⟨h3, h5, h6, by simp; omega⟩)))))
theorem all_upto {p : Int → Bool} {L : List Int} {n : Nat} (hn : L.length = n) (h : ∀ (j : Nat) (x : Int), j < n → L[j]? = some x → p x = true) : L.all p = true := by
  rw [List.all_eq_true]
  intro x hx
  obtain ⟨j, hj, e⟩ := List.mem_iff_getElem.1 hx
  exact h j x (by omega) (by rw [List.getElem?_eq_getElem hj, e])
theorem all_not {p : Int → Bool} {L : List Int} {j : Nat} {x : Int} (hx : L[j]? = some x) (h : p x = false) : L.all p = false := by
  rw [Bool.eq_false_iff]
  intro e
  have := List.all_eq_true.1 e x (List.mem_of_getElem? hx)
  rw [h] at this
  cases this
theorem vret_slice {A : Option Addr} {n m c : Nat} (h : m = n) : Ending.returned (.slice A n c) = .returned (.slice A m c) := by rw [h]
/-- The order of names. -/
def ltS (s t : ByteArray) : Bool := Op.bytesLess s.toList t.toList
/-- An object is worked on: its blocks alone turn, and what it has then was its own or is new. -/
structure Does (S S' : Nat → Prop) (w w' : World) : Prop where
  os : w'.os = w.os
  tape : w'.tape = w.tape
  output : w'.output = w.output
  size : w.heap.size ≤ w'.heap.size
  block : ∀ k, k < w.heap.size → ¬ S k → w'.heap[k]? = w.heap[k]?
  grows : ∀ k, S' k → S k ∨ w.heap.size ≤ k
theorem Does.refl (S : Nat → Prop) (w : World) : Does S S w w := ⟨rfl, rfl, rfl, Nat.le_refl _, fun _ _ _ => rfl, fun _ h => .inl h⟩
theorem Does.trans {S S' S'' : Nat → Prop} {a b c : World} (h : Does S S' a b) (k : Does S' S'' b c) : Does S S'' a c :=
  ⟨k.os.trans h.os, k.tape.trans h.tape, k.output.trans h.output, Nat.le_trans h.size k.size, fun i hi hg => (k.block i (by have := h.size; omega) (fun hs => (h.grows i hs).elim hg (fun h => by omega))).trans (h.block i hi hg), fun i hi => (k.grows i hi).elim (fun h' => h.grows i h') (fun h' => .inr (by have := h.size; omega))⟩
theorem Does.of_below {S S' : Nat → Prop} {a b : World} (h : Below a.heap.size a b) (hS : ∀ k, S' k → S k ∨ a.heap.size ≤ k) : Does S S' a b := ⟨h.os, h.tape, h.output, h.size, fun k hk _ => h.block k hk, hS⟩
theorem Does.below {S S' : Nat → Prop} {a b : World} {B : Nat} (h : Does S S' a b) (hB : B ≤ a.heap.size) (hS : ∀ k, S k → B ≤ k) : Below B a b :=
  ⟨h.os, h.tape, h.output, h.size, fun k hk => h.block k (by omega) (fun hs => by have := hS k hs; omega)⟩
/-- All below is as it was, but for one block. -/
structure BelowX (B g : Nat) (w w' : World) : Prop where
  os : w'.os = w.os
  tape : w'.tape = w.tape
  output : w'.output = w.output
  size : w.heap.size ≤ w'.heap.size
  block : ∀ k, k < B → k ≠ g → w'.heap[k]? = w.heap[k]?
theorem BelowX.refl (B g : Nat) (w : World) : BelowX B g w w := ⟨rfl, rfl, rfl, Nat.le_refl _, fun _ _ _ => rfl⟩
theorem BelowX.trans {B g : Nat} {a b c : World} (h : BelowX B g a b) (k : BelowX B g b c) : BelowX B g a c :=
  ⟨k.os.trans h.os, k.tape.trans h.tape, k.output.trans h.output, Nat.le_trans h.size k.size, fun i hi hg => (k.block i hi hg).trans (h.block i hi hg)⟩
theorem BelowX.mono {B C g : Nat} {a b : World} (h : BelowX B g a b) (hC : C ≤ B) : BelowX C g a b := ⟨h.os, h.tape, h.output, h.size, fun i hi hg => h.block i (by omega) hg⟩
theorem below_x {B g : Nat} {a b : World} (h : Below B a b) : BelowX B g a b := ⟨h.os, h.tape, h.output, h.size, fun i hi _ => h.block i hi⟩
theorem BelowX.below {B C g : Nat} {a b : World} (h : BelowX B g a b) (hC : C ≤ B) (hg : C ≤ g) : Below C a b := ⟨h.os, h.tape, h.output, h.size, fun i hi => h.block i (by omega) (by omega)⟩
theorem belowx_set (B : Nat) (w : World) (g i : Nat) (v : Value) : BelowX B g w (w.setCell ⟨g, i, none⟩ v) :=
  ⟨rfl, rfl, rfl, by simp, fun k _ hk => Below.heap_setCell w ⟨g, i, none⟩ v k hk⟩
/-- A file's place. -/
def findM (s : ByteArray) (fs : List (ByteArray × List Int × Int)) : Option Nat := fs.findIdx? (fun p => decide (p.1 = s))
/-- The bytes of one file synced. -/
def syncM (s : ByteArray) (fs : List (ByteArray × List Int × Int)) : List (ByteArray × List Int × Int) :=
  match findM s fs with
  | none => fs
  | some i => match fs[i]? with
    | none => fs
    | some p => fs.set i (p.1, p.2.1, (p.2.1.length : Int))
theorem Bys.low {w w' : World} {A : Option Addr} {L : List Int} {B : Nat} (h : Bys w A L) (hb : Below B w w') (hl : ∀ ad, A = some ad → ad.block < B) : Bys w' A L := by
  rcases h with h | ⟨ad, rfl, h2⟩
  · exact .inl h
  · exact .inr ⟨ad, rfl, fun j x hx => by rw [hb.cell (by rw [add_block]; exact hl ad rfl)]; exact h2 j x hx⟩
/-- How many bytes all files have. -/
def sumM (fs : List (ByteArray × List Int × Int)) : Nat := (fs.map (fun p => p.2.1.length)).sum
/-- A file put in, in the order of the names. -/
def insM (p : ByteArray × List Int × Int) : List (ByteArray × List Int × Int) → List (ByteArray × List Int × Int)
  | [] => [p]
  | x :: l => if ltS p.1 x.1 then p :: x :: l else x :: insM p l
/-- Bytes laid behind a file's. -/
def appM (s : ByteArray) (b : List Int) (fs : List (ByteArray × List Int × Int)) : List (ByteArray × List Int × Int) :=
  match findM s fs with
  | none => fs
  | some i => match fs[i]? with
    | none => fs
    | some p => fs.set i (p.1, p.2.1 ++ b, p.2.2)
/-- One file's bytes. -/
def dataM (s : ByteArray) (fs : List (ByteArray × List Int × Int)) : List Int :=
  match findM s fs with
  | none => []
  | some i => match fs[i]? with
    | none => []
    | some p => p.2.1
/-- It answers bytes in new memory, and a number. -/
def Gets (w : World) (p : List Int × Int) (e : Ending) (w' : World) : Prop := ∃ A c, e = .returned (.tuple #[.slice A p.1.length c, .int .i64 p.2]) ∧ Row w' w.heap.size A c p.1 ∧ Below w.heap.size w w'
/-- Numbers, as they lie. -/
def Ints (w : World) (A : Option Addr) (L : List Int) : Prop := Lies w A (L.map (Value.int .i64))
end Go.Proofs.YtmgggddnfeojmaaGreat
namespace Go.Proofs.YtmgggddnfeojmaaGreat
open Go.RowKit
open Go.Maps
/-- A file of the program's: its name, its block, its bytes, how many are synced. -/
structure Pf where
  s : ByteArray
  h : Nat
  d : Sl
  y : Int
def Pf.rd (q : Pf) : ByteArray × List Int × Int := (q.s, q.d.l, q.y)
def Pf.at_ (q : Pf) : Addr := ⟨q.h, 0, none⟩
/-- A name as a map's key. -/
def kOf (s : ByteArray) : Lit := .string s.data.toList
/-- The map of the files, as it is read. -/
def ents (l : List Pf) : List (Lit × DataW Addr) := l.map fun q => (kOf q.s, .held q.at_)
def Dm (l : List Pf) : DataW Addr := .map (ents l)
/-- How a file's place in the map reads. -/
def ptrElem : Value → Option (DataW Addr × List MemPlace)
  | .pointer none => some (.nil, [])
  | .pointer (some a) => some (.held a, [])
  | _ => none
theorem ptrElem_inv {v : Value} {z : DataW Addr × List MemPlace} (h : ptrElem v = some z) : (v = .pointer none ∧ z.1 = .nil) ∨ ∃ a, v = .pointer (some a) ∧ z.1 = .held a := by
  unfold ptrElem at h
  split at h
  · injection h with h
    exact .inl ⟨rfl, by rw [← h]⟩
  · injection h with h
    exact .inr ⟨_, rfl, by rw [← h]⟩
  · cases h
/-- The file of that name. -/
def vfindP (s : ByteArray) (l : List Pf) : Option Pf := l.find? (fun q => decide (q.s = s))
theorem findP_mem {s : ByteArray} {l : List Pf} {q : Pf} (h : vfindP s l = some q) : q ∈ l ∧ q.s = s := by
  unfold vfindP at h
  refine ⟨List.mem_of_find?_eq_some h, ?_⟩
  have := List.find?_some h
  simpa using this
theorem vfindP_none {s : ByteArray} {l : List Pf} (h : vfindP s l = none) : ∀ q ∈ l, q.s ≠ s := fun q hq e => by
  unfold vfindP at h
  have := List.find?_eq_none.1 h q hq
  simp [e] at this
theorem sameKey_kOf (s t : ByteArray) : (kOf s).sameKey (kOf t) = decide (s = t) := by
  unfold kOf Lit.sameKey
  obtain ⟨⟨l⟩⟩ := s
  obtain ⟨⟨m⟩⟩ := t
  by_cases h : l = m
  · subst h; simp
  · simp [h]
theorem atKey_Dm (s : ByteArray) : ∀ l : List Pf, (Dm l).atKey (kOf s) .nil = match vfindP s l with | some q => .held q.at_ | none => .nil
  | [] => rfl
  | q :: l => by
    have ih := atKey_Dm s l
    unfold Dm ents DataW.atKey vfindP at ih ⊢
    simp only [List.map_cons, List.find?_cons, sameKey_kOf] at ih ⊢
    by_cases h : q.s = s
    · simp [h]
    · simp only [h, decide_false]
      exact ih
/-- What a look-up answers. -/
def ptrOf : Option Pf → Value
  | none => .pointer none
  | some q => .pointer (some q.at_)
theorem ltS_before (s t : ByteArray) : ltS s t = (kOf s).before (kOf t) := by
  have key : ∀ a b : List UInt8, Op.bytesLess a b = bytesBefore a b := by
    intro a
    induction a with
    | nil => intro b; cases b <;> rfl
    | cons x a ih =>
      intro b
      cases b with
      | nil => rfl
      | cons y b => simp [Op.bytesLess, bytesBefore, ih b]
  unfold ltS kOf Lit.before
  rw [ByteArray.toList_eq, ByteArray.toList_eq]
  exact key _ _
theorem ltS_irrefl (s : ByteArray) : ltS s s = false := by rw [ltS_before]; exact WideShapes.before_irrefl _
theorem ltS_trans {s t u : ByteArray} (h : ltS s t = true) (k : ltS t u = true) : ltS s u = true := by
  rw [ltS_before] at *
  exact WideShapes.before_trans h k
theorem ltS_total {s t : ByteArray} (h : s ≠ t) : ltS s t = true ∨ ltS t s = true := by
  rw [ltS_before, ltS_before]
  unfold kOf Lit.before
  refine WideAt.bytes_total _ _ fun e => h ?_
  obtain ⟨⟨l⟩⟩ := s
  obtain ⟨⟨m⟩⟩ := t
  simpa using e
/-- A file put in, in the order of the names. -/
def insP (q : Pf) : List Pf → List Pf
  | [] => [q]
  | x :: l => if ltS q.s x.s then q :: x :: l else x :: insP q l
theorem ents_ins (q : Pf) : ∀ l : List Pf, DataW.insert (kOf q.s, .held q.at_) (ents l) = ents (insP q l)
  | [] => rfl
  | x :: l => by
    have ih := ents_ins q l
    unfold ents at ih ⊢
    simp only [List.map_cons, DataW.insert, insP, ltS_before]
    split
    · rfl
    · simp [ih]
theorem mem_insP {q x : Pf} : ∀ {l : List Pf}, x ∈ insP q l ↔ x = q ∨ x ∈ l
  | [] => by simp [insP]
  | y :: l => by
    unfold insP
    split
    · simp
    · rw [List.mem_cons, mem_insP, List.mem_cons]
      constructor
      · rintro (h | h | h)
        · exact .inr (.inl h)
        · exact .inl h
        · exact .inr (.inr h)
      · rintro (h | h | h)
        · exact .inr (.inl h)
        · exact .inl h
        · exact .inr (.inr h)
theorem insP_rd (q : Pf) : ∀ l : List Pf, (insP q l).map Pf.rd = insM q.rd (l.map Pf.rd)
  | [] => rfl
  | x :: l => by
    have ih := insP_rd q l
    simp only [insP, List.map_cons, insM]
    show List.map Pf.rd (if ltS q.s x.s = true then q :: x :: l else x :: insP q l) = if ltS q.s x.s = true then _ else _
    split
    · rfl
    · rw [← ih]; rfl
/-- In the order of the names, none twice. -/
def Srt (l : List Pf) : Prop := l.Pairwise (fun a b => ltS a.s b.s = true)
theorem Srt.ins {q : Pf} : ∀ {l : List Pf}, Srt l → (∀ x ∈ l, x.s ≠ q.s) → Srt (insP q l)
  | [], _, _ => by simp [Srt, insP]
  | x :: l, h, hn => by
    obtain ⟨h1, h2⟩ := List.pairwise_cons.1 h
    unfold insP
    split
    · next hlt =>
      refine List.pairwise_cons.2 ⟨fun y hy => ?_, h⟩
      rcases List.mem_cons.1 hy with rfl | hy
      · exact hlt
      · exact ltS_trans hlt (h1 y hy)
    · next hlt =>
      refine List.pairwise_cons.2 ⟨fun y hy => ?_, Srt.ins h2 (fun y hy => hn y (List.mem_cons_of_mem _ hy))⟩
      rcases mem_insP.1 hy with rfl | hy
      · exact (ltS_total (hn x (by simp))).resolve_right hlt
      · exact h1 y hy
theorem Srt.same {l : List Pf} (h : Srt l) {a b : Pf} (ha : a ∈ l) (hb : b ∈ l) (hs : a.s = b.s) : a = b := by
  induction l with
  | nil => cases ha
  | cons x l ih =>
    obtain ⟨h1, h2⟩ := List.pairwise_cons.1 h
    rcases List.mem_cons.1 ha with rfl | ha'
    · rcases List.mem_cons.1 hb with rfl | hb'
      · rfl
      · have := h1 b hb'
        rw [hs, ltS_irrefl] at this
        cases this
    · rcases List.mem_cons.1 hb with rfl | hb'
      · have := h1 a ha'
        rw [hs, ltS_irrefl] at this
        cases this
      · exact ih h2 ha' hb'
theorem Srt.at_ {l : List Pf} (h : Srt l) {i j : Nat} {a b : Pf} (ha : l[i]? = some a) (hb : l[j]? = some b) (hs : a.s = b.s) : i = j := by
  obtain ⟨hi, e1⟩ := List.getElem?_eq_some_iff.1 ha
  obtain ⟨hj, e2⟩ := List.getElem?_eq_some_iff.1 hb
  rcases Nat.lt_trichotomy i j with k | k | k
  · have := List.pairwise_iff_getElem.1 h i j hi hj k
    rw [e1, e2, hs, ltS_irrefl] at this
    cases this
  · exact k
  · have := List.pairwise_iff_getElem.1 h j i hj hi k
    rw [e1, e2, hs, ltS_irrefl] at this
    cases this
theorem findP_of {l : List Pf} (h : Srt l) {q : Pf} (hq : q ∈ l) : vfindP q.s l = some q := by
  cases hf : vfindP q.s l with
  | none => exact absurd rfl (vfindP_none hf q hq)
  | some x =>
    obtain ⟨h1, h2⟩ := findP_mem hf
    rw [h.same h1 hq h2]
theorem put_Dm {q : Pf} {l : List Pf} (h : ∀ x ∈ l, x.s ≠ q.s) : (Dm l).put (kOf q.s) (.held q.at_) = Dm (insP q l) := by
  unfold Dm DataW.put
  simp only [DataW.map.injEq]
  rw [← ents_ins]
  congr 1
  rw [List.filter_eq_self]
  intro x hx
  unfold ents at hx
  obtain ⟨y, hy, rfl⟩ := List.mem_map.1 hx
  simp only [sameKey_kOf]
  simp [h y hy]
theorem mem_setP {l : List Pf} (h : Srt l) {i : Nat} {q q' x : Pf} (hq : l[i]? = some q) (hs : q'.s = q.s) (hx : x ∈ l.set i q') : x = q' ∨ (x ∈ l ∧ x.s ≠ q.s) := by
  obtain ⟨j, hj, e⟩ := List.mem_iff_getElem.1 hx
  have hj' : (l.set i q')[j]? = some x := by rw [List.getElem?_eq_getElem hj, e]
  by_cases hij : i = j
  · subst hij
    rw [List.getElem?_set_self (List.getElem?_eq_some_iff.1 hq).1] at hj'
    injection hj' with hj'
    exact .inl hj'.symm
  · rw [List.getElem?_set_ne hij] at hj'
    exact .inr ⟨List.mem_of_getElem? hj', fun e => hij (h.at_ hq hj' e.symm)⟩
theorem Srt.names {l l' : List Pf} (h : Srt l) (e : l'.map Pf.s = l.map Pf.s) : Srt l' := by
  have h1 : (l.map Pf.s).Pairwise (fun a b => ltS a b = true) := List.pairwise_map.2 h
  rw [← e] at h1
  exact List.pairwise_map.1 h1
theorem set_names {l : List Pf} {i : Nat} {q q' : Pf} (hq : l[i]? = some q) (hs : q'.s = q.s) : (l.set i q').map Pf.s = l.map Pf.s := by
  rw [List.map_set, hs]
  refine List.ext_getElem? fun j => ?_
  by_cases hij : i = j
  · subst hij
    rw [List.getElem?_set_self (by simpa using (List.getElem?_eq_some_iff.1 hq).1), List.getElem?_map, hq]
    rfl
  · rw [List.getElem?_set_ne hij]
theorem ents_set {l : List Pf} {i : Nat} {q q' : Pf} (hq : l[i]? = some q) (hs : q'.s = q.s) (hh : q'.h = q.h) : Dm (l.set i q') = Dm l := by
  unfold Dm ents
  rw [List.map_set]
  congr 1
  refine List.ext_getElem? fun j => ?_
  by_cases hij : i = j
  · subst hij
    rw [List.getElem?_set_self (by simpa using (List.getElem?_eq_some_iff.1 hq).1), List.getElem?_map, hq]
    simp [hs, Pf.at_, hh]
  · rw [List.getElem?_set_ne hij]
theorem findM_P {s : ByteArray} {l : List Pf} {q : Pf} (h : vfindP s l = some q) : ∃ i, findM s (l.map Pf.rd) = some i ∧ l[i]? = some q := by
  unfold vfindP at h
  unfold findM
  rw [List.findIdx?_map]
  rw [List.find?_eq_some_iff_getElem] at h
  obtain ⟨h1, i, hi, e, h2⟩ := h
  refine ⟨i, ?_, by rw [List.getElem?_eq_getElem hi, e]⟩
  rw [List.findIdx?_eq_some_iff_getElem]
  refine ⟨hi, ?_, fun j hj => ?_⟩
  · rw [e]
    exact h1
  · have := h2 j hj
    simp only [decide_eq_true_eq, Bool.not_eq_true', decide_eq_false_iff_not] at this
    intro e2
    exact this (of_decide_eq_true e2)
theorem findM_none {s : ByteArray} {l : List Pf} (h : vfindP s l = none) : findM s (l.map Pf.rd) = none := by
  unfold findM
  rw [List.findIdx?_eq_none_iff]
  intro p hp
  obtain ⟨q, hq, rfl⟩ := List.mem_map.1 hp
  have := vfindP_none h q hq
  show decide (q.s = s) = false
  simpa using this
theorem bytesLess_lt : ∀ x y : List UInt8, Op.bytesLess x y = decide (x < y)
  | [], [] => by simp [Op.bytesLess]
  | _ :: _, [] => by simp [Op.bytesLess]
  | [], _ :: _ => by simp [Op.bytesLess]
  | a :: x, b :: y => by
    rw [Op.bytesLess, bytesLess_lt x y]
    simp only [List.cons_lt_cons_iff]
    by_cases h1 : a < b <;> by_cases h2 : a = b <;> by_cases h3 : x < y <;> simp [h1, h2, h3]
/-- The names, sorted. -/
def nameL (l : List Pf) : List (List UInt8) := l.map fun q => q.s.data.toList
theorem strKeys_Dm (l : List Pf) : strKeys (Dm l) = nameL l := by
  unfold strKeys Dm ents nameL
  simp only [List.map_map]
  rfl
theorem sorted_names {l : List Pf} (h : Srt l) {ss : List (List UInt8)} (hp : ss.Perm (strKeys (Dm l))) : ss.mergeSort (fun x y => decide (x ≤ y)) = nameL l := by
  have h1 := mergeSort_of_perm hp
  unfold leB at h1
  rw [h1, strKeys_Dm]
  refine List.mergeSort_of_pairwise ?_
  unfold nameL
  rw [List.pairwise_map]
  refine List.Pairwise.imp (fun {a b} hab => ?_) h
  rw [decide_eq_true_eq]
  have : a.s.data.toList < b.s.data.toList := by
    unfold ltS at hab
    rw [bytesLess_lt, ByteArray.toList_eq, ByteArray.toList_eq] at hab
    simpa using hab
  exact List.le_of_lt this
end Go.Proofs.YtmgggddnfeojmaaGreat
namespace Go.Proofs.YtmgggddnfeojmaaGreat
open Go.RowKit
open Go.Maps
theorem strT : Keyed Tryz.prog 9 := string_keyed Tryz.underlying9
theorem zeroPtr (w : World) : (zeroValue 91).run Tryz.prog w = .ok (.pointer none) w := by kernel_rfl
theorem kOf_key (s : ByteArray) (hs : s.size ≤ maxLen) : keyOf Tryz.prog 9 (.string s) = some (kOf s) := WideMaps.keyOf_string_mk Tryz.underlying9 hs
set_option maxRecDepth 100000 in
theorem look_run {w : World} {b n : Nat} {l : List Pf} (h : w.ownsMap Tryz.prog 9 ptrElem b n (Dm l)) (s : ByteArray) (hs : s.size ≤ maxLen) :
    (Instr.lookup 78 (.map (some b)) (.string s) false).run Tryz.prog w = .ok (ptrOf (vfindP s l)) w := by
  obtain ⟨v, ps, hrun, hv⟩ := h.lookup strT Tryz.underlying78 (zeroPtr w) (zd := .nil) (zp := []) rfl (kOf_key s hs)
  rw [hrun]
  rw [atKey_Dm] at hv
  cases hf : vfindP s l with
  | none =>
    rw [hf] at hv
    rcases ptrElem_inv hv with ⟨rfl, _⟩ | ⟨a, _, e⟩
    · rfl
    · replace e : (DataW.nil : DataW Addr) = .held a := e
      simp at e
  | some q =>
    rw [hf] at hv
    rcases ptrElem_inv hv with ⟨_, e⟩ | ⟨a, hva, e⟩
    · replace e : (DataW.held q.at_ : DataW Addr) = .nil := e
      simp at e
    · replace e : (DataW.held q.at_ : DataW Addr) = .held a := e
      have e2 : q.at_ = a := DataW.held.inj e
      have e3 : v = ptrOf (some q) := by
        rw [hva, ← e2]
        rfl
      exact congrArg (fun u => Result.ok u w) e3
theorem owns_fit {w : World} {b n m : Nat} {l : List Pf} (h : w.ownsMap Tryz.prog 9 ptrElem b n (Dm l)) (hm : l.length ≤ m) : w.ownsMap Tryz.prog 9 ptrElem b m (Dm l) := by
  obtain ⟨es, clock, hb, F, hs, hD⟩ := h
  refine ⟨es, clock, hb, F, ?_, hD⟩
  unfold Dm at hD
  injection hD with hD
  have := congrArg List.length hD
  rw [length_sorted] at this
  simp [ents] at this
  omega
theorem owns_at {w w' : World} {b n : Nat} {l : List Pf} (h : w.ownsMap Tryz.prog 9 ptrElem b n (Dm l)) (e : w'.heap[b]? = w.heap[b]?) : w'.ownsMap Tryz.prog 9 ptrElem b n (Dm l) := by
  obtain ⟨es, clock, hb, r⟩ := h
  exact ⟨es, clock, e.trans hb, r⟩
/-- A row of numbers of the call's own, or nil. -/
def ivals (L : List Int) : List Value := L.map (Value.int .i64)
def Irow (w : World) (B : Nat) (A : Option Addr) (c : Nat) (L : List Int) : Prop := w.ownsRow B 3 1 (.slice A L.length c) L.length (ivals L)
theorem Irow.lies {w : World} {B : Nat} {A : Option Addr} {c : Nat} {L : List Int} (h : Irow w B A c L) : Ints w A L := by
  rcases h.2 with ⟨_, h⟩ | ⟨g, cap, cur, e, _⟩
  · exact .inl (by rw [List.eq_nil_of_length_eq_zero h]; rfl)
  · injection e with e1 e2 e3
    subst e1
    exact .inr ⟨_, rfl, fun j u hu => World.ownsRow.cells h (g := g) rfl j u hu⟩
/-- The program's disk. -/
structure Pk where
  b : Nat
  l : List Pf
  size : Int
  room : Int
  left : Int
  K : Option Addr
  keep : List Int
  kc : Nat
  down : Bool
def Pk.cells (p : Pk) : List Value := [.map (some p.b), .int .i64 p.size, .int .i64 p.room, .int .i64 p.left, .slice p.K p.keep.length p.kc, .bool p.down]
/-- It lies at a block. -/
def PkAt (w : World) (g : Nat) (p : Pk) : Prop := w.heap[g]? = some (.cells p.cells.toArray 80 (0, 0))
theorem PkAt.cell {w : World} {g : Nat} {p : Pk} (h : PkAt w g p) : w.cell? ⟨g, 0, none⟩ = some (.map (some p.b)) ∧ w.cell? ⟨g, 1, none⟩ = some (.int .i64 p.size) ∧ w.cell? ⟨g, 2, none⟩ = some (.int .i64 p.room) ∧ w.cell? ⟨g, 3, none⟩ = some (.int .i64 p.left) ∧ w.cell? ⟨g, 4, none⟩ = some (.slice p.K p.keep.length p.kc) ∧ w.cell? ⟨g, 5, none⟩ = some (.bool p.down) := by
  unfold PkAt at h
  refine ⟨?_, ?_, ?_, ?_, ?_, ?_⟩ <;> simp [World.cell?, h, Pk.cells]
theorem PkAt.frozen {w : World} {g : Nat} {p : Pk} (h : PkAt w g p) (i : Nat) : w.frozen? ⟨g, i, none⟩ = false := by
  unfold PkAt at h
  simp [World.frozen?, h]
theorem PkAt.lt {w : World} {g : Nat} {p : Pk} (h : PkAt w g p) : g < w.heap.size := (Array.getElem?_eq_some_iff.1 h).1
theorem PkAt.set {w : World} {g : Nat} {p p' : Pk} (h : PkAt w g p) (i : Nat) (v : Value) (hd : p'.cells = p.cells.set i v) : PkAt (w.setCell ⟨g, i, none⟩ v) g p' := by
  unfold PkAt at h ⊢
  rw [hd]
  simp [World.setCell, Array.getElem?_modify, h]
/-- A file of the program's as it lies. -/
def FileAt (w : World) (h : Nat) (d : Sl) (y : Int) : Prop := w.heap[h]? = some (.cells #[d.val, .int .i64 y] 94 (0, 0))
theorem FileAt.cell {w : World} {h : Nat} {d : Sl} {y : Int} (k : FileAt w h d y) : w.cell? ⟨h, 0, none⟩ = some d.val ∧ w.cell? ⟨h, 1, none⟩ = some (.int .i64 y) := by
  unfold FileAt at k
  refine ⟨?_, ?_⟩ <;> simp [World.cell?, k]
theorem FileAt.frozen {w : World} {h : Nat} {d : Sl} {y : Int} (k : FileAt w h d y) (i : Nat) : w.frozen? ⟨h, i, none⟩ = false := by
  unfold FileAt at k
  simp [World.frozen?, k]
theorem FileAt.lt {w : World} {h : Nat} {d : Sl} {y : Int} (k : FileAt w h d y) : h < w.heap.size := (Array.getElem?_eq_some_iff.1 k).1
theorem FileAt.set0 {w : World} {h : Nat} {d d' : Sl} {y : Int} (k : FileAt w h d y) : FileAt (w.setCell ⟨h, 0, none⟩ d'.val) h d' y := by
  unfold FileAt at k ⊢
  simp [World.setCell, Array.getElem?_modify, k]
theorem FileAt.set1 {w : World} {h : Nat} {d : Sl} {y y' : Int} (k : FileAt w h d y) : FileAt (w.setCell ⟨h, 1, none⟩ (.int .i64 y')) h d y' := by
  unfold FileAt at k ⊢
  simp [World.setCell, Array.getElem?_modify, k]
/-- The blocks of a file. -/
def Pf.own (q : Pf) (k : Nat) : Prop := k = q.h ∨ ∃ ad, q.d.a = some ad ∧ k = ad.block
/-- The blocks of the disk, but for its own. -/
def Pk.inner (p : Pk) (k : Nat) : Prop := k = p.b ∨ (∃ ad, p.K = some ad ∧ k = ad.block) ∨ ∃ q ∈ p.l, q.own k
def Pk.own (p : Pk) (g k : Nat) : Prop := k = g ∨ p.inner k
/-- A file of the call's own. -/
structure FileOk (w : World) (B : Nat) (q : Pf) : Prop where
  at_ : FileAt w q.h q.d q.y
  low : B ≤ q.h
  row : Row w B q.d.a q.d.c q.d.l
  byt : Byt q.d.l
/-- VTwo files share no memory. -/
def Apart (q q' : Pf) : Prop := q.h ≠ q'.h ∧ ∀ ad ad', q.d.a = some ad → q'.d.a = some ad' → ad.block ≠ ad'.block
theorem Apart.symm {q q' : Pf} (h : Apart q q') : Apart q' q := ⟨fun e => h.1 e.symm, fun ad ad' h1 h2 e => h.2 ad' ad h2 h1 e.symm⟩
/-- What the disk leads to. -/
structure In7 (w : World) (B : Nat) (p : Pk) : Prop where
  map : w.ownsMap Tryz.prog 9 ptrElem p.b p.l.length (Dm p.l)
  mlow : B ≤ p.b
  file : ∀ q ∈ p.l, FileOk w B q
  apart : ∀ q ∈ p.l, ∀ q' ∈ p.l, q.s ≠ q'.s → Apart q q'
  srt : Srt p.l
  keep : Irow w B p.K p.kc p.keep
  ki : ∀ x ∈ p.keep, -9223372036854775808 ≤ x ∧ x ≤ 9223372036854775807
/-- The bytes of all files. -/
def sumP (l : List Pf) : Int := (sumM (l.map Pf.rd) : Nat)
/-- The program's disk, whole. -/
structure PSt (w : World) (B g : Nat) (p : Pk) : Prop where
  at_ : PkAt w g p
  low : B ≤ g
  inn : In7 w B p
  size : p.size = wrap64 (sumP p.l)
  left : -9223372036854775808 ≤ p.left ∧ p.left ≤ 9223372036854775807
  room : -9223372036854775808 ≤ p.room ∧ p.room ≤ 9223372036854775807
theorem own_block {w w' : World} {B : Nat} {e : TypeId} {size : Nat} {A : Option Addr} {n c : Nat} {xs : List Value} (h : w.ownsRow B e size (.slice A n c) n xs) (hk : ∀ ad, A = some ad → w'.heap[ad.block]? = w.heap[ad.block]?) : w'.ownsRow B e size (.slice A n c) n xs := by
  refine ⟨h.1, ?_⟩
  rcases h.2 with hn | ⟨g, cap, cur, e1, h1, h2, h3⟩
  · exact .inl hn
  · refine .inr ⟨g, cap, cur, e1, h1, ?_, h3⟩
    injection e1 with e1
    rw [hk _ e1, h2]
theorem own_type {w : World} {B : Nat} {e : TypeId} {size : Nat} {A : Option Addr} {n c : Nat} {xs : List Value} (h : w.ownsRow B e size (.slice A n c) n xs) {ad : Addr} (ha : A = some ad) : ∃ cur, w.heap[ad.block]? = some (.cells cur e (0, 0)) := by
  rcases h.2 with ⟨hn, _⟩ | ⟨g, cap, cur, e1, h1, h2, h3⟩
  · injection hn with hn
    rw [hn] at ha
    cases ha
  · injection e1 with e1
    rw [e1] at ha
    injection ha with ha
    subst ha
    exact ⟨cur, h2⟩
theorem FileOk.of {w w' : World} {B : Nat} {q : Pf} (h : FileOk w B q) (hk : ∀ k, q.own k → w'.heap[k]? = w.heap[k]?) : FileOk w' B q :=
  ⟨by have := h.at_; unfold FileAt at this ⊢; rw [hk _ (.inl rfl), this], h.low, own_block h.row (fun ad ha => hk _ (.inr ⟨ad, ha, rfl⟩)), h.byt⟩
theorem FileOk.owned {w : World} {B : Nat} {q : Pf} (h : FileOk w B q) : ∀ k, q.own k → B ≤ k ∧ k < w.heap.size := fun k hk => by
  rcases hk with rfl | ⟨ad, ha, rfl⟩
  · exact ⟨h.low, h.at_.lt⟩
  · exact own_in h.row ad ha
theorem In7.of {w w' : World} {B : Nat} {p : Pk} (h : In7 w B p) (hk : ∀ k, p.inner k → w'.heap[k]? = w.heap[k]?) : In7 w' B p :=
  ⟨owns_at h.map (hk _ (.inl rfl)), h.mlow, fun q hq => (h.file q hq).of (fun k k1 => hk k (.inr (.inr ⟨q, hq, k1⟩))), h.apart, h.srt, own_block h.keep (fun ad ha => hk _ (.inr (.inl ⟨ad, ha, rfl⟩))), h.ki⟩
theorem In7.owned {w : World} {B : Nat} {p : Pk} (h : In7 w B p) : ∀ k, p.inner k → B ≤ k ∧ k < w.heap.size := fun k hk => by
  rcases hk with rfl | ⟨ad, ha, rfl⟩ | ⟨q, hq, k1⟩
  · exact ⟨h.mlow, h.map.lt⟩
  · exact own_in h.keep ad ha
  · exact (h.file q hq).owned k k1
theorem PSt.owned {w : World} {B g : Nat} {p : Pk} (h : PSt w B g p) : ∀ k, p.own g k → B ≤ k ∧ k < w.heap.size := fun k hk => by
  rcases hk with rfl | hk
  · exact ⟨h.low, h.at_.lt⟩
  · exact h.inn.owned k hk
theorem PSt.of {w w' : World} {B g : Nat} {p : Pk} (h : PSt w B g p) (hk : ∀ k, p.own g k → w'.heap[k]? = w.heap[k]?) : PSt w' B g p :=
  ⟨by have := h.at_; unfold PkAt at this ⊢; rw [hk _ (.inl rfl), this], h.low, h.inn.of (fun k k1 => hk k (.inr k1)), h.size, h.left, h.room⟩
theorem PSt.kept {w w' : World} {B g : Nat} {p : Pk} (h : PSt w B g p) (hb : Below w.heap.size w w') : PSt w' B g p := h.of (fun k hk => hb.block k (h.owned k hk).2)
theorem PSt.does {S S' : Nat → Prop} {w w' : World} {B g : Nat} {p : Pk} (h : PSt w B g p) (hb : Does S S' w w') (hS : ∀ k, S k → ¬ p.own g k) : PSt w' B g p := h.of (fun k hk => hb.block k (h.owned k hk).2 (fun hs => hS k hs hk))
theorem PSt.mono {w : World} {B C g : Nat} {p : Pk} (h : PSt w B g p) (hC : C ≤ B) : PSt w C g p :=
  ⟨h.at_, Nat.le_trans hC h.low, ⟨h.inn.map, Nat.le_trans hC h.inn.mlow, fun q hq => ⟨(h.inn.file q hq).at_, Nat.le_trans hC (h.inn.file q hq).low, (h.inn.file q hq).row.mono hC, (h.inn.file q hq).byt⟩, h.inn.apart, h.inn.srt, own_mono h.inn.keep hC, h.inn.ki⟩, h.size, h.left, h.room⟩
/-- The disk's own block lies apart from what it leads to. -/
theorem PSt.not_inner {w : World} {B g : Nat} {p : Pk} (h : PSt w B g p) : ¬ p.inner g := fun hk => by
  have hd := h.at_
  unfold PkAt at hd
  rcases hk with e | ⟨ad, ha, e⟩ | ⟨q, hq, e | ⟨ad, ha, e⟩⟩
  · obtain ⟨es, clock, hb, -⟩ := h.inn.map
    rw [← e, hd] at hb
    cases hb
  · obtain ⟨cur, hc⟩ := own_type h.inn.keep ha
    rw [← e, hd] at hc
    injection hc with hc
    injection hc with _ hc
    exact absurd hc (by decide)
  · have hf := (h.inn.file q hq).at_
    unfold FileAt at hf
    rw [← e, hd] at hf
    injection hf with hf
    injection hf with _ hf
    exact absurd hf (by decide)
  · obtain ⟨cur, hc⟩ := own_type (h.inn.file q hq).row ha
    rw [← e, hd] at hc
    injection hc with hc
    injection hc with _ hc
    exact absurd hc (by decide)
/-- The disk's own block turns: what it leads to stands. -/
theorem PSt.turned {w w' : World} {B g : Nat} {p p' : Pk} (h : PSt w B g p) (hd : PkAt w' g p') (hb : BelowX w.heap.size g w w') (e1 : p'.b = p.b) (e2 : p'.l = p.l) (e3 : p'.K = p.K) (e4 : p'.keep = p.keep) (e5 : p'.kc = p.kc) (e6 : p'.size = p.size)
    (hl : -9223372036854775808 ≤ p'.left ∧ p'.left ≤ 9223372036854775807) (hr : -9223372036854775808 ≤ p'.room ∧ p'.room ≤ 9223372036854775807) : PSt w' B g p' ∧ Does (p.own g) (p'.own g) w w' := by
  have hi : In7 w' B p := h.inn.of (fun k hk => hb.block k (h.inn.owned k hk).2 (fun e => h.not_inner (e ▸ hk)))
  have ho : p'.own g = p.own g := by
    funext k
    unfold Pk.own Pk.inner
    rw [e1, e2, e3]
  refine ⟨⟨hd, h.low, ?_, by rw [e6, e2]; exact h.size, hl, hr⟩, ?_⟩
  · exact ⟨by rw [e1, e2]; exact hi.map, by rw [e1]; exact hi.mlow, by rw [e2]; exact hi.file, by rw [e2]; exact hi.apart, by rw [e2]; exact hi.srt, by rw [e3, e4, e5]; exact hi.keep, by rw [e4]; exact hi.ki⟩
  · rw [ho]
    exact ⟨hb.os, hb.tape, hb.output, hb.size, fun k hk hn => hb.block k hk (fun e => hn (.inl e)), fun k hk => .inl hk⟩
/-- What is read of the program's disk. -/
structure Vm where
  fs : List (ByteArray × List Int × Int)
  room : Int
  left : Int
  keep : List Int
  down : Bool
def Pk.vm (p : Pk) : Vm := ⟨p.l.map Pf.rd, p.room, p.left, p.keep, p.down⟩
/-- What a call leaves of the program's disk. -/
def Rest (w : World) (B g : Nat) (p : Pk) (m : Vm) (w' : World) : Prop := ∃ p', PSt w' B g p' ∧ p'.vm = m ∧ Does (p.own g) (p'.own g) w w'
end Go.Proofs.YtmgggddnfeojmaaGreat
