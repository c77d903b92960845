/-
  Walks: the law's own first look: two records, each in its own segment, and read back.
-/
import Derived.Test.YtjppklgegpmfpaaGreatDoorWgO
import Derived.Lib.SlBytesConst
namespace Go.Proofs.YtjppklgegpmfpaaGreatDoor
open Go.RowKit
open Go.Maps

def pw : ByteArray := ⟨#[119]⟩
def m0 : Vm := ⟨[], -1, -1, [], false⟩
theorem seg_one : seg ⟨#[119]⟩ 1 = ⟨#[119, 48, 48, 48, 48, 48, 49, 46, 108, 111, 103]⟩ := by
  apply ByteArray.ext
  apply Array.toList_inj.1
  rw [seg_list]
  decide +kernel
theorem one_conv (x : Int) (W : World) : (convert 35 35 (.slice (some ⟨W.heap.size, 0, none⟩) 1 1)).run Tryz.prog (W.alloc (.cells #[.int .u8 x] 5)) = .ok (.slice (some ⟨W.heap.size, 0, none⟩) 1 1) (W.alloc (.cells #[.int .u8 x] 5 (1, 2))) :=
  Lib.run_convert_bytes_const (P := Tryz.prog) W 35 5 #[.int .u8 x] 1 1 Tryz.underlying35 Tryz.underlying5
theorem one_in (x : Int) (W : World) (h : 0 ≤ x ∧ x < 256) : In (W.alloc (.cells #[.int .u8 x] 5 (1, 2))) (some ⟨W.heap.size, 0, none⟩) [x] 1 1 := by
  refine ⟨rfl, Nat.le_refl _, by omega, .inr ⟨_, rfl, fun j y hy => ?_⟩, fun y hy => by rw [List.mem_singleton.1 hy]; exact h⟩
  rw [add_head]
  have hh := heap_alloc_new W (.cells #[.int .u8 x] 5 (1, 2))
  cases j with
  | zero =>
    simp at hy
    subst hy
    unfold World.cell?
    simp only
    rw [hh]
    rfl
  | succ j => simp at hy
theorem after_alloc {w W w' : World} {B g lb : Nat} {d d' : Pk} {s : Ls} {p : ByteArray} {size : Nat} {o : Obj} (h : LSt W B g lb d s p size) (hb : Below B w W) (hd : Does (lown d g lb) (lown d' g lb) (W.alloc o) w') : Below B w w' :=
  (hb.trans ((below_new W o).mono h.size_le)).trans (hd.below (Nat.le_trans h.size_le (below_new W o).size) (fun k hk => (h.owned k hk).1))
theorem after_call {w W w' : World} {B g lb : Nat} {d d' : Pk} {s : Ls} {p : ByteArray} {size : Nat} (h : LSt W B g lb d s p size) (hb : Below B w W) (hd : Does (lown d g lb) (lown d' g lb) W w') : Below B w w' :=
  hb.trans (hd.below h.size_le (fun k hk => (h.owned k hk).1))
theorem Went.stay {p : ByteArray} {s s' : Ls} {r : Int} {G G' : List Gr} {more : List (List Int)} (h : Went p s s' r G G' more) (hs : Still s.m) : r = 0 ∧ Still s'.m ∧ J p s' G' ∧ total G' = total G ++ more := by
  obtain ⟨h1, h2⟩ := h.still hs
  rcases h.ways with ⟨-, h3, h4, h5⟩ | ⟨h3, -⟩
  · exact ⟨h1, ⟨h4, by rw [h2]; exact hs.left, by rw [h.room]; exact hs.room⟩, h3, h5⟩
  · rw [h1] at h3
    rcases h3 with h3 | h3 <;> cases h3

set_option maxRecDepth 100000 in
set_option maxHeartbeats 4000000 in
theorem wakes_any (w : World) (hT : Tab w.heap.size w) : Calls Tryz.prog 7 #[] w fun e w' => e = .returned (.bool true) ∧ Below w.heap.size w w' := by
  have HT := Lib.hid hT
  clear hT
  go_enter Tryz.func7, Tryz.ntmps7
  go_upto_region 3 with (first
    | (go_at_call 14; refine (calm_any _).mono ?_; rintro e w1 ⟨rfl, hb⟩; have B1 := Lib.hid hb; clear hb)
    | (go_at_call 8; refine (new_any (-1) (-1) none [] 0 0 w1 rfl (.inl rfl) (by decide) (fun x hx => (List.not_mem_nil hx).elim) (by decide) (by decide)).mono ?_; rintro e w2 ⟨g, d2, rfl, hps, hv, hb⟩; have E2 : Hid (PSt w2 w.heap.size g d2 ∧ d2.vm = m0 ∧ Below w.heap.size w w2) := Lib.hid ⟨hps.mono B1.out.size, hv, B1.out.trans (hb.mono B1.out.size)⟩; clear hps hv hb)
    | (go_at_call 10; refine (openNew w.heap.size g d2 m0 ⟨#[119]⟩ 1 w2 E2.out.1 E2.out.2.1 rfl rfl pre_w (by decide) (HT.out.on E2.out.2.2)).mono ?_; rintro e w3 ⟨lb, A3, c3, d3, rfl, hl, hd, hlb⟩; have E3 : Hid (LSt w3 w.heap.size g lb d3 ⟨m0, 1, 0⟩ ⟨#[119]⟩ 1 ∧ Below w.heap.size w w3) := Lib.hid ⟨hl, E2.out.2.2.trans (hd.below (by have := E2.out.2.2.size; omega) (fun k hk => (E2.out.1.owned k hk).1))⟩; clear hl hd hlb))
  have k97 := one_conv 97
  have k98 := one_conv 98
  have S0 : Hid (Still m0) := Lib.hid ⟨rfl, by decide, by decide⟩
  go_upto_region 5 with (first
    | (go_at_call 11; refine (appendJ w.heap.size g lb 10 d3 ⟨m0, 1, 0⟩ [] ⟨#[119]⟩ 1 _ [97] 1 1 _ (E3.out.1.kept (below_new _ _)) pre_w (by decide) (J.start rfl) rfl (HT.out.on (E3.out.2.alloc E3.out.2.size _)) (one_in 97 w3 (by decide)) (by decide) (by decide) (by decide) (fun x hx => (List.not_mem_nil hx).elim) (by decide)).mono ?_; rintro e w4 ⟨r4, s4, G4, d4, rfl, hw4, hp4, hl4, hd4⟩; obtain ⟨rfl, hs4, hj4, ht4⟩ := hw4.stay S0.out; obtain ⟨n4, l4⟩ := hp4 rfl; have E4 : Hid (LSt w4 w.heap.size g lb d4 s4 ⟨#[119]⟩ 1 ∧ Below w.heap.size w w4 ∧ Still s4.m ∧ J ⟨#[119]⟩ s4 G4 ∧ total G4 = [[97]] ∧ s4.num = 1 ∧ s4.len = 9 ∧ ∀ x ∈ G4, x.1 ≤ 10) := Lib.hid ⟨hl4, after_alloc E3.out.1 E3.out.2 hd4, hs4, hj4, ht4, n4, l4, hw4.top 10 (by decide) (fun x hx => (List.not_mem_nil hx).elim)⟩; clear E3 hw4 hp4 hl4 hd4 hs4 hj4 ht4 n4 l4)
    | (go_at_call 11; refine (appendJ w.heap.size g lb 10 d4 s4 G4 ⟨#[119]⟩ 1 _ [98] 1 1 _ (E4.out.1.kept (below_new _ _)) pre_w (by decide) E4.out.2.2.2.1 E4.out.2.2.1.down (HT.out.on (E4.out.2.1.alloc E4.out.2.1.size _)) (one_in 98 w4 (by decide)) (by decide) (by rw [E4.out.2.2.2.2.2.1]; decide) (by decide) E4.out.2.2.2.2.2.2.2 (by rw [E4.out.2.2.2.2.1]; decide)).mono ?_; rintro e w5 ⟨r5, s5, G5, d5, rfl, hw5, hp5, hl5, hd5⟩; obtain ⟨rfl, hs5, hj5, ht5⟩ := hw5.stay E4.out.2.2.1; obtain ⟨n5, l5⟩ := hp5 rfl; have E5 : Hid (LSt w5 w.heap.size g lb d5 s5 ⟨#[119]⟩ 1 ∧ Below w.heap.size w w5 ∧ Still s5.m ∧ J ⟨#[119]⟩ s5 G5 ∧ total G5 = [[97], [98]] ∧ s5.num = 2 ∧ s5.len = 9 ∧ ∀ x ∈ G5, x.1 ≤ 10) := Lib.hid ⟨hl5, after_alloc E4.out.1 E4.out.2.1 hd5, hs5, hj5, by rw [ht5, E4.out.2.2.2.2.1]; rfl, by rw [n5, E4.out.2.2.2.2.2.2.1, E4.out.2.2.2.2.2.1]; rfl, by rw [l5, E4.out.2.2.2.2.2.2.1]; rfl, hw5.top 10 (by rw [E4.out.2.2.2.2.2.1]; decide) E4.out.2.2.2.2.2.2.2⟩; clear hw5 hp5 hl5 hd5 hs5 hj5 ht5 n5 l5)
    | (go_at_call 12; refine (syncJ w.heap.size g lb 10 d5 s5 G5 ⟨#[119]⟩ 1 w5 E5.out.1 pre_w E5.out.2.2.2.1 E5.out.2.2.1.down (HT.out.on E5.out.2.1) (by rw [E5.out.2.2.2.2.2.1]; decide)).mono ?_; rintro e w6 ⟨r6, s6, G6, d6, rfl, hw6, hp6, hl6, hd6⟩; obtain ⟨rfl, hs6, hj6, ht6⟩ := hw6.stay E5.out.2.2.1; have E6 : Hid (LSt w6 w.heap.size g lb d6 s6 ⟨#[119]⟩ 1 ∧ Below w.heap.size w w6 ∧ Still s6.m ∧ J ⟨#[119]⟩ s6 G6 ∧ total G6 = [[97], [98]] ∧ s6.num = 2 ∧ s6.len = 9 ∧ sureG G6 = 2 ∧ ∀ x ∈ G6, x.1 ≤ 10) := Lib.hid ⟨hl6, after_call E5.out.1 E5.out.2.1 hd6, hs6, hj6, by rw [ht6, E5.out.2.2.2.2.1]; rfl, by rw [hp6.1, E5.out.2.2.2.2.2.1], by rw [hp6.2.1, E5.out.2.2.2.2.2.2.1], by rw [hp6.2.2 rfl, ht6, E5.out.2.2.2.2.1]; rfl, hw6.top 10 (by rw [E5.out.2.2.2.2.2.1]; decide) E5.out.2.2.2.2.2.2.2⟩; clear hw6 hp6 hl6 hd6 hs6 hj6 ht6)
    | (go_at_call 16; refine (segment_any lb g 3 _ w6 E6.out.1.lg (by simp only; rw [E6.out.2.2.2.2.2.2.1, E6.out.2.2.2.2.2.1]; rfl) (by simp only; rw [E6.out.2.2.2.2.2.1]; decide)).mono ?_; rintro e w7 ⟨rfl, hb⟩; have B7 := Lib.hid hb; clear hb))
  clear k97 k98
  have hJ := E6.out.2.2.2.1
  have hlen : G6.length = 2 := by have := hJ.cnt.2 (by rw [E6.out.2.2.2.2.2.2.1]; decide); rw [E6.out.2.2.2.2.2.1] at this; exact this.symm
  have hnums : (G6.map raw).map Prod.fst = [1, 2] := by rw [nums_raw, hJ.seq, hlen]; rfl
  have hfound := hJ.k.here.found hJ.k (m' := s6.m) hJ.k.fs E6.out.2.2.1.down (fun _ => E6.out.2.2.1) (by omega) (by rw [E6.out.2.2.2.2.1]; decide)
  obtain ⟨hF, j, j1, j2, hpay⟩ := hfound
  rw [E6.out.2.2.2.2.2.2.2.1] at j1
  rw [E6.out.2.2.2.2.1] at j2 hpay
  obtain rfl : j = 2 := by simp only [List.length_cons, List.length_nil] at j2; omega
  have hnext : nextNo (G6.map raw) = 3 := by
    unfold nextNo
    have h2 : ((G6.map raw).map Prod.fst).getLast? = some 2 := by rw [hnums]; rfl
    rw [List.getLast?_map, Option.map_eq_some_iff] at h2
    obtain ⟨y, h3, h4⟩ := h2
    rw [h3]
    show y.1 + 1 = 3
    rw [h4]
  have HPAY : Hid (pays ((G6.map raw).map (fun x => x.2.1)) = [[97], [98]]) := Lib.hid hpay
  have HNX := Lib.hid hnext
  have HNU := Lib.hid hnums
  have L7 := Lib.hid (E6.out.1.kept B7.out)
  have D7 : Hid (Below w.heap.size w w7) := Lib.hid (E6.out.2.1.trans (B7.out.mono E6.out.2.1.size))
  have HO : Hid (Calls Tryz.prog 10 #[.pointer (some ⟨g, 0, none⟩), .string ⟨#[119]⟩, .int .i64 1] w7 (OpenTo w7 w.heap.size g d6 s6.m ⟨#[119]⟩ 1 (G6.map raw))) := Lib.hid (open_any w.heap.size g d6 s6.m ⟨#[119]⟩ 1 _ (G6.map raw) w7 L7.out.ps L7.out.vm pre_w (by decide) (HT.out.on D7.out) hF (by rw [hnext]; decide))
  have HLF : Hid (Fits { s6.m with fs := segFs ⟨#[119]⟩ ((G6.map raw).map fixS) } 0 ∧ (segFs ⟨#[119]⟩ ((G6.map raw).map fixS)).map Prod.fst = [seg ⟨#[119]⟩ 1, seg ⟨#[119]⟩ 2]) := Lib.hid (by
    have hfix := (hF.fix (m' := { s6.m with fs := segFs ⟨#[119]⟩ ((G6.map raw).map fixS) }) rfl E6.out.2.2.1.down (fun _ => ⟨E6.out.2.2.1.down, E6.out.2.2.1.left, E6.out.2.2.1.room⟩)).1
    have hft := hfix.fits pre_w
    refine ⟨⟨hft.few, fun x hx => by have := hft.long x hx; omega, hft.names⟩, ?_⟩
    have e1 : (segFs ⟨#[119]⟩ ((G6.map raw).map fixS)).map Prod.fst = (((G6.map raw).map fixS).map Prod.fst).map (seg ⟨#[119]⟩) := by unfold segFs; simp only [List.map_map]; rfl
    rw [e1, fix_nums, hnums]
    rfl)
  clear hJ hlen hnums hF j1 j2 hpay hnext
  go_upto_region 7 with (first
    | (go_at_call 10; refine HO.out.mono ?_; rintro e w8 ⟨lb2, T, A8, c8, k, d8, rfl, hk, ht, hs, ho, hl, hd, hlb⟩; obtain rfl : k = 2 := (by have := congrArg List.length ht; rw [byts_len, hk, HPAY.out] at this; exact this); have E8 := Lib.hid (And.intro hk (And.intro ht (And.intro hs hl))); have D8 : Hid (Below w.heap.size w w8) := Lib.hid (D7.out.trans (hd.below D7.out.size (fun k hk => (L7.out.ps.owned k hk).1))); clear hk ht hs ho hl hd hlb)
    | (go_at_call 18; refine (list_vm w.heap.size g d8 _ w8 ([seg ⟨#[119]⟩ 1, seg ⟨#[119]⟩ 2], 0) E8.out.2.2.2.ps E8.out.2.2.2.vm HLF.out.1 (by unfold Vm.list; rw [show ({ s6.m with fs := segFs ⟨#[119]⟩ ((G6.map raw).map fixS) } : Vm).down = s6.m.down from rfl, E6.out.2.2.1.down, ← HLF.out.2]; rfl)).mono ?_; rintro e w9 ⟨A9, c9, rfl, ht, hb⟩; have E9 := Lib.hid ht; have B9 := Lib.hid hb; clear ht hb))
  have L9 := Lib.hid (E8.out.2.2.2.kept B9.out)
  have hT1 : ∃ s, T[1]? = some s ∧ s.l = [98] := by
    have h1 := congrArg (fun l : List (List Int) => l[1]?) (E8.out.2.1.trans HPAY.out)
    simp only [byts, List.getElem?_map, List.getElem?_cons_succ, List.getElem?_cons_zero, Option.map_eq_some_iff] at h1
    exact h1
  obtain ⟨s, hs1, hs2⟩ := hT1
  obtain ⟨ad, rfl, a0⟩ := lies_at (E8.out.2.2.1.row.lies.kept B9.out) hs1
  have hcv := conv_any ((E8.out.2.2.1.rows s (List.mem_of_getElem? hs1)).lies.kept B9.out) s.l.length s.c rfl
  rw [hs2] at a0 hcv
  have a1 : w9.cell? ⟨ad.block, ad.off + 1, none⟩ = some (.slice s.a 1 s.c) := a0
  have hcv1 : (convert 35 9 (.slice s.a 1 s.c)).run Tryz.prog w9 = .ok (.string ⟨#[98]⟩) w9 := hcv
  obtain ⟨ad', rfl, b0⟩ := texts_at E9.out.lies (k := 0) rfl
  rw [show ad'.add 0 = ad' by simp [Addr.add], seg_one] at b0
  have HSG := Lib.hid (segment_any lb2 g 3 _ w9 L9.out.lg (by simp only; rw [HNX.out]; rfl) (by simp only; rw [HNX.out]; decide))
  have DL : Hid (Below w.heap.size w w9) := Lib.hid (D8.out.trans (B9.out.mono D8.out.size))
  clear a0 hcv hs1 hs2
  have HA1 := Lib.hid (fun (W : World) (hb : Below w9.heap.size w9 W) => (show W.cell? ad' = some (.string ⟨#[119, 48, 48, 48, 48, 48, 49, 46, 108, 111, 103]⟩) from by rw [hb.cell (World.block_lt_of_cell? w9 _ b0)]; exact b0))
  go_wp2_with (go_at_call 16; refine HSG.out.mono ?_; rintro e w10 ⟨rfl, hb⟩; have B10 := Lib.hid hb; have b1 := HA1.out _ hb; clear hb)
  go_ret
  exact ⟨rfl, DL.out.trans (B10.out.mono DL.out.size)⟩

end Go.Proofs.YtjppklgegpmfpaaGreatDoor
