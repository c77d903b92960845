/-
  Walks: one call on both disks: Revive; any call.
  Any call on both disks; the law VdiskPlays, walked.
-/
import Derived.Test.YtledkcinccafcaaPxA
import Derived.Test.YtledkcinccafcaaPxF
namespace Go.Proofs.Ytledkcinccafcaa
section
open Go.RowKit
open Go.Maps

theorem rf_does {w1 W w' : World} {B C W0 g e x : Nat} {p : Pk} {d : Dk} {keep : List Int} {k S : Nat} {m2 : Md} (ht : Twin w1 B C W0 g e p d keep k S) (hb : Below w1.heap.size w1 W) (hx : x < w1.heap.size) (hn : ¬ d.own e x) (hl : Left W C e d m2 w') :
    ∃ d1, PSt w' B g p ∧ RefSt w' C e d1 ∧ d1.md = m2 ∧ (∀ y, p.own g y → ¬ d1.own e y) ∧ Below W0 w1 w' ∧ w'.heap[x]? = w1.heap[x]? ∧ x < w'.heap.size := by
  have ht' := ht.below hb
  have hlow : W0 ≤ w1.heap.size := by have := ht.lowB; have := ht.ps.low; have := ht.ps.at_.lt; omega
  have hlowC : C ≤ W.heap.size := by have := ht'.rs.low; have := ht'.rs.at_.lt; omega
  obtain ⟨d1, g1, g2, g3⟩ := hl
  obtain ⟨e1, e2, -⟩ := does_not g3 (x := x) (by have := hb.size; omega) hn
  refine ⟨d1, ht'.ps.does g3 (fun k hk ho => ht.off k ho hk), g1, g2, fun y hy hd' => ?_, (hb.mono hlow).trans ((g3.below hlowC (fun k hk => (ht'.rs.owned k hk).1)).mono ht.lowC), e1.trans (hb.block x hx), e2⟩
  rcases g3.grows y hd' with h | h
  · exact ht.off y hy h
  · have := (ht'.ps.owned y hy).2
    omega

set_option maxRecDepth 100000 in
set_option maxHeartbeats 8000000 in
theorem act6 (B C W0 g e : Nat) (p : Pk) (d : Dk) (keep : List Int) (k S : Nat) (kind : Int) (s t : ByteArray) (da : Option Addr) (dn dc : Nat) (ops room : Int) (K : Option Addr) (nk : List Int) (kn kc : Nat) (w : World) (h : Twin w B C W0 g e p d keep k S) (hk : k ≤ 1048576) (hS : S ≤ 1048576) (hP : ∀ W, Below W0 w W → PlIn W ops room K nk kn kc) (hlo : nk ≠ [] → ∀ ad, K = some ad → ad.block < W0) (hkind : kind.tmod 7 ≠ 0 ∧ kind.tmod 7 ≠ 1 ∧ kind.tmod 7 ≠ 2 ∧ kind.tmod 7 ≠ 3 ∧ kind.tmod 7 ≠ 4 ∧ kind.tmod 7 ≠ 5) :
    Calls Try.prog 13 #[.pointer (some ⟨g, 0, none⟩), .pointer (some ⟨e, 0, none⟩), .agg #[.int .i64 kind, .string s, .string t, .slice da dn dc, .int .i64 ops, .int .i64 room, .slice K kn kc]] w (Acted w B C W0 g e (k + 1) (S + dn)) := by
  obtain ⟨w1, hw1⟩ : ∃ w1, w.alloc (.cells #[.int .i64 kind, .string s, .string t, .slice da dn dc, .int .i64 ops, .int .i64 room, .slice K kn kc] 40) = w1 := ⟨_, rfl⟩
  have B1 : Hid (Below w.heap.size w w1) := Lib.hid (hw1 ▸ below_new _ _)
  have HW : Hid (W0 ≤ w.heap.size) := Lib.hid (by have := h.lowB; have := h.ps.low; have := h.ps.at_.lt; omega)
  have HT := Lib.hid (h.below B1.out)
  have HNO : Hid (¬ p.own g w.heap.size ∧ ¬ d.own e w.heap.size) := Lib.hid ⟨fun ho => by have := (h.ps.owned _ ho).2; omega, fun ho => by have := (h.rs.owned _ ho).2; omega⟩
  have HLT : Hid (w.heap.size < w1.heap.size) := Lib.hid (by rw [← hw1]; simp)
  obtain ⟨f0, f1, f2, f3, f4, f5⟩ : (kind.tmod 7 == 0) = false ∧ (kind.tmod 7 == 1) = false ∧ (kind.tmod 7 == 2) = false ∧ (kind.tmod 7 == 3) = false ∧ (kind.tmod 7 == 4) = false ∧ (kind.tmod 7 == 5) = false := by
    obtain ⟨h0, h1, h2, h3, h4, h5⟩ := hkind
    exact ⟨by simpa using h0, by simpa using h1, by simpa using h2, by simpa using h3, by simpa using h4, by simpa using h5⟩
  have x0 : w1.cell? ⟨w.heap.size, 0, none⟩ = some (.int .i64 kind) := by rw [← hw1]; exact lit_cell w _ _ 0
  have HZ : Hid (w1.cell? ⟨w.heap.size, 4, none⟩ = some (.int .i64 ops) ∧ w1.cell? ⟨w.heap.size, 5, none⟩ = some (.int .i64 room) ∧ w1.cell? ⟨w.heap.size, 6, none⟩ = some (.slice K kn kc)) := Lib.hid (by rw [← hw1]; exact ⟨lit_cell w _ _ 4, lit_cell w _ _ 5, lit_cell w _ _ 6⟩)
  obtain ⟨x4, x5, x6⟩ := HZ.out
  obtain ⟨m1, hm1⟩ : ∃ m, p.vm.revive ops room nk = m := ⟨_, rfl⟩
  obtain ⟨m2, hm2⟩ : ∃ m, d.md.revive keep ops room K kn kc = m := ⟨_, rfl⟩
  have HA : Hid (Alike m1 m2 nk) := Lib.hid (by rw [← hm1, ← hm2]; exact h.alike.revive ops room nk K kn kc)
  have HMD : Hid (m2.K = K ∧ m2.kn = kn ∧ m2.done = 0) := Lib.hid (by rw [← hm2]; exact ⟨rfl, rfl, rfl⟩)
  have HL : Hid (Le7 p.vm.fs m1.fs dn 1048576) := Lib.hid (by rw [← hm1]; exact le_revL p.vm.keep p.vm.fs 0 dn 1048576 h.sane)
  have HFI : Hid (Fits m1 0) := Lib.hid (by
    have h1 := h.names
    have hsum : sumM m1.fs ≤ sumM p.vm.fs := by rw [← hm1]; exact sum_revL p.vm.keep p.vm.fs 0 h.sane
    have HL := HL.out
    exact ⟨by have := HL.few; have := h.few; omega, fun x hx => by have := long_le hx; have := h.sum; omega, fun x hx => by have := HL.names h1 x hx; omega⟩)
  obtain ⟨nn, hnn⟩ : ∃ nn, m1.fs.length = nn := ⟨_, rfl⟩
  have HNN := Lib.hid hnn
  have HPL : Hid (∀ W, Below W0 w W → PlIn W ops room K nk kn kc) := Lib.hid hP
  have HLO : Hid (nk ≠ [] → ∀ ad, K = some ad → ad.block < W0) := Lib.hid hlo
  have HCR : Hid (Calls Try.prog 26 #[.pointer (some ⟨e, 0, none⟩), .agg #[.int .i64 ops, .int .i64 room, .slice K kn kc]] w1 fun en w' => en = .returned (.tuple #[]) ∧ ∃ d1, PSt w' B g p ∧ RefSt w' C e d1 ∧ d1.md = m2 ∧ (∀ y, p.own g y → ¬ d1.own e y) ∧ Below W0 w1 w' ∧ w'.heap[w.heap.size]? = w1.heap[w.heap.size]? ∧ w.heap.size < w'.heap.size) := Lib.hid (by
    have ht := HT.out
    refine (refRevive_wide C e d keep ops room K kn kc w1 ht.rs (fun q hq => ?_) ht.kints ht.kl (fun hn ad ha => by have := ht.kB hn ad ha; have := ht.lowC; omega) ht.ki ht.kfew).mono ?_
    · have h1 : q.rd ∈ p.vm.fs := by rw [ht.alike.fs]; exact List.mem_map_of_mem hq
      exact ht.sane _ h1
    · rintro en w' ⟨h1, h2⟩
      rw [hm2] at h2
      exact ⟨h1, rf_does ht (Below.refl _ _) HLT.out HNO.out.2 h2⟩)
  have HRV : Hid (∀ (w2 W : World) (d1 : Dk) (A5 : Option Addr) (c5 B5 : Nat), PSt w2 B g p → RefSt w2 C e d1 → (∀ y, p.own g y → ¬ d1.own e y) → w.heap.size < w2.heap.size → Below w2.heap.size w2 W → w2.heap.size ≤ B5 → Irow W B5 A5 c5 nk → Calls Try.prog 16 #[.pointer (some ⟨g, 0, none⟩), .agg #[.int .i64 ops, .int .i64 room, .slice A5 kn c5]] W fun en w' => en = .returned (.int .i64 0) ∧ ∃ p1, PSt w' B g p1 ∧ p1.vm = m1 ∧ RefSt w' C e d1 ∧ (∀ y, p1.own g y → ¬ d1.own e y) ∧ Below W0 w2 w' ∧ w'.heap[w.heap.size]? = w2.heap[w.heap.size]? ∧ w'.heap[e]? = w2.heap[e]? ∧ w.heap.size < w'.heap.size) := Lib.hid (fun w2 W d1 A5 c5 B5 k1 k2 k3 k4 hb hB5 hI => by
    have ht := HT.out
    have hpl := HPL.out w (Below.refl _ _)
    refine (revive_vm B g p p.vm m1 ops room A5 nk kn c5 W (k1.kept hb) rfl ht.sane (ht.fits (by omega) (by omega) 0 (by omega)) hpl.len hI.lies (fun ad ha ho => by have := (own_in hI ad ha).1; have := (k1.owned _ ho).2; omega) (by have := hpl.few; omega) hpl.ki hpl.ops hpl.room hm1).mono ?_
    rintro en w' ⟨h1, h2⟩
    refine ⟨h1, ?_⟩
    have hbl := Rest.below (k1.kept hb) h2
    obtain ⟨p1, g1, g2, g3⟩ := h2
    obtain ⟨e1, e2, -⟩ := does_not g3 (x := w.heap.size) (by have := hb.size; omega) HNO.out.1
    obtain ⟨e3, -, -⟩ := does_not g3 (x := e) (by have := hb.size; have := k2.at_.lt; omega) (fun ho => k3 e ho (.inl rfl))
    have hlow : W0 ≤ w2.heap.size := by have := ht.lowB; have := k1.low; have := k1.at_.lt; omega
    refine ⟨p1, g1, g2, (k2.kept hb).does g3 k3, fun y hy hd' => ?_, (hb.mono hlow).trans (hbl.mono ht.lowB), e1.trans (hb.block _ k4), e3.trans (hb.block _ k2.at_.lt), e2⟩
    rcases g3.grows y hy with h | h
    · exact k3 y h hd'
    · have := ((k2.kept hb).owned y hd').2
      omega)
  clear hm1 hm2 hnn h hP hlo hkind
  have hrr : ((0 : Int) == 0) = true := by simp
  go_enter Try.func13, Try.ntmps13
  go_upto_region 19 with (go_at_call 26; refine HCR.out.mono ?_; rintro en w2 ⟨rfl, d1, h2⟩; have E2 := Lib.hid h2; clear h2)
  have HD3 : Hid (d1.l.length = nn) := Lib.hid (by rw [← HNN.out, HA.out.fs, ← E2.out.2.2.1]; exact (List.length_map ..).symm)
  have HC0 : Hid (w2.cell? ⟨e, 0, none⟩ = some (.slice d1.A nn d1.c)) := Lib.hid (by have c0 := E2.out.2.1.at_.cell.1; rw [HD3.out] at c0; exact c0)
  have HBW : Hid (Below W0 w w2) := Lib.hid ((B1.out.mono HW.out).trans E2.out.2.2.2.2.1)
  have HK : Hid (∀ W : World, W.heap[w.heap.size]? = w2.heap[w.heap.size]? → W.heap[e]? = w2.heap[e]? → (W.cell? ⟨w.heap.size, 4, none⟩ = some (.int .i64 ops) ∧ W.cell? ⟨w.heap.size, 5, none⟩ = some (.int .i64 room) ∧ W.cell? ⟨w.heap.size, 6, none⟩ = some (.slice K kn kc)) ∧ W.cell? ⟨e, 0, none⟩ = some (.slice d1.A nn d1.c)) := Lib.hid (fun W h1 h2 => by
    have e := h1.trans E2.out.2.2.2.2.2.1
    exact ⟨⟨(World.cell?_of_block e).trans HZ.out.1, (World.cell?_of_block e).trans HZ.out.2.1, (World.cell?_of_block e).trans HZ.out.2.2⟩, (World.cell?_of_block h2).trans HC0.out⟩)
  have HKB : Hid (∀ W : World, Below w2.heap.size w2 W → (W.cell? ⟨w.heap.size, 4, none⟩ = some (.int .i64 ops) ∧ W.cell? ⟨w.heap.size, 5, none⟩ = some (.int .i64 room) ∧ W.cell? ⟨w.heap.size, 6, none⟩ = some (.slice K kn kc)) ∧ W.cell? ⟨e, 0, none⟩ = some (.slice d1.A nn d1.c)) := Lib.hid (fun W hb => HK.out W (hb.block _ E2.out.2.2.2.2.2.2) (hb.block _ E2.out.2.1.at_.lt))
  have HPN : Hid (∀ W, Below w2.heap.size w2 W → PlIn W ops room K nk kn kc) := Lib.hid (fun W hb => HPL.out W (HBW.out.trans (hb.mono (by have := HBW.out.size; have := HW.out; omega))))
  go_region_held3 (fun W => (W.cell? ⟨w.heap.size, 4, none⟩ = some (.int .i64 ops) ∧ W.cell? ⟨w.heap.size, 5, none⟩ = some (.int .i64 room) ∧ W.cell? ⟨w.heap.size, 6, none⟩ = some (.slice K kn kc)) ∧ W.cell? ⟨e, 0, none⟩ = some (.slice d1.A nn d1.c)) (first | exact E8.out.2 | exact E7.out.2.1 | exact E6.out.2 | exact HKB.out _ (by repeat (first | exact Below.refl _ _ | exact B5.out | refine Below.drew ?_)) | go_keep) (first
    | (go_at_call 11; refine (plan_n (HPN.out _ (by repeat (first | exact Below.refl _ _ | refine Below.drew ?_)))).mono ?_; rintro en w5 ⟨A5, c5, rfl, r5, b5⟩; have R5 := Lib.hid r5; have B5 : Hid (Below w2.heap.size w2 w5) := Lib.hid ((by repeat (first | exact Below.refl _ _ | refine Below.drew ?_) : Below w2.heap.size w2 _).trans b5); clear r5 b5)
    | (go_at_call 16; refine (HRV.out w2 _ d1 A5 c5 _ E2.out.1 E2.out.2.1 E2.out.2.2.2.1 E2.out.2.2.2.2.2.2 (by repeat (first | exact B5.out | refine Below.drew ?_)) (Nat.le_refl _) (by first | exact R5.out | exact own_kept R5.out (Below.refl _ _).drew (Nat.le_refl _))).mono ?_; rintro en w6 ⟨rfl, p1, h6⟩; have E6 := Lib.hid (And.intro h6 (HK.out _ h6.2.2.2.2.2.1 h6.2.2.2.2.2.2.1)); clear h6)
    | (go_at_call 15; refine (dump_rd E6.out.1.1 E6.out.1.2.1 E6.out.1.2.2.1 (by rw [E2.out.2.2.1]; exact HA.out.fs.symm) HFI.out HNN.out (by repeat (first | exact Below.refl _ _ | refine Below.drew ?_))).mono ?_; rintro en w7 ⟨A7, c7, rfl, h71, h72⟩; have E7 : Hid (Below w6.heap.size w6 w7 ∧ ((w7.cell? ⟨w.heap.size, 4, none⟩ = some (.int .i64 ops) ∧ w7.cell? ⟨w.heap.size, 5, none⟩ = some (.int .i64 room) ∧ w7.cell? ⟨w.heap.size, 6, none⟩ = some (.slice K kn kc)) ∧ w7.cell? ⟨e, 0, none⟩ = some (.slice d1.A nn d1.c)) ∧ ∀ X, Below w7.heap.size w7 X → Calls Try.prog 14 #[.slice A7 nn c7, .slice d1.A nn d1.c] X (Tells X true)) := Lib.hid ⟨h71, HK.out _ ((h71.block _ E6.out.1.2.2.2.2.2.2.2).trans E6.out.1.2.2.2.2.2.1) ((h71.block _ E6.out.1.2.2.1.at_.lt).trans E6.out.1.2.2.2.2.2.2.1), h72⟩; clear h71 h72)
    | (go_at_call 14; refine (E7.out.2.2 _ (by repeat (first | exact Below.refl _ _ | refine Below.drew ?_))).mono ?_; rintro en w8 ⟨rfl, h8⟩; have B8 : Hid (Below w6.heap.size w6 w8) := Lib.hid (E7.out.1.trans (((by repeat (first | exact Below.refl _ _ | refine Below.drew ?_) : Below w7.heap.size w7 _).trans h8).mono E7.out.1.size)); have E8 := Lib.hid (And.intro B8.out (HK.out _ ((B8.out.block _ E6.out.1.2.2.2.2.2.2.2).trans E6.out.1.2.2.2.2.2.1) ((B8.out.block _ E6.out.1.2.2.1.at_.lt).trans E6.out.1.2.2.2.2.2.2.1))); clear h8))
  all_goals
    go_wp2_with fail
    go_ret
    have ht := HT.out
    obtain ⟨⟨k1, k2, k3, k4, k5, -⟩, -⟩ := E6.out
    have hb8 : Below w6.heap.size w6 _ := E8.out.1
    have hlow : W0 ≤ w6.heap.size := by have := ht.lowB; have := k1.low; have := k1.at_.lt; omega
    have hbw : Below W0 w _ := (HBW.out.trans k5).trans (hb8.mono hlow)
    have hpl := HPL.out _ hbw
    have hmd := E2.out.2.2.1
    have hK : d1.K = K := (congrArg Md.K hmd).trans HMD.out.1
    have hkn : d1.kn = kn := (congrArg Md.kn hmd).trans HMD.out.2.1
    have hdn : d1.md.done = 0 := (congrArg Md.done hmd).trans HMD.out.2.2
    have hl := HL.out
    rw [← k2] at hl
    exact ⟨by simp, hbw, p1, d1, nk, ⟨k1.kept hb8, k3.kept hb8, ht.lowB, ht.lowC, k4, by rw [k2, hmd]; exact HA.out, by rw [hkn]; exact hpl.len, by rw [hK]; exact hpl.ints, by rw [hK]; exact HLO.out, hpl.ki, by have := hpl.len; have := hpl.few; omega, by have := hl.few; have := ht.few; omega, by have := hl.sum; have := ht.sum; omega, hl.names ht.names, hl.sane ht.sane, by omega⟩⟩
end

section
open Go.RowKit
open Go.Maps

theorem act_any (B C W0 g e : Nat) (p : Pk) (d : Dk) (keep : List Int) (k S : Nat) (kind : Int) (s t : ByteArray) (da : Option Addr) (dl : List Int) (dn dc : Nat) (ops room : Int) (K : Option Addr) (nk : List Int) (kn kc : Nat) (w : World) (h : Twin w B C W0 g e p d keep k S) (hk : k + 1 ≤ 1048576) (hS : S + dn ≤ 1048576) (hs : s.size ≤ 1048576) (ht : t.size ≤ 1048576) (hdn0 : dl.length = dn) (hIn : ∀ W, Below W0 w W → In W da dl dn dc) (hlo : dl ≠ [] → ∀ ad, da = some ad → ad.block < W0) (hP : ∀ W, Below W0 w W → PlIn W ops room K nk kn kc) (hPlo : nk ≠ [] → ∀ ad, K = some ad → ad.block < W0) :
    Calls Try.prog 13 #[.pointer (some ⟨g, 0, none⟩), .pointer (some ⟨e, 0, none⟩), .agg #[.int .i64 kind, .string s, .string t, .slice da dn dc, .int .i64 ops, .int .i64 room, .slice K kn kc]] w (Acted w B C W0 g e (k + 1) (S + dn)) := by
  by_cases h0 : kind.tmod 7 = 0
  · exact act0 B C W0 g e p d keep k S kind s t da dl dn dc ops room K kn kc w h hk hS hs hdn0 hIn hlo h0
  by_cases h1 : kind.tmod 7 = 1
  · exact act1 B C W0 g e p d keep k S kind s t da dn dc ops room K kn kc w h (by omega) (by omega) hs ht h1
  by_cases h2 : kind.tmod 7 = 2
  · exact act2 B C W0 g e p d keep k S kind s t da dn dc ops room K kn kc w h (by omega) (by omega) hs ht h2
  by_cases h3 : kind.tmod 7 = 3
  · exact act3 B C W0 g e p d keep k S kind s t da dn dc ops room K kn kc w h (by omega) (by omega) hs ht h3
  by_cases h4 : kind.tmod 7 = 4
  · exact act4 B C W0 g e p d keep k S kind s t da dn dc ops room K kn kc w h (by omega) (by omega) hs h4
  by_cases h5 : kind.tmod 7 = 5
  · exact act5 B C W0 g e p d keep k S kind s t da dn dc ops room K kn kc w h (by omega) (by omega) hs h5
  · exact act6 B C W0 g e p d keep k S kind s t da dn dc ops room K nk kn kc w h (by omega) (by omega) hP hPlo ⟨h0, h1, h2, h3, h4, h5⟩
theorem sum_insAll (l : List Fl) : sumM ((insAll l).map Fl.rd) = sumM (l.map Fl.rd) := by
  have key : ∀ (l a : List Fl), sumM ((l.foldl (fun acc q => insF q acc) a).map Fl.rd) = sumM (a.map Fl.rd) + sumM (l.map Fl.rd) := by
    intro l
    induction l with
    | nil => intro a; simp [sumM]
    | cons x l ih =>
      intro a
      rw [List.foldl_cons, ih, insM_rd, sum_ins, List.map_cons, sum_cons]
      omega
  have := key l []
  simpa [sumM, insAll] using this
theorem okName_size {s : ByteArray} (h : okName s = true) : s.size ≤ 1048576 := by
  unfold okName at h
  simp at h
  omega

set_option maxRecDepth 100000 in
set_option maxHeartbeats 8000000 in
theorem lawPlays (A : Option Addr) (l : List Fl) (n c : Nat) (ops room : Int) (K : Option Addr) (keep : List Int) (kn kc : Nat) (A2 : Option Addr) (la : List Ac) (n2 c2 : Nat) (w : World) (h : FsIn w A l n c) (hp : PlIn w ops room K keep kn kc) (ha : AcsUp w A2 la n2 c2) (hsum : sumM (l.map Fl.rd) + n + (sumA la + n2) ≤ 1048576) :
    Calls Try.prog 3 #[.slice A n c, .agg #[.int .i64 ops, .int .i64 room, .slice K kn kc], .slice A2 n2 c2] w fun e w' => e = .returned (.bool true) ∧ Below w.heap.size w w' := by
  have H := Lib.hid (And.intro h hp)
  have HA := Lib.hid ha
  have HSUM := Lib.hid hsum
  have hn47 : n ≤ 140737488355328 := by have := h.few; omega
  have hn2 : n2 ≤ 1048576 := by omega
  obtain ⟨w0, hw0⟩ : ∃ w0, w.alloc (.cells #[.int .i64 ops, .int .i64 room, .slice K kn kc] 25) = w0 := ⟨_, rfl⟩
  have B0 : Hid (Below w.heap.size w w0) := Lib.hid (hw0 ▸ below_new _ _)
  have HZ : Hid (w0.cell? ⟨w.heap.size, 0, none⟩ = some (.int .i64 ops) ∧ w0.cell? ⟨w.heap.size, 1, none⟩ = some (.int .i64 room) ∧ w0.cell? ⟨w.heap.size, 2, none⟩ = some (.slice K kn kc)) := Lib.hid (by rw [← hw0]; exact ⟨lit_cell w _ _ 0, lit_cell w _ _ 1, lit_cell w _ _ 2⟩)
  have HS0 : Hid (w0.heap.size = w.heap.size + 1) := Lib.hid (by rw [← hw0]; simp)
  have HK : Hid (∀ W, Below w0.heap.size w0 W → W.cell? ⟨w.heap.size, 0, none⟩ = some (.int .i64 ops) ∧ W.cell? ⟨w.heap.size, 1, none⟩ = some (.int .i64 room) ∧ W.cell? ⟨w.heap.size, 2, none⟩ = some (.slice K kn kc)) := Lib.hid (fun W hb => by
    have e := hb.block w.heap.size (by have := HS0.out; omega)
    exact ⟨(World.cell?_of_block e).trans HZ.out.1, (World.cell?_of_block e).trans HZ.out.2.1, (World.cell?_of_block e).trans HZ.out.2.2⟩)
  have HCP := Lib.hid (fun (W : World) (hb : Below w.heap.size w W) => copy_n (H.out.1.kept hb))
  have HPL := Lib.hid (fun (W : World) (hb : Below w.heap.size w W) => plan_n (H.out.2.kept hb))
  have HOF := Lib.hid (fun (W : World) (l' : List Fl) (A' : Option Addr) (c' : Nat) (K' : Option Addr) (kc' : Nat) (h1 : FsIn W A' l' n c') (h2 : l'.map Fl.rd = l.map Fl.rd) (h3 : Ints W K' keep) => of_n (kc := kc') h1 h2 (H.out.2.again h3))
  have HRO := Lib.hid (fun (W : World) (hb : Below w.heap.size w W) => refOf_any A l n c ops room K kn kc W h.len (h.kept hb).lies (h.kept hb).ins (by omega) (fun q hq => by have := long_le (List.mem_map_of_mem (f := Fl.rd) hq); have e : q.rd.2.1.length = q.d.l.length := rfl; omega) (fun q hq => by have := h.names q hq; omega))
  clear h hp ha hsum
  obtain ⟨r, hr⟩ : ∃ r, ofE l = r := ⟨_, rfl⟩
  rw [hr] at HOF HRO
  have HR := Lib.hid hr
  clear hr
  by_cases h0 : r = 0
  · subst h0
    go_enter Try.func3, Try.ntmps3
    go_upto_region 3 with (go_at_call 8; refine (wakes_any w0).mono ?_; rintro e w1 ⟨rfl, hb⟩; have B1 := Lib.hid hb; clear hb)
    have D1 : Hid (Below w.heap.size w w1) := Lib.hid (B0.out.trans (B1.out.mono B0.out.size))
    go_region_held3 (fun W => W.cell? ⟨w.heap.size, 0, none⟩ = some (.int .i64 ops) ∧ W.cell? ⟨w.heap.size, 1, none⟩ = some (.int .i64 room) ∧ W.cell? ⟨w.heap.size, 2, none⟩ = some (.slice K kn kc)) (first | exact HK.out _ B7.out | exact HK.out _ B6.out | exact HK.out _ B5.out | exact HK.out _ B1.out | exact HK.out _ B1.out.drew | go_keep) (first
      | (go_at_call 10; refine (HCP.out _ (by repeat (first | exact D1.out | refine Below.drew ?_))).mono ?_; rintro e w5 ⟨l5, A5, c5, rfl, h51, h52, h53, h54⟩; have E5 : Hid (FsIn w5 A5 l5 n c5 ∧ l5.map Fl.rd = l.map Fl.rd) := Lib.hid ⟨copied_in (H.out.1.kept D1.out) h51 h52 h53, h51⟩; have B5 : Hid (Below w0.heap.size w0 w5) := Lib.hid (B1.out.trans (((by repeat (first | exact Below.refl _ _ | refine Below.drew ?_) : Below w1.heap.size w1 _).trans h54).mono B1.out.size)); have D5 : Hid (Below w.heap.size w w5) := Lib.hid (B0.out.trans (B5.out.mono B0.out.size)); clear h51 h52 h53 h54)
      | (go_at_call 11; refine (HPL.out _ (by repeat (first | exact D5.out | refine Below.drew ?_))).mono ?_; rintro e w6 ⟨A6, c6, rfl, h61, h62⟩; have B6 : Hid (Below w0.heap.size w0 w6) := Lib.hid (B5.out.trans (((by repeat (first | exact Below.refl _ _ | refine Below.drew ?_) : Below w5.heap.size w5 _).trans h62).mono B5.out.size)); have E6 : Hid (FsIn w6 A5 l5 n c5 ∧ Ints w6 A6 keep) := Lib.hid ⟨E5.out.1.kept ((by repeat (first | exact Below.refl _ _ | refine Below.drew ?_) : Below w5.heap.size w5 _).trans h62), h61.lies⟩; clear h61 h62)
      | (go_at_call 9; refine (HOF.out _ l5 A5 c5 A6 c6 (by first | exact E6.out.1 | exact E6.out.1.kept (Below.refl _ _).drew) E5.out.2 (by first | exact E6.out.2 | exact Lies.kept E6.out.2 (Below.refl _ _).drew)).mono ?_; rintro e w7 ⟨hb7, h7⟩; obtain ⟨-, g, p, rfl, h71, h72⟩ := h7.resolve_left (fun h => h.1 rfl); have B7 : Hid (Below w0.heap.size w0 w7) := Lib.hid (B6.out.trans (((by repeat (first | exact Below.refl _ _ | refine Below.drew ?_) : Below w6.heap.size w6 _).trans hb7).mono B6.out.size)); have E7 : Hid (PSt w7 w0.heap.size g p ∧ p.vm = m0 l ops room keep) := Lib.hid ⟨h71.mono (by first | exact B6.out.size | (have := B6.out.size; simpa using this)), h72⟩; clear hb7 h7 h71 h72))
    have LO : Hid (w.heap.size ≤ w0.heap.size) := Lib.hid B0.out.size
    have D7 : Hid (Below w.heap.size w w7) := Lib.hid (B0.out.trans (B7.out.mono B0.out.size))
    obtain ⟨z0, z1, z2⟩ := HK.out _ B7.out
    go_wp2_with (go_at_call 12; refine (HRO.out _ D7.out).mono ?_; rintro en w8 ⟨hb8, h8⟩; obtain ⟨-, eg, d, rfl, h81, h82⟩ := h8.resolve_left (fun h => h.1 rfl); have E8 := Lib.hid (And.intro hb8 (And.intro h81 h82)); clear hb8 h8 h81 h82)
    have D8 : Hid (Below w.heap.size w w8) := Lib.hid (D7.out.trans (E8.out.1.mono D7.out.size))
    have HOK := Lib.hid (ofE_zero HR.out)
    have HT0 : Hid (Twin w8 w0.heap.size w7.heap.size w.heap.size g eg p d keep n (sumM (l.map Fl.rd))) := Lib.hid (by
      obtain ⟨k1, k2⟩ := E7.out
      obtain ⟨k3, k4, k5⟩ := E8.out
      have hfs : p.vm.fs = (insAll l).map Fl.rd := by rw [k2]; rfl
      refine ⟨k1.kept k3, k4, LO.out, D7.out.size, fun x hx hd => ?_, ⟨?_, ?_, ?_, ?_, ?_⟩, ?_, ?_, ?_, H.out.2.ki, ?_, ?_, ?_, ?_, ?_, ?_⟩
      · have h1 := (k1.owned x hx).2
        have h2 := (k4.owned x hd).1
        omega
      · rw [k2, k5]; rfl
      · rw [k2, k5]; rfl
      · rw [k2]; rfl
      · rw [k2, k5]; rfl
      · rw [k2, k5]
        show (ops < 0 ∧ ops = ops) ∨ (0 ≤ ops ∧ 0 ≤ ops ∧ ops = ops - 0)
        omega
      · rw [show d.kn = d.md.kn from rfl, k5]; exact H.out.2.len
      · rw [show d.K = d.md.K from rfl, k5]; exact Lies.kept H.out.2.ints D8.out
      · rw [show d.K = d.md.K from rfl, k5]; exact fun hk => ints_lt H.out.2.ints hk
      · have := H.out.2.len; have := H.out.2.few; omega
      · rw [hfs, List.length_map, insAll_len, H.out.1.len]; exact Nat.le_refl _
      · rw [hfs, sum_insAll]; exact Nat.le_refl _
      · intro x hx
        rw [hfs] at hx
        obtain ⟨q, hq, rfl⟩ := List.mem_map.1 hx
        exact okName_size (HOK.out.1 q (insAll_mem l q hq))
      · rw [hfs]; exact insAll_sane HOK.out.2.2
      · rw [k5]; exact Int.natCast_nonneg n)
    clear hw0 HOF HRO
    go_loopw [44] (fun t44 wr => ∃ (i : Nat) (p' : Pk) (d' : Dk) (keep' : List Int), i ≤ n2 ∧ t44 = .int .i64 i ∧ Hid (Twin wr w0.heap.size w7.heap.size w.heap.size g eg p' d' keep' (n + i) (sumM (l.map Fl.rd) + sumA (la.take i))) ∧ Hid (Below w.heap.size w wr)) (fun t44 _ => n2 - (intOf t44).toNat)
    case atStart => exact ⟨0, p, d, keep, by omega, rfl, Lib.hid (by simpa [sumA] using HT0.out), D8⟩
    case round =>
      obtain ⟨i, p', d', keep', hi, rfl, ht, hb⟩ := hrel
      by_cases hlt : i < n2
      · have hq := List.getElem?_eq_getElem (l := la) (i := i) (by have := HA.out.len; omega)
        generalize la[i]'(by have := HA.out.len; omega) = a at hq
        have ha := HA.out.each a (List.mem_of_getElem? hq)
        obtain ⟨ad, hA2, x0, x1, x2, x3, x4, x5, x6⟩ := act_at (HA.out.lies.kept hb.out) hq
        have HSA := Lib.hid (sum_takeA hq)
        have HSB := Lib.hid (sum_takeA_le la (i + 1))
        obtain ⟨kind, s, t, ⟨da, dc, dl⟩, ops', room', K', nk, kc'⟩ := a
        unfold Sl.val at x3
        simp only at x0 x1 x2 x3 x4 x5 x6 HSA
        obtain ⟨dn, hdn⟩ : ∃ dn, dl.length = dn := ⟨_, rfl⟩
        obtain ⟨kn', hkn⟩ : ∃ kn', nk.length = kn' := ⟨_, rfl⟩
        rw [hdn] at x3 HSA
        rw [hkn] at x6
        have HIN : ∀ W, Below w.heap.size wr W → In W da dl dn dc := fun W hW => by
          have h1 := ha.data.kept (hb.out.trans hW)
          simp only [hdn] at h1
          exact h1
        have HPW : ∀ W, Below w.heap.size wr W → PlIn W ops' room' K' nk kn' kc' := fun W hW => by
          have h1 := ha.plan.kept (hb.out.trans hW)
          simp only [hkn] at h1
          exact h1
        have HCA : Hid (Calls Try.prog 13 #[.pointer (some ⟨g, 0, none⟩), .pointer (some ⟨eg, 0, none⟩), .agg #[.int .i64 kind, .string s, .string t, .slice da dn dc, .int .i64 ops', .int .i64 room', .slice K' kn' kc']] wr (Acted wr w0.heap.size w7.heap.size w.heap.size g eg (n + i + 1) (sumM (l.map Fl.rd) + sumA (la.take i) + dn))) := Lib.hid (act_any w0.heap.size w7.heap.size w.heap.size g eg p' d' keep' (n + i) (sumM (l.map Fl.rd) + sumA (la.take i)) kind s t da dl dn dc ops' room' K' nk kn' kc' wr ht.out (by have := HSUM.out; omega) (by have := HSUM.out; have := HSA.out; have := HSB.out; omega) ha.ss ha.ts hdn HIN (fun hn => bys_lt ha.data.bys hn) HPW (fun hn => ints_lt ha.plan.ints hn))
        subst hA2
        clear HIN HPW ha hq hdn hkn
        go_wp2_with (go_at_call 13; refine HCA.out.mono ?_; rintro en w9 ⟨rfl, h91, p9, d9, k9, h92⟩; have E9 := Lib.hid (And.intro h91 h92); clear h91 h92)
        go_roundw
        case rel => exact ⟨i + 1, p9, d9, k9, by omega, by go_num, Lib.hid (by rw [HSA.out, ← Nat.add_assoc, ← Nat.add_assoc]; exact E9.out.2), Lib.hid (hb.out.trans E9.out.1)⟩
        case measure => simp [intOf]; omega
      · obtain rfl : i = n2 := by omega
        obtain ⟨nn, hnn⟩ : ∃ nn, p'.vm.fs.length = nn := ⟨_, rfl⟩
        have HNN := Lib.hid hnn
        have HFI : Hid (Fits p'.vm 0) := Lib.hid (ht.out.fits (by have := HSUM.out; omega) (by have := HSUM.out; have := sum_takeA_le la i; omega) 0 (by omega))
        have HD : Hid (d'.l.length = nn) := Lib.hid (by rw [← HNN.out, ht.out.alike.fs]; exact (List.length_map ..).symm)
        have HC : Hid (∀ W, Below wr.heap.size wr W → W.cell? ⟨eg, 0, none⟩ = some (.slice d'.A nn d'.c)) := Lib.hid (fun W hW => by have c0 := (ht.out.rs.kept hW).at_.cell.1; rw [HD.out] at c0; exact c0)
        clear hnn
        go_upto_region 13 with fail
        go_region_held3 (fun W => W.cell? ⟨eg, 0, none⟩ = some (.slice d'.A nn d'.c)) (first | exact HC.out _ (by repeat (first | exact Below.refl _ _ | exact E10.out.1 | exact E11.out | refine Below.drew ?_)) | go_keep) (first
          | (go_at_call 15; refine (dump_rd ht.out.ps rfl ht.out.rs ht.out.alike.fs.symm HFI.out HNN.out (by repeat (first | exact Below.refl _ _ | refine Below.drew ?_))).mono ?_; rintro en w10 ⟨A10, c10, rfl, h1, h2⟩; have E10 := Lib.hid (And.intro h1 h2); clear h1 h2)
          | (go_at_call 14; refine (E10.out.2 _ (by repeat (first | exact Below.refl _ _ | refine Below.drew ?_))).mono ?_; rintro en w11 ⟨rfl, h3⟩; have E11 : Hid (Below wr.heap.size wr w11) := Lib.hid (E10.out.1.trans (((by repeat (first | exact Below.refl _ _ | refine Below.drew ?_) : Below w10.heap.size w10 _).trans h3).mono E10.out.1.size)); clear h3))
        all_goals
          go_wp2_with fail
          go_ret
          have hb11 : Below wr.heap.size wr _ := E11.out
          exact ⟨rfl, hb.out.trans (hb11.mono hb.out.size)⟩
  · have hz : (r == 0) = false := by simpa using h0
    have hrr : (r == r) = true := by simp
    go_enter Try.func3, Try.ntmps3
    go_upto_region 3 with (go_at_call 8; refine (wakes_any w0).mono ?_; rintro e w1 ⟨rfl, hb⟩; have B1 := Lib.hid hb; clear hb)
    have D1 : Hid (Below w.heap.size w w1) := Lib.hid (B0.out.trans (B1.out.mono B0.out.size))
    go_region_held3 (fun W => W.cell? ⟨w.heap.size, 0, none⟩ = some (.int .i64 ops) ∧ W.cell? ⟨w.heap.size, 1, none⟩ = some (.int .i64 room) ∧ W.cell? ⟨w.heap.size, 2, none⟩ = some (.slice K kn kc)) (first | exact HK.out _ B7.out | exact HK.out _ B6.out | exact HK.out _ B5.out | exact HK.out _ B1.out | exact HK.out _ B1.out.drew | go_keep) (first
      | (go_at_call 10; refine (HCP.out _ (by repeat (first | exact D1.out | refine Below.drew ?_))).mono ?_; rintro e w5 ⟨l5, A5, c5, rfl, h51, h52, h53, h54⟩; have E5 : Hid (FsIn w5 A5 l5 n c5 ∧ l5.map Fl.rd = l.map Fl.rd) := Lib.hid ⟨copied_in (H.out.1.kept D1.out) h51 h52 h53, h51⟩; have B5 : Hid (Below w0.heap.size w0 w5) := Lib.hid (B1.out.trans (((by repeat (first | exact Below.refl _ _ | refine Below.drew ?_) : Below w1.heap.size w1 _).trans h54).mono B1.out.size)); have D5 : Hid (Below w.heap.size w w5) := Lib.hid (B0.out.trans (B5.out.mono B0.out.size)); clear h51 h52 h53 h54)
      | (go_at_call 11; refine (HPL.out _ (by repeat (first | exact D5.out | refine Below.drew ?_))).mono ?_; rintro e w6 ⟨A6, c6, rfl, h61, h62⟩; have B6 : Hid (Below w0.heap.size w0 w6) := Lib.hid (B5.out.trans (((by repeat (first | exact Below.refl _ _ | refine Below.drew ?_) : Below w5.heap.size w5 _).trans h62).mono B5.out.size)); have E6 : Hid (FsIn w6 A5 l5 n c5 ∧ Ints w6 A6 keep) := Lib.hid ⟨E5.out.1.kept ((by repeat (first | exact Below.refl _ _ | refine Below.drew ?_) : Below w5.heap.size w5 _).trans h62), h61.lies⟩; clear h61 h62)
      | (go_at_call 9; refine (HOF.out _ l5 A5 c5 A6 c6 (by first | exact E6.out.1 | exact E6.out.1.kept (Below.refl _ _).drew) E5.out.2 (by first | exact E6.out.2 | exact Lies.kept E6.out.2 (Below.refl _ _).drew)).mono ?_; rintro e w7 ⟨hb7, h7⟩; obtain ⟨-, rfl⟩ := h7.resolve_right (fun h => h0 h.1); have B7 : Hid (Below w0.heap.size w0 w7) := Lib.hid (B6.out.trans (((by repeat (first | exact Below.refl _ _ | refine Below.drew ?_) : Below w6.heap.size w6 _).trans hb7).mono B6.out.size)); clear hb7 h7))
    have D7 : Hid (Below w.heap.size w w7) := Lib.hid (B0.out.trans (B7.out.mono B0.out.size))
    obtain ⟨z0, z1, z2⟩ := HK.out _ B7.out
    go_wp2_with (go_at_call 12; refine (HRO.out _ D7.out).mono ?_; rintro en w8 ⟨hb8, h8⟩; obtain ⟨-, rfl⟩ := h8.resolve_right (fun h => h0 h.1); have E8 := Lib.hid hb8; clear hb8 h8)
    go_ret
    exact ⟨rfl, D7.out.trans (E8.out.mono D7.out.size)⟩
end

end Go.Proofs.Ytledkcinccafcaa
