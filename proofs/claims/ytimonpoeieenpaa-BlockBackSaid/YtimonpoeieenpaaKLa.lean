/-
  The laws: any pairs are packed so, or refused.
-/
import Derived.Test.YtimonpoeieenpaaKLb
namespace Go.Proofs.Ytimonpoeieenpaa
open Go.RowKit

set_option maxRecDepth 100000 in
set_option maxHeartbeats 4000000 in
theorem lawBuilds_of (hwk : Wakes 7) (A : Option Addr) (l : List Bp) (n c : Nat) (w : World) (hn : l.length = n) (h : Lies w A (pvals l)) (hi : Ins w l) (hl : n * 48 ≤ 140737488351232) (hs : ∀ q ∈ l, q.k.l.length ≤ 140737488351232 ∧ q.v.l.length ≤ 140737488351232) :
    Calls Try.prog 3 #[.slice A n c] w fun e w' => e = .returned (.bool true) ∧ Below w.heap.size w w' := by
  have CP := Lib.hid (fun (w' : World) (hb : Below w.heap.size w w') => refCopy_any A l n c w' hn (h.kept hb) (hi.kept hb) hl hs)
  have RB := Lib.hid (fun (w' : World) (hb : Below w.heap.size w w') => refBuild_any A l n c w' hn (h.kept hb) (hi.kept hb) hl hs)
  have HS : Hid (∀ T : List Bp, rds T = rds l → ∀ q ∈ T, q.k.l.length ≤ 140737488351232 ∧ q.v.l.length ≤ 140737488351232) := Lib.hid (fun T e q hq => by
    have h1 : q.rd ∈ rds l := e ▸ List.mem_map_of_mem hq
    obtain ⟨q', hq', e'⟩ := List.mem_map.1 h1
    have h2 := hs q' hq'
    have e1 : q'.k.l = q.k.l := congrArg Prod.fst e'
    have e2 : q'.v.l = q.v.l := congrArg Prod.snd e'
    rw [e1, e2] at h2
    exact h2)
  have HY := Lib.hid hi.byt
  have BB := Lib.hid (fun (T : List Bp) (B : Nat) (A' : Option Addr) (c' : Nat) (w' : World) (e : rds T = rds l) (hp : Prow w' B A' c' T) (hm : Mades w' B T) => build_any A' T n c' w' (by rw [← hn, ← rds_len, e, rds_len]) hp.lies (hm.ins (fun p hp => HY.out p (e ▸ hp))) hl (HS.out T e))
  have HN := Lib.hid hn
  have WK := Lib.hid hwk
  clear h hi hl hs hn hwk
  go_enter Try.func3, Try.ntmps3
  go_wp2_with (first
    | (go_at_call 7; refine (WK.out _).mono ?_; rintro e w1 ⟨rfl, b1⟩; have B1 := Lib.hid b1; clear b1 WK)
    | (go_at_call 9; refine (CP.out _ B1.out).mono ?_; rintro e w2 ⟨T, A2, c2, t1, rfl, t2, t3, b2⟩; rw [show T.length = n by rw [← HN.out, ← rds_len, t1, rds_len]]; have T1 := Lib.hid (And.intro t1 (And.intro t2 t3)); have B2 := Lib.hid (below_then B1.out b2); clear t1 t2 t3 b2 CP)
    | (have t := BB; go_at_call 8; refine (BB.out T _ A2 c2 _ T1.out.1 T1.out.2.2 T1.out.2.1).mono ?_; rw [T1.out.1]; rintro e w3 ⟨A3, c3, rfl, r3, b3⟩; have R3 := Lib.hid r3; have B3 := Lib.hid (below_then B2.out b3); clear r3 b3 t BB)
    | (have t := RB; go_at_call 10; refine (RB.out _ B3.out).mono ?_; rintro e w4 ⟨A4, c4, rfl, r4, b4⟩; have R4 := Lib.hid r4; have S4 := Lib.hid (R3.out.kept b4 (Nat.le_refl _)); have B4 := Lib.hid (below_then B3.out b4); clear r4 b4 t RB)
    | (go_at_call 11; refine (same_any _ _ (buildP (rds l)).1 _ _ _ _ _ rfl rfl S4.out.lies R4.out.lies).mono ?_; rintro e w5 ⟨rfl, rfl⟩))
  go_ret
  exact ⟨by simp, B4.out⟩

end Go.Proofs.Ytimonpoeieenpaa
