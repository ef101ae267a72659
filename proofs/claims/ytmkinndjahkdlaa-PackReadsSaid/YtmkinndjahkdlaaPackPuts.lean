/- PackPuts: any number, and any text, behind any bytes: the walk of the law. -/
import Derived.Test.YtmkinndjahkdlaaPackUp
import Derived.Deep.RegionHeld3
namespace Go.Proofs.Ytmkinndjahkdlaa.Pack
open Go.Proofs.Ytmkinndjahkdlaa.Mem
open Go.ChangeShapes Go.WideShapes Go.ChangeAt Go.RowKit
set_option linter.unusedVariables false

theorem put_small (n : Nat) (hn : n < 18446744073709551616) (k : Nat) (h8 : k ≤ 8) (v : Value) (len : Nat) (xs : List Int) (base : Nat) (w : World)
    (hown : w.ownsRow base 5 1 v len (cellsOf xs)) (hb : base ≤ w.heap.size) (hl : len ≤ 1073741824) :
    Calls Try.prog 7 #[v, .int .u64 (n : Int), .int .i64 (k : Int)] w fun e w' => ∃ v', e = .returned v' ∧ w'.ownsRow base 5 1 v' (len + k) (cellsOf (xs ++ put n k)) ∧ Onto w w' v v' := by
  by_cases h0 : k = 0
  · subst h0
    refine (put_none v n ((0 : Nat) : Int) (by omega) w).mono ?_
    rintro e w' ⟨rfl, rfl⟩
    exact ⟨v, rfl, by simpa [put] using hown, Onto.refl _ _⟩
  · exact put_any n hn k (by omega) h8 v len xs base w hown hb hl

theorem quiet_same {P : Program} {f : FuncId} {args : Array Value} {w : World} {n : Nat} {v : Value} (h : Calls P f args (w.drewN n) fun e w' => e = .returned v ∧ w.drewN n = w') : Calls P f args (w.drewN n) fun e w'' => e = .returned v ∧ ∃ m, w'' = w.drewN m :=
  h.mono fun _ _ h => ⟨h.1, n, h.2.symm⟩
set_option maxHeartbeats 1000000 in
theorem puts_long (a0 : Option Addr) (len cap : Nat) (n k : Int) (s : ByteArray) (w : World) (hm : len ≤ 9223372036854775807) (hs : s.size ≤ 9223372036854775807) (h : 500 < len ∨ 70000 < s.size) :
    Calls Try.prog 3 #[.slice a0 len cap, .int .u64 n, .int .i64 k, .string s] w fun e w' => e = .returned (.bool true) ∧ Below w.heap.size w w' := by
  by_cases h0 : 500 < len
  · go_enter Try.func3, Try.ntmps3
    go_wp2_with fail
    refine (up_any w).mono ?_
    rintro e w1 ⟨rfl, hb1⟩
    go_wp2_with fail
    go_ret
    exact ⟨rfl, hb1⟩
  · have h1 : 70000 < s.size := by omega
    go_enter Try.func3, Try.ntmps3
    go_wp2_with fail
    refine (up_any w).mono ?_
    rintro e w1 ⟨rfl, hb1⟩
    go_wp2_with fail
    go_ret
    exact ⟨rfl, hb1⟩
theorem Row.drewN {w : World} {a : Option Addr} {len : Nat} {zs : List Int} (h : Row w a len zs) (n : Nat) : Row (w.drewN n) a len zs := h.but (S := fun _ => False) ((But.refl _ w).drewN n) (fun _ _ _ h => h)

set_option maxHeartbeats 2000000 in
theorem puts_none (a0 : Option Addr) (len cap : Nat) (zs : List Int) (n k : Int) (s : ByteArray) (w : World) (hx : Row w a0 len zs) (hn0 : a0 = none → cap = 0) (hl : len ≤ 500) (hs : s.size ≤ 70000) (hk : k < 0 ∨ 8 < k) :
    Calls Try.prog 3 #[.slice a0 len cap, .int .u64 n, .int .i64 k, .string s] w fun e w' => e = .returned (.bool true) ∧ Below w.heap.size w w' := by
  obtain ⟨i0, hi0, hz0, hz1, hz2⟩ := info_parts u8_info
  have HN0 := Lib.hid hn0
  clear hn0
  obtain rfl : zs.length = len := hx.1
  by_cases hk0 : k < 0
  · go_enter Try.func3, Try.ntmps3
    go_wp2_with fail
    refine (up_any w).mono ?_
    rintro e w1 ⟨rfl, hb1⟩
    have hx1 := hx.below hb1
    go_wp2_with ((at_builtin
                  refine wpList_append_onto rfl (.tmp 23) (.tmp 24) _ rfl w1.heap.size 5 i0 _ 1 1 Try.underlying22 hi0 hz0 hz1 hz2 rfl (by omega) (.slice (some ⟨w1.heap.size, 0, none⟩) 0 0) 0 [] rfl (World.ownsRow_made w1 #[] 0 (Nat.le_refl _) (by simp) (by simp)) (.slice a0 zs.length cap) zs.length (cellsOf zs) rfl ((hx1.sees HN0.out).below ((Below.refl _ _).alloc (Nat.le_refl _) _)) (cellsOf_one zs) (by simp only [maxLen]; omega) (by omega) (by simp) ?_
                  intro v2 w2 ho2 hon2
                  have hb2 : Below w1.heap.size w1 w2 := ((Below.refl _ _).alloc (Nat.le_refl _) _).trans (hon2.below (World.ownsRow_made (e := 5) (size := 1) w1 #[] 0 (Nat.le_refl _) (by simp) (by simp)) (by simp))
                  obtain ⟨a2, c2, rfl, hr2, hlen2, hD2⟩ := own_shape (xs := zs) (by simpa using ho2) hx.2.1))
    have hx2 := hx1.below hb2
    have hs1 := fun n dst hd => run_string_row (P := Try.prog) (Row.drewN hr2 n) 22 5 dst Try.underlying22 Try.underlying5 hd c2
    have hs2 := fun n dst hd => run_string_row (P := Try.prog) (Row.drewN hx2 n) 22 5 dst Try.underlying22 Try.underlying5 hd cap
    clear hr2 hx2 hx1 hx ho2 hon2 hD2 hlen2
    have hk1 : k < 1 ∨ 8 < k := by omega
    go_quiet ((go_at_call 7; exact quiet_same (put_none _ _ _ hk1 _)))
    go_wp2
    have hbf : Below w.heap.size w w2 := hb1.trans (hb2.mono hb1.size)
    go_ret
    exact ⟨rfl, ⟨hbf.os, hbf.tape, hbf.output, hbf.size, hbf.block⟩⟩
  · have hk8 : 8 < k := by omega
    go_enter Try.func3, Try.ntmps3
    go_wp2_with fail
    refine (up_any w).mono ?_
    rintro e w1 ⟨rfl, hb1⟩
    have hx1 := hx.below hb1
    go_wp2_with ((at_builtin
                  refine wpList_append_onto rfl (.tmp 23) (.tmp 24) _ rfl w1.heap.size 5 i0 _ 1 1 Try.underlying22 hi0 hz0 hz1 hz2 rfl (by omega) (.slice (some ⟨w1.heap.size, 0, none⟩) 0 0) 0 [] rfl (World.ownsRow_made w1 #[] 0 (Nat.le_refl _) (by simp) (by simp)) (.slice a0 zs.length cap) zs.length (cellsOf zs) rfl ((hx1.sees HN0.out).below ((Below.refl _ _).alloc (Nat.le_refl _) _)) (cellsOf_one zs) (by simp only [maxLen]; omega) (by omega) (by simp) ?_
                  intro v2 w2 ho2 hon2
                  have hb2 : Below w1.heap.size w1 w2 := ((Below.refl _ _).alloc (Nat.le_refl _) _).trans (hon2.below (World.ownsRow_made (e := 5) (size := 1) w1 #[] 0 (Nat.le_refl _) (by simp) (by simp)) (by simp))
                  obtain ⟨a2, c2, rfl, hr2, hlen2, hD2⟩ := own_shape (xs := zs) (by simpa using ho2) hx.2.1))
    have hx2 := hx1.below hb2
    have hs1 := fun n dst hd => run_string_row (P := Try.prog) (Row.drewN hr2 n) 22 5 dst Try.underlying22 Try.underlying5 hd c2
    have hs2 := fun n dst hd => run_string_row (P := Try.prog) (Row.drewN hx2 n) 22 5 dst Try.underlying22 Try.underlying5 hd cap
    clear hr2 hx2 hx1 hx ho2 hon2 hD2 hlen2
    have hk1 : k < 1 ∨ 8 < k := by omega
    go_quiet ((go_at_call 7; exact quiet_same (put_none _ _ _ hk1 _)))
    go_wp2
    have hbf : Below w.heap.size w w2 := hb1.trans (hb2.mono hb1.size)
    go_ret
    exact ⟨rfl, ⟨hbf.os, hbf.tape, hbf.output, hbf.size, hbf.block⟩⟩
end Go.Proofs.Ytmkinndjahkdlaa.Pack
