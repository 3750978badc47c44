/- Alloc of a heap whose objects are told. -/
import Derived.Test.YtcigofjajphmjaaHbI
import Derived.Test.YtcigofjajphmjaaHr
namespace Go.Proofs.Ytcigofjajphmjaa
open Go.RowKit
set_option linter.unusedVariables false
set_option linter.unusedSimpArgs false
set_option maxRecDepth 100000

theorem allocS_ok {w0 w : World} {n i p s : Nat} {h m last ss ls sc lc : Nat} {sg lg : Option Addr} {gs gl : List (Nat × Nat)} {os : List Ob} {X : List Ck} (h1 : 1 ≤ n) (hlg : decide (16 < ((n : Nat) : Int)) = false) (hla : last ≤ 4611686018427387904) (hx : Hx os last) (hgl : gs.length ≤ 1000000) (hi : idxG n gs = some i) (hat : gs[i]? = some (p, s)) (hns : n ≤ s) (hps : p + s ≤ 65536) (hM0 : Mg w0 w (.obj h (.cells #[.map (some m), .int .i64 (((last : Nat) : Int)), .int .i64 (((ss : Nat) : Int)), .slice sg gs.length sc, .int .i64 (((ls : Nat) : Int)), .slice lg gl.length lc] 73) :: .obj m (mapO (os.map Ob.en) last) :: .row 96 2 (.slice sg gs.length sc) gs.length (gapC gs) :: .row 96 2 (.slice lg gl.length lc) gl.length (gapC gl) :: (os.map Ob.row ++ X))) : Calls Try.prog 9 #[.pointer (some ⟨h, 0, none⟩), .int .i64 ((n : Nat) : Int)] w fun e w' => ∃ gr, e = .returned (.tuple #[.int .i64 ((last + 1 : Nat) : Int), .int .i64 0]) ∧ Mg w0 w' (.obj h (.cells #[.map (some m), .int .i64 ((((last + 1) : Nat) : Int)), .int .i64 (((ss : Nat) : Int)), .slice sg ((gs.set i (p + n, s - n)).length) sc, .int .i64 (((ls : Nat) : Int)), .slice lg gl.length lc] 73) :: .obj m (mapO ((os ++ [nOb last p gr n]).map Ob.en) ((last + 1))) :: .row 96 2 (.slice sg ((gs.set i (p + n, s - n)).length) sc) ((gs.set i (p + n, s - n)).length) (gapC (gs.set i (p + n, s - n))) :: .row 96 2 (.slice lg gl.length lc) gl.length (gapC gl) :: ((os ++ [nOb last p gr n]).map Ob.row ++ X)) := by
  have hlt : i < gs.length := (List.getElem?_eq_some_iff.1 hat).1
  obtain ⟨gg, hgg⟩ := row_someH (hM0.has 2 rfl) (show gs.length ≠ 0 by omega)
  subst hgg
  refine (allocS_raw h1 hlg hla hx.new hgl hi hat hns hps hM0).mono ?_
  rintro e w' ⟨gr, rfl, hM⟩
  refine ⟨gr, rfl, ?_⟩
  have e1 : (nOb last p gr n).en = ⟨((last + 1 : Nat) : Int), .agg #[.int .i64 ((p : Nat) : Int), .slice (some ⟨gr, 0, none⟩) n n], last⟩ := by simp [Ob.en, Ob.v, Ob.sl, nOb]
  have e2 : (nOb last p gr n).row = .row 32 2 (.slice (some ⟨gr, 0, none⟩) n n) n (cellC (List.replicate n (0, false))) := by simp [Ob.row, Ob.sl, nOb]
  rw [List.map_append, List.map_cons, List.map_nil, e1, List.length_set]
  rw [← e2] at hM
  exact perm_row (C := [_, _, _, _]) hM
theorem allocL_ok {w0 w : World} {n i p s : Nat} {h m last ss ls sc lc : Nat} {sg lg : Option Addr} {gs gl : List (Nat × Nat)} {os : List Ob} {X : List Ck} (h1 : 1 ≤ n) (hlg : decide (16 < ((n : Nat) : Int)) = true) (hla : last ≤ 4611686018427387904) (hx : Hx os last) (hgl : gl.length ≤ 1000000) (hi : idxG n gl = some i) (hat : gl[i]? = some (p, s)) (hns : n ≤ s) (hps : p + s ≤ 65536) (hM0 : Mg w0 w (.obj h (.cells #[.map (some m), .int .i64 (((last : Nat) : Int)), .int .i64 (((ss : Nat) : Int)), .slice sg gs.length sc, .int .i64 (((ls : Nat) : Int)), .slice lg gl.length lc] 73) :: .obj m (mapO (os.map Ob.en) last) :: .row 96 2 (.slice sg gs.length sc) gs.length (gapC gs) :: .row 96 2 (.slice lg gl.length lc) gl.length (gapC gl) :: (os.map Ob.row ++ X))) : Calls Try.prog 9 #[.pointer (some ⟨h, 0, none⟩), .int .i64 ((n : Nat) : Int)] w fun e w' => ∃ gr, e = .returned (.tuple #[.int .i64 ((last + 1 : Nat) : Int), .int .i64 0]) ∧ Mg w0 w' (.obj h (.cells #[.map (some m), .int .i64 ((((last + 1) : Nat) : Int)), .int .i64 (((ss : Nat) : Int)), .slice sg gs.length sc, .int .i64 (((ls : Nat) : Int)), .slice lg ((gl.set i (p + n, s - n)).length) lc] 73) :: .obj m (mapO ((os ++ [nOb last p gr n]).map Ob.en) ((last + 1))) :: .row 96 2 (.slice sg gs.length sc) gs.length (gapC gs) :: .row 96 2 (.slice lg ((gl.set i (p + n, s - n)).length) lc) ((gl.set i (p + n, s - n)).length) (gapC (gl.set i (p + n, s - n))) :: ((os ++ [nOb last p gr n]).map Ob.row ++ X)) := by
  have hlt : i < gl.length := (List.getElem?_eq_some_iff.1 hat).1
  obtain ⟨gg, hgg⟩ := row_someH (hM0.has 3 rfl) (show gl.length ≠ 0 by omega)
  subst hgg
  refine (allocL_raw h1 hlg hla hx.new hgl hi hat hns hps hM0).mono ?_
  rintro e w' ⟨gr, rfl, hM⟩
  refine ⟨gr, rfl, ?_⟩
  have e1 : (nOb last p gr n).en = ⟨((last + 1 : Nat) : Int), .agg #[.int .i64 ((p : Nat) : Int), .slice (some ⟨gr, 0, none⟩) n n], last⟩ := by simp [Ob.en, Ob.v, Ob.sl, nOb]
  have e2 : (nOb last p gr n).row = .row 32 2 (.slice (some ⟨gr, 0, none⟩) n n) n (cellC (List.replicate n (0, false))) := by simp [Ob.row, Ob.sl, nOb]
  rw [List.map_append, List.map_cons, List.map_nil, e1, List.length_set]
  rw [← e2] at hM
  exact perm_row (C := [_, _, _, _]) hM
end Go.Proofs.Ytcigofjajphmjaa
