/- NatB -/
import Derived.Test.YtgjohjfehgdgbaaGreatDoorNatA
namespace Go.Proofs.YtgjohjfehgdgbaaGreatDoor
open Go.RowKit
set_option linter.unusedVariables false
set_option linter.unusedSimpArgs false

def sound(l:List Nat):Bool:=decide (l.length≤512)&&(decide (l.length=0) || !decide (l.getD (l.length-1) 0=0))
theorem sound_iff(l:List Nat):sound l=true↔l.length≤512∧Top l:=by
  unfold sound Top;rw[←List.length_eq_zero_iff];simp
def cmpN(x y:Nat):Int:=if x<y then -1 else if y<x then 1 else 0

theorem last_cell{w:World}{ao:Option Addr}{l:List Nat}(h:Rd w ao l)(h0:l.length≠0):∃b off,ao=some ⟨b,off,none⟩∧w.cell? ⟨b,off+(l.length-1),none⟩=some (.int .u32 ((l.getD (l.length-1) 0:Nat):Int)):=by
  obtain⟨b,off,h1,_,h3⟩:=h.pos (fun e=>h0 (by rw[e]; rfl));exact⟨b,off,h1,h3 _ (by omega)⟩

set_option maxHeartbeats 4000000 in
set_option maxRecDepth 1000000 in
theorem sound_any{w:World}{ao:Option Addr}{l:List Nat}(cap:Nat)(h:Rd w ao l)(hl:l.length≤9223372036854775807):
    Calls Tryz.prog 109 #[.slice ao l.length cap] w fun e w'=>e=.returned (.bool (sound l))∧w'=w:=by
  by_cases h0:l.length=0
  · have e:sound l=true:=(by simp[sound,h0]);rw[e,h0];clear e h hl h0
    go_enter Tryz.func109,Tryz.ntmps109
    go_wp2
    go_ret
    exact⟨rfl,rfl⟩
  · obtain⟨b,off,rfl,hc⟩:=last_cell h h0;by_cases h5:l.length≤512
    · have e:sound l=!decide (l.getD (l.length-1) 0=0):=(by simp[sound,h0,h5]);rw[e];have hx:=h.dig.getD (l.length-1);generalize l.getD (l.length-1) 0=x at *
      have e2:(!decide (x=0))=!((x:Int)==0):=by
        by_cases hx0:x=0<;>simp[hx0]
      rw[e2];generalize l.length=n at *
      have h1:((n:Int)==0)=false:=(by simp; omega);clear h e e2
      go_enter Tryz.func109,Tryz.ntmps109
      go_wp2
      go_ret
      exact⟨by simp[bne],rfl⟩
    · have e:sound l=false:=(by simp[sound,h5]);rw[e];generalize l.length=n at *
      clear h hc e
      go_enter Tryz.func109,Tryz.ntmps109
      go_wp2
      go_ret
      exact⟨rfl,rfl⟩

set_option maxHeartbeats 4000000 in
set_option maxRecDepth 1000000 in
theorem rsound_any{w:World}{ao:Option Addr}{l:List Nat}(cap:Nat)(h:Rd w ao l)(hl:l.length≤9223372036854775807):
    Calls Tryz.prog 103 #[.slice ao l.length cap] w fun e w'=>e=.returned (.bool (sound l))∧w'=w:=by
  by_cases h0:l.length=0
  · have e:sound l=true:=(by simp[sound,h0]);rw[e,h0];clear e h hl h0
    go_enter Tryz.func103,Tryz.ntmps103
    go_wp2
    go_ret
    exact⟨rfl,rfl⟩
  · obtain⟨b,off,rfl,hc⟩:=last_cell h h0;by_cases h5:l.length≤512
    · have e:sound l=!decide (l.getD (l.length-1) 0=0):=(by simp[sound,h0,h5]);rw[e];have hx:=h.dig.getD (l.length-1);generalize l.getD (l.length-1) 0=x at *
      have e2:(!decide (x=0))=!((x:Int)==0):=by
        by_cases hx0:x=0<;>simp[hx0]
      rw[e2];generalize l.length=n at *
      have h1:((n:Int)==0)=false:=(by simp; omega);clear h e e2
      go_enter Tryz.func103,Tryz.ntmps103
      go_wp2
      go_ret
      exact⟨by simp[bne],rfl⟩
    · have e:sound l=false:=(by simp[sound,h5]);rw[e];generalize l.length=n at *
      clear h hc e
      go_enter Tryz.func103,Tryz.ntmps103
      go_wp2
      go_ret
      exact⟨rfl,rfl⟩

set_option maxHeartbeats 4000000 in
theorem compareI_any(x y:Nat)(w:World)(hx:x≤70368744177664)(hy:y≤70368744177664):
    Calls Tryz.prog 134 #[.int .i64 (x:Int),.int .i64 (y:Int)] w fun e w'=>e=.returned (.int .i64 (cmpN x y))∧w'=w:=by
  unfold cmpN;by_cases h1:x<y
  · rw[if_pos h1]
    go_enter Tryz.func134,Tryz.ntmps134
    go_wp2_with go_in
    go_ret
    exact⟨rfl,rfl⟩
  · rw[if_neg h1];by_cases h2:y<x
    · rw[if_pos h2]
      go_enter Tryz.func134,Tryz.ntmps134
      go_wp2_with go_in
      go_ret
      exact⟨rfl,rfl⟩
    · rw[if_neg h2]
      go_enter Tryz.func134,Tryz.ntmps134
      go_wp2_with go_in
      go_ret
      exact⟨rfl,rfl⟩

set_option maxHeartbeats 4000000 in
theorem compareU_any(x y:Nat)(w:World)(hx:x<4294967296)(hy:y<4294967296):
    Calls Tryz.prog 135 #[.int .u32 (x:Int),.int .u32 (y:Int)] w fun e w'=>e=.returned (.int .i64 (cmpN x y))∧w'=w:=by
  unfold cmpN;by_cases h1:x<y
  · rw[if_pos h1]
    go_enter Tryz.func135,Tryz.ntmps135
    go_wp2_with go_in
    go_ret
    exact⟨rfl,rfl⟩
  · rw[if_neg h1];by_cases h2:y<x
    · rw[if_pos h2]
      go_enter Tryz.func135,Tryz.ntmps135
      go_wp2_with go_in
      go_ret
      exact⟨rfl,rfl⟩
    · rw[if_neg h2]
      go_enter Tryz.func135,Tryz.ntmps135
      go_wp2_with go_in
      go_ret
      exact⟨rfl,rfl⟩
end Go.Proofs.YtgjohjfehgdgbaaGreatDoor
