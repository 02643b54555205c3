import Derived.Test.YtdkaoopkbhaheaaGreatPN60
import Derived.Test.YtdkaoopkbhaheaaGreatPN56
import Derived.Test.YtdkaoopkbhaheaaGreatQN48
import Derived.Deep.DeepCutAuto
import Derived.Test.YtdkaoopkbhaheaaGreatQR7
set_option maxHeartbeats 8000000
namespace Go.Proofs.YtdkaoopkbhaheaaGreat
open Go.RowKit Go.Lib
open Jor
open scoped Classical
set_option linter.unusedVariables false
set_option linter.unusedSimpArgs false
def pg (ps : List (List (List IP))) (k : Nat) : List (List IP) := ps.getD k []
def Polys (w : World) (a : Option Addr) (PA : Nat -> Option Addr) (PC : Nat -> Nat) (A : Nat -> Nat -> Option Addr) (C : Nat -> Nat -> Nat) (ps : List (List (List IP))) : Prop :=
 ps.length = 0 \/ ∃ b off,a = some ⟨b,off,none⟩ /\ ∀ k,k < ps.length -> w.cell? ⟨b,off + k,none⟩ = some (.slice (PA k) (pg ps k).length (PC k)) /\ RingsL w (PA k) (A k) (C k) (pg ps k)
def Script (w : World) (a : Option Addr) (n : Nat) (Z : Nat -> Int × Int × Int × Int) : Prop :=
 n = 0 \/ ∃ b off,a = some ⟨b,off,none⟩ /\ ∀ i,i < n -> (w.cell? ⟨b,off + i * 4,none⟩ = some (.int .i64 (Z i).1) /\ w.cell? ⟨b,off + i * 4 + 1,none⟩ = some (.int .i64 (Z i).2.1) /\ w.cell? ⟨b,off + i * 4 + 2,none⟩ = some (.int .i64 (Z i).2.2.1) /\ w.cell? ⟨b,off + i * 4 + 3,none⟩ = some (.int .i64 (Z i).2.2.2)) /\ -9223372036854775808 <= (Z i).1 /\ (Z i).1 <= 9223372036854775807
theorem infoPM : (Tryz.prog.info? 24).map (fun i => (i.zero,i.size,i.bytes)) = some (some (.pointer none),1,8) := by kernel_rfl
theorem underPM : Tryz.prog.underlying 38 = some (.slice 24) := by kernel_rfl
theorem one_ptr (p : Option Addr) : ∀ u ∈ [Value.pointer p],u.oneCell' = true := by
 intro u hu
 rw [List.mem_singleton] at hu; subst hu; rfl
set_option maxRecDepth 100000 in
theorem all_walk (pa : Option Addr) (pcap : Nat) (PA : Nat -> Option Addr) (PC : Nat -> Nat) (A : Nat -> Nat -> Option Addr) (C : Nat -> Nat -> Nat) (ps : List (List (List IP))) (sa : Option Addr) (sl sc : Nat) (Z : Nat -> Int × Int × Int × Int) (w : World) (hpl : ps.length <= 1048576) (hps : ∀ k,k < ps.length -> (pg ps k).length <= 1048576 /\ (verts (pg ps k)).length <= 1048576) (hsl : sl <= 1048576) (hp : Polys w pa PA PC A C ps) (hz : Script w sa sl Z) :
  Calls Tryz.prog 6 #[.slice pa ps.length pcap,.slice sa sl sc] w fun e w' => e = .returned (.bool true) /\ Below w.heap.size w w' := by
 have HP : Hid (Polys w pa PA PC A C ps) := hp
 have HZ : Hid (Script w sa sl Z) := hz
 have HS : Hid (∀ k,k < ps.length -> (pg ps k).length <= 1048576 /\ (verts (pg ps k)).length <= 1048576) := hps
 clear hp hz hps
 obtain ⟨i0,hi0,hz0,hz1,hz2⟩ := info_parts infoPM
 go_enter Tryz.func6,Tryz.ntmps6
 go_upto_region 2 with (first | (go_at_call 7; refine (known_any _).mono ?_; rintro e w1 ⟨rfl,hb1⟩))
 go_wp2
 go_loopw [5,6,7,8,9,10] (fun ok l i _ _ _ wr => ∃ (k : Nat) (RL : List Rec),k <= ps.length /\ ok = .bool true /\ i = .int .i64 k /\ RL.length <= k /\ St w 4 RL l wr) (fun _ _ i _ _ _ _ => ps.length - (intOf i).toNat)
 case atStart => exact ⟨0,[],Nat.zero_le _,rfl,rfl,Nat.le_refl _,St.start hb1 4⟩
 case round =>
  clear hb1
  obtain ⟨k,RL,hk,rfl,rfl,hrl,hst⟩ := hrel
  have HST : Hid (St w 4 RL u6 wr) := hst
  obtain ⟨la,lc,rfl⟩ : ∃ a c,u6 = .slice a RL.length c := by
   rcases hst.row.2 with ⟨h,h2⟩ | ⟨g,c,cur,h,_⟩
   ·exact ⟨none,0,by rw [h,h2]⟩
   ·exact ⟨_,_,h⟩
  have hbw := hst.below
  clear hst
  have k0 : (0 : Int) <= (k : Int) := by omega
  by_cases hlt : k < ps.length
  ·have kn : (k : Int) < (ps.length : Int) := by omega
   obtain ⟨pb,po,rfl,hcell⟩ : ∃ b off,pa = some ⟨b,off,none⟩ /\ ∀ k,k < ps.length -> w.cell? ⟨b,off + k,none⟩ = some (.slice (PA k) (pg ps k).length (PC k)) /\ RingsL w (PA k) (A k) (C k) (pg ps k) := by
    rcases HP.out with h | h
    ·omega
    ·exact h
   obtain ⟨hc,hR⟩ := hcell k hlt
   obtain ⟨hn,hsz⟩ := HS.out k hlt
   have hcr := cell_later hbw hc
   have HR : Hid (RingsL w (PA k) (A k) (C k) (pg ps k)) := hR
   clear hcell hR
   have CH : Hid (Calls Tryz.prog 11 #[.slice (PA k) (pg ps k).length (PC k)] wr fun e w' => e = .returned (.bool true) /\ Below wr.heap.size wr w') := checks_walk _ _ _ _ (pg ps k) wr hn (Rings.later hbw HR.out) hsz
   have MA : Hid (∀ z,Below wr.heap.size wr z -> Calls Tryz.prog 8 #[.slice (PA k) (pg ps k).length (PC k),.int .i64 (k : Int)] z fun e w' => MadeP z (k : Int) (PA k) (PC k) (pg ps k) e w') := fun z hz => made_any _ _ _ _ (pg ps k) _ z hn hsz (Rings.later (below_then hbw hz) HR.out)
   generalize pg ps k = rs at *
   generalize PA k = ra at *
   generalize PC k = rc at *
   go_upto_region 7 with (first | (go_at_call 11; refine CH.out.mono ?_; rintro e w2 ⟨rfl,hb2⟩))
   have hc2 := cell_later hb2 hcr
   by_cases hch : chkP rs = 0
   ·go_upto_region 8 with (first | (go_at_call 8; refine (MA.out _ hb2).mono ?_; intro e w3 hm; obtain ⟨x,T,F,bM,g,cg,bt,ct,lv,LS,W,rfl,hX,hWw,hL4,hb3⟩ := hm.resolve_left (fun h => h.1 hch) |>.2; have HX : Hid (XM w2.heap.size W w3 x (k : Int) ra rc rs T F bM g cg bt ct lv LS) := hX; clear hm hX))
    have H2 : Hid (St w 4 RL (.slice la RL.length lc) w2) := HST.out.later hb2
    have RO : Hid (Rec.ok ⟨w2.heap.size,W,x,(k : Int),ra,rc,rs,T,F,bM,g,cg,bt,ct,lv,LS⟩ w.heap.size 4 w3) := ⟨good_of hch,HX.out,hWw,H2.out.below.size,Nat.le_of_eq hL4,Nat.le_of_eq hL4.symm⟩
    have hR3 : Hid (w3.ownsRow w.heap.size 24 1 (.slice la RL.length lc) RL.length (RL.map fun r => .pointer (some ⟨r.x,0,none⟩))) := (H2.out.later hb3).row
    have hb03 := (H2.out.later hb3).below.size
    have hA2 : Hid (RL.length + 1 <= maxLen) := by show _ <= _; unfold maxLen; omega
    have hsA : ∀ o : Obj,w.heap.size <= (w3.alloc o).heap.size := fun o => by simp; omega
    have FIN : Hid (∀ (o : Obj) (g cap : Nat) (w4 : World),(w3.alloc o).grownBy w4 (Value.slice la RL.length lc).ownBlock -> w4.ownsRow w.heap.size 24 1 (.slice (some ⟨g,0,none⟩) (RL.length + 1) cap) (RL.length + 1) ((RL.map fun r => .pointer (some ⟨r.x,0,none⟩)) ++ [.pointer (some ⟨x,0,none⟩)]) -> ((Value.slice la RL.length lc).ownBlock = some g \/ g = (w3.alloc o).heap.size) -> ∃ RL' : List Rec,RL'.length <= k + 1 /\ St w 4 RL' (.slice (some ⟨g,0,none⟩) (RL.length + 1) cap) w4) := fun o g cap w4 h1 h2 h3 => ⟨RL ++ [⟨w2.heap.size,W,x,(k : Int),ra,rc,rs,T,F,bM,_,cg,bt,ct,lv,LS⟩],by simp; omega,H2.out.made hb3 RO.out rfl h1 h2 h3⟩
    clear HX
    go_wp2_with (at_builtin; refine wpList_append_lies _ rfl _ _ 38 rfl w.heap.size 24 i0 _ 1 8 underPM hi0 hz0 hz1 hz2 rfl (by decide) _ _ _ rfl (hR3.out.alloc _) ⟨_,0,none⟩ 1 1 _ rfl rfl (World.news_of_block (heap_alloc_new _ _)) (one_ptr _) (by decide) hA2.out (by omega) (hsA _) _ rfl ?_; intro g5 cp w5 hown5 hgrow5 hat5 hlt5)
    go_roundw
    case rel =>
     obtain ⟨RL',hl',hS'⟩ := FIN.out _ _ _ _ hgrow5 hown5 hat5
     exact ⟨k + 1,RL',by omega,by simp,by go_num,hl',hS'⟩
    case measure => simp [intOf]; omega
   ·go_upto_region 8 with (first | (go_at_call 8; refine (MA.out _ hb2).mono ?_; intro e w3 hm; obtain ⟨rfl,hb3⟩ := (hm.resolve_right (fun h => hch h.1)).2; clear hm))
    go_wp2
    go_roundw
    case rel => exact ⟨k + 1,RL,by omega,by simp,by go_num,by omega,HST.out.later (below_then hb2 hb3)⟩
    case measure => simp [intOf]; omega
  ·have kn : ¬ (k : Int) < (ps.length : Int) := by omega
   clear HP HS
   obtain ⟨n,hn⟩ : ∃ n,n = RL.length := ⟨_,rfl⟩
   have HST2 : Hid (RL.length = n /\ St w 4 RL (.slice la n lc) wr) := ⟨hn.symm,by rw [hn]; exact HST.out⟩
   have hn1 : n <= 1048576 := by omega
   rw [<- hn]
   clear HST hrl hn
   go_wp2
   go_loopw [5,11,12,13,14,15,78,82,88] (fun ok ii _ _ _ _ _ _ _ wq => ∃ (i : Nat) (RL : List Rec),i <= sl /\ ok = .bool true /\ ii = .int .i64 i /\ RL.length = n /\ St w (4 * (i + 1)) RL (.slice la n lc) wq) (fun _ ii _ _ _ _ _ _ _ _ => sl - (intOf ii).toNat)
   case atStart => exact ⟨0,RL,Nat.zero_le _,rfl,rfl,HST2.out.1,HST2.out.2⟩
   case round =>
    clear HST2 hbw
    obtain ⟨i,RL,hi,rfl,rfl,hrl,hst⟩ := hrel
    have HST : Hid (St w (4 * (i + 1)) RL (.slice la n lc) wr) := hst
    have hbw := hst.below
    clear hst
    have i0' : (0 : Int) <= (i : Int) := by omega
    by_cases hlt : i < sl
    ·have il : (i : Int) < (sl : Int) := by omega
     by_cases hn0 : 0 < n
     ·have nI : (0 : Int) < (n : Int) := by omega
      obtain ⟨sb,so,rfl,hcell⟩ : ∃ b off,sa = some ⟨b,off,none⟩ /\ ∀ i,i < sl -> (w.cell? ⟨b,off + i * 4,none⟩ = some (.int .i64 (Z i).1) /\ w.cell? ⟨b,off + i * 4 + 1,none⟩ = some (.int .i64 (Z i).2.1) /\ w.cell? ⟨b,off + i * 4 + 2,none⟩ = some (.int .i64 (Z i).2.2.1) /\ w.cell? ⟨b,off + i * 4 + 3,none⟩ = some (.int .i64 (Z i).2.2.2)) /\ -9223372036854775808 <= (Z i).1 /\ (Z i).1 <= 9223372036854775807 := by
       rcases HZ.out with h | h
       ·omega
       ·exact h
      obtain ⟨⟨q0,q1,q2,q3⟩,hlo,hhi⟩ := hcell i hlt
      have v0 := cell_later hbw q0
      have v1 := cell_later hbw q1
      have v2 := cell_later hbw q2
      have v3 := cell_later hbw q3
      clear hcell q0 q1 q2 q3
      generalize (Z i).1 = z0 at *
      generalize (Z i).2.1 = z1 at *
      generalize (Z i).2.2.1 = z2 at *
      generalize (Z i).2.2.2 = z3 at *
      obtain ⟨j,hj,hjn⟩ := pickL_in z0 hn0
      obtain ⟨s,hs⟩ : ∃ s,RL[j]? = some s := ⟨_,List.getElem?_eq_getElem (by omega)⟩
      have PK : Hid (∀ z : World,Calls Tryz.prog 12 #[.int .i64 z0,.int .i64 (n : Int)] z fun e w' => e = .returned (.int .i64 (j : Int)) /\ w' = z) := fun z => by
       have := xpick_any z0 (n : Int) z ⟨hlo,hhi⟩ (by omega) (by omega)
       rw [hj] at this
       exact this
      obtain ⟨gl,rfl,hcj⟩ : ∃ gl,la = some ⟨gl,0,none⟩ /\ ∀ m t,RL[m]? = some t -> wr.cell? ⟨gl,m,none⟩ = some (.pointer (some ⟨t.x,0,none⟩)) := by
       have hrow := HST.out.row
       rw [hrl] at hrow
       obtain ⟨g,c,e,_,_⟩ := hrow.form hn0
       cases e
       refine ⟨_,rfl,fun m t hm => ?_⟩
       have hml : m < RL.length := (List.getElem?_eq_some_iff.1 hm).1
       rw [hrow.cellAt m (by omega),List.getElem?_map,hm]; rfl
      have vj := hcj j s hs
      have j0 : (0 : Int) <= (j : Int) := by omega
      have jn : (j : Int) < (n : Int) := by omega
      clear hcj hj
      go_upto_region 15 with fail
      have b1 : Below wr.heap.size wr (wr.alloc (.cells #[.int .i64 z0,.int .i64 z1,.int .i64 z2,.int .i64 z3] 40)) := (Below.refl _ _).alloc (Nat.le_refl _) _
      have B1 : (wr.alloc (.cells #[.int .i64 z0,.int .i64 z1,.int .i64 z2,.int .i64 z3] 40)).heap[wr.heap.size]? = some (.cells #[.int .i64 z0,.int .i64 z1,.int .i64 z2,.int .i64 z3] 40) := heap_alloc_new _ _
      have H1 : Hid (St w (4 * (i + 1)) RL (.slice (some ⟨gl,0,none⟩) n lc) (wr.alloc (.cells #[.int .i64 z0,.int .i64 z1,.int .i64 z2,.int .i64 z3] 40))) := HST.out.later b1
      have uj := cell_later b1 vj
      clear HST hbw v0 v1 v2 v3 vj b1
      generalize hw1 : (wr.alloc (.cells #[.int .i64 z0,.int .i64 z1,.int .i64 z2,.int .i64 z3] 40)) = w1 at *
      have c0 : w1.cell? ⟨wr.heap.size,0,none⟩ = some (.int .i64 z0) := by simp [World.cell?,B1]
      have c1 : w1.cell? ⟨wr.heap.size,1,none⟩ = some (.int .i64 z1) := by simp [World.cell?,B1]
      have c2 : w1.cell? ⟨wr.heap.size,2,none⟩ = some (.int .i64 z2) := by simp [World.cell?,B1]
      have c3 : w1.cell? ⟨wr.heap.size,3,none⟩ = some (.int .i64 z3) := by simp [World.cell?,B1]
      clear B1 hw1
      generalize wr.heap.size = nb at *
      have sok := H1.out.flock.ok j s hs
      have SO : Hid (Rec.ok s w.heap.size (4 * (i + 1)) w1) := sok
      have LM : Hid (4 * (i + 1) + 4 <= 1073741824) := by show _ <= _; omega
      clear sok
      go_upto_region 16 with (first | (go_at_call 12; refine (PK.out _).mono ?_; rintro e w2 ⟨rfl,hw2⟩; rw [hw2]; clear hw2 w2))
      have WH : Hid (∀ (RL' : List Rec) (w5 : World),RL'.length = n -> St w (4 * (i + 1) + 4) RL' (.slice (some ⟨gl,0,none⟩) n lc) w5 -> ∀ m,m < n -> ∀ z,Below w5.heap.size w5 z -> ∃ t : Rec,z.cell? ⟨gl,m,none⟩ = some (.pointer (some ⟨t.x,0,none⟩)) /\ Calls Tryz.prog 14 #[.pointer (some ⟨t.x,0,none⟩)] z fun e w' => e = .returned (.bool true) /\ Below z.heap.size z w') := fun RL' w5 hl hS m hm z hz => by
       obtain ⟨t,ht⟩ : ∃ t,RL'[m]? = some t := ⟨_,List.getElem?_eq_getElem (by omega)⟩
       have S2 := hS.later hz
       have hrow := S2.row
       have tk := S2.flock.ok m t ht
       refine ⟨t,?_,whole_any tk.xm (Nat.le_trans tk.lim LM.out)⟩
       rw [hl] at hrow
       have hcm := hrow.cellAt m (by omega)
       rw [hcm,List.getElem?_map,ht]; rfl
      by_cases e1 : z1 = 1
      ·subst e1
       have TC : Hid (Calls Tryz.prog 13 #[.pointer (some ⟨s.x,0,none⟩)] w1 fun e w' => e = .returned (.bool true) /\ ToldP s.base s.W w1 s.x s.own s.a s.cap s.rs s.T s.F s.bM s.g s.cg s.bt s.ct s.lv s.LS w') := told_any SO.out.good SO.out.xm SO.out.Ww (Nat.le_trans SO.out.lim (by have := LM.out; omega))
       go_upto_region 23 with (first | (go_at_call 13; refine TC.out.mono ?_; rintro e w5 ⟨rfl,ht⟩; obtain ⟨RL',hl',hS'⟩ := H1.out.told hs ht; have HS5 : Hid (St w (4 * (i + 1) + 4) RL' (.slice (some ⟨gl,0,none⟩) n lc) w5) := hS'; clear ht hS'))
       have hl5 : RL'.length = n := by omega
       go_wp2
       go_loopw [5,14,15] (fun ok m _ wq => ∃ k : Nat,k <= n /\ ok = .bool true /\ m = .int .i64 k /\ Below w5.heap.size w5 wq) (fun _ m _ _ => n - (intOf m).toNat)
       case atStart => exact ⟨0,Nat.zero_le _,rfl,rfl,Below.refl _ _⟩
       case round =>
        obtain ⟨k,hk,rfl,rfl,hbq⟩ := hrel
        have k0 : (0 : Int) <= (k : Int) := by omega
        by_cases hlk : k < n
        ·have kn : (k : Int) < (n : Int) := by omega
         obtain ⟨t,htc,hwc⟩ := WH.out RL' w5 hl5 HS5.out k hlk wr hbq
         have HW : Hid (Calls Tryz.prog 14 #[.pointer (some ⟨t.x,0,none⟩)] wr fun e w' => e = .returned (.bool true) /\ Below wr.heap.size wr w') := hwc
         clear hwc
         go_wp2_with (go_at_call 14; refine HW.out.mono ?_; rintro e w7 ⟨rfl,hb7⟩)
         go_roundw
         case rel => exact ⟨k + 1,by omega,by simp,by go_num,below_then hbq hb7⟩
         case measure => simp [intOf]; omega
        ·have kn : ¬ (k : Int) < (n : Int) := by omega
         go_wp2
         go_roundw
         case rel => exact ⟨i + 1,RL',by omega,by simp,by go_num,hl5,HS5.out.later hbq⟩
         case measure => simp [intOf]; omega
      by_cases e2 : z1 = 2
      ·subst e2
       have BX : Hid (Calls Tryz.prog 9 #[.pointer (some ⟨s.x,0,none⟩),.int .i64 z2] w1 fun e w' => e = .returned (.bool true) /\ Below w1.heap.size w1 w') := xbeside_any SO.out.good SO.out.xm SO.out.Ww z2
       go_upto_region 23 with (first | (go_at_call 9; refine BX.out.mono ?_; rintro e w5 ⟨rfl,hb5⟩))
       have HS5 : Hid (St w (4 * (i + 1) + 4) RL (.slice (some ⟨gl,0,none⟩) n lc) w5) := (H1.out.later hb5).more (by omega)
       have hl5 : RL.length = n := hrl
       go_wp2
       go_loopw [5,14,15] (fun ok m _ wq => ∃ k : Nat,k <= n /\ ok = .bool true /\ m = .int .i64 k /\ Below w5.heap.size w5 wq) (fun _ m _ _ => n - (intOf m).toNat)
       case atStart => exact ⟨0,Nat.zero_le _,rfl,rfl,Below.refl _ _⟩
       case round =>
        obtain ⟨k,hk,rfl,rfl,hbq⟩ := hrel
        have k0 : (0 : Int) <= (k : Int) := by omega
        by_cases hlk : k < n
        ·have kn : (k : Int) < (n : Int) := by omega
         obtain ⟨t,htc,hwc⟩ := WH.out RL w5 hl5 HS5.out k hlk wr hbq
         have HW : Hid (Calls Tryz.prog 14 #[.pointer (some ⟨t.x,0,none⟩)] wr fun e w' => e = .returned (.bool true) /\ Below wr.heap.size wr w') := hwc
         clear hwc
         go_wp2_with (go_at_call 14; refine HW.out.mono ?_; rintro e w7 ⟨rfl,hb7⟩)
         go_roundw
         case rel => exact ⟨k + 1,by omega,by simp,by go_num,below_then hbq hb7⟩
         case measure => simp [intOf]; omega
        ·have kn : ¬ (k : Int) < (n : Int) := by omega
         go_wp2
         go_roundw
         case rel => exact ⟨i + 1,RL,by omega,by simp,by go_num,hl5,HS5.out.later hbq⟩
         case measure => simp [intOf]; omega
      by_cases e3 : z1 = 3
      ·subst e3
       have LX : Hid (Calls Tryz.prog 10 #[.pointer (some ⟨s.x,0,none⟩),.agg #[.int .i64 z2,.int .i64 z3]] w1 fun e w' => e = .returned (.bool true) /\ Below w1.heap.size w1 w') := xlocate_any SO.out.good SO.out.xm z2 z3
       go_upto_region 23 with (first | (go_at_call 10; refine LX.out.mono ?_; rintro e w5 ⟨rfl,hb5⟩))
       have HS5 : Hid (St w (4 * (i + 1) + 4) RL (.slice (some ⟨gl,0,none⟩) n lc) w5) := (H1.out.later hb5).more (by omega)
       have hl5 : RL.length = n := hrl
       go_wp2
       go_loopw [5,14,15] (fun ok m _ wq => ∃ k : Nat,k <= n /\ ok = .bool true /\ m = .int .i64 k /\ Below w5.heap.size w5 wq) (fun _ m _ _ => n - (intOf m).toNat)
       case atStart => exact ⟨0,Nat.zero_le _,rfl,rfl,Below.refl _ _⟩
       case round =>
        obtain ⟨k,hk,rfl,rfl,hbq⟩ := hrel
        have k0 : (0 : Int) <= (k : Int) := by omega
        by_cases hlk : k < n
        ·have kn : (k : Int) < (n : Int) := by omega
         obtain ⟨t,htc,hwc⟩ := WH.out RL w5 hl5 HS5.out k hlk wr hbq
         have HW : Hid (Calls Tryz.prog 14 #[.pointer (some ⟨t.x,0,none⟩)] wr fun e w' => e = .returned (.bool true) /\ Below wr.heap.size wr w') := hwc
         clear hwc
         go_wp2_with (go_at_call 14; refine HW.out.mono ?_; rintro e w7 ⟨rfl,hb7⟩)
         go_roundw
         case rel => exact ⟨k + 1,by omega,by simp,by go_num,below_then hbq hb7⟩
         case measure => simp [intOf]; omega
        ·have kn : ¬ (k : Int) < (n : Int) := by omega
         go_wp2
         go_roundw
         case rel => exact ⟨i + 1,RL,by omega,by simp,by go_num,hl5,HS5.out.later hbq⟩
         case measure => simp [intOf]; omega
      ·have g1 : (z1 == 1) = false := by simp [e1]
       have g2 : (z1 == 2) = false := by simp [e2]
       have g3 : (z1 == 3) = false := by simp [e3]
       go_upto_region 23 with fail
       clear e1 e2 e3 g1 g2 g3
       have HS5 : Hid (St w (4 * (i + 1) + 4) RL (.slice (some ⟨gl,0,none⟩) n lc) w1) := H1.out.more (by omega)
       have hl5 : RL.length = n := hrl
       go_wp2
       go_loopw [5,14,15] (fun ok m _ wq => ∃ k : Nat,k <= n /\ ok = .bool true /\ m = .int .i64 k /\ Below w1.heap.size w1 wq) (fun _ m _ _ => n - (intOf m).toNat)
       case atStart => exact ⟨0,Nat.zero_le _,rfl,rfl,Below.refl _ _⟩
       case round =>
        obtain ⟨k,hk,rfl,rfl,hbq⟩ := hrel
        have k0 : (0 : Int) <= (k : Int) := by omega
        by_cases hlk : k < n
        ·have kn : (k : Int) < (n : Int) := by omega
         obtain ⟨t,htc,hwc⟩ := WH.out RL w1 hl5 HS5.out k hlk wr hbq
         have HW : Hid (Calls Tryz.prog 14 #[.pointer (some ⟨t.x,0,none⟩)] wr fun e w' => e = .returned (.bool true) /\ Below wr.heap.size wr w') := hwc
         clear hwc
         go_wp2_with (go_at_call 14; refine HW.out.mono ?_; rintro e w7 ⟨rfl,hb7⟩)
         go_roundw
         case rel => exact ⟨k + 1,by omega,by simp,by go_num,below_then hbq hb7⟩
         case measure => simp [intOf]; omega
        ·have kn : ¬ (k : Int) < (n : Int) := by omega
         go_wp2
         go_roundw
         case rel => exact ⟨i + 1,RL,by omega,by simp,by go_num,hl5,HS5.out.later hbq⟩
         case measure => simp [intOf]; omega
     ·have nI : ¬ (0 : Int) < (n : Int) := by omega
      go_wp2
      go_ret
      exact ⟨by simp,hbw⟩
    ·have il : ¬ (i : Int) < (sl : Int) := by omega
     go_wp2
     go_ret
     exact ⟨by simp,hbw⟩
end Go.Proofs.YtdkaoopkbhaheaaGreat
namespace Go.Proofs.YtdkaoopkbhaheaaGreat.ringsRef
open Go.ChangeShapes Go.WideShapes Go.ChangeAt Go.RowKit Go.Deep
open Jor
theorem underPo : Tryz.prog.underlying 36 = some (.slice 22) := by kernel_rfl
theorem cellsRR : Tryz.prog.cellsOf 22 = 1 := by kernel_rfl
theorem cellsS : Tryz.prog.cellsOf 40 = 4 := by kernel_rfl
theorem underSt : Tryz.prog.underlying 37 = some (.slice 40) := by kernel_rfl
theorem bulk_in {H : Type} {x : DataW H} : ∀ {l : List (DataW H)},x ∈ l -> Rows.uptoBulk x <= Rows.uptoBulkAll l := by
 intro l
 induction l with
 | nil => intro h; cases h
 | cons y r ih =>
  intro h
  simp only [Rows.uptoBulkAll]
  rcases List.mem_cons.1 h with rfl | h
  ·omega
  ·have := ih h; omega
set_option maxRecDepth 100000 in
theorem rings_at {H : Type} {enc : TypeId × Value -> H} {W : World} {sp : Nat -> Bool} {fuel : Nat} {V : Value} {d : DataW H} {p : List MemPlace}
  (hf : DataW.trod enc Tryz.prog W 0 sp true fuel 22 [V] = some (d,p)) :
  ∃ q : Option Addr × Nat × (Nat -> Option Addr) × (Nat -> Nat) × List (List IP),V = .slice q.1 q.2.2.2.2.length q.2.1 /\ RingsL W q.1 q.2.2.1 q.2.2.2.1 q.2.2.2.2 /\ q.2.2.2.2.length <= Rows.uptoBulk d /\ (verts q.2.2.2.2).length <= Rows.uptoBulk d := by
 rcases open_slice1 underR cellsR hf with ⟨e,_⟩ | ⟨a,l0,c0,m,n,V,D,Pl,e,_,hl,_,hm,ex,hc⟩
 ·cases e
  exact ⟨(none,0,fun _ => none,fun _ => 0,[]),rfl,.inl rfl,Nat.zero_le _,Nat.zero_le _⟩
 ·cases e
  have hlm : l0 <= m := by rw [hm]; split <;> omega
  obtain ⟨q,hq⟩ := choose_lt (n := l0) fun k hk => ring_open (hc k (by omega)).2
  have hsum := bulk_sum D (fun k => (q k).2.2) l0 (fun k hk => (hq k hk).2.2) (List.range l0) (fun k hk => List.mem_range.1 hk)
  have hd : Rows.uptoBulkAll ((List.range l0).map D) <= Rows.uptoBulk d := by
   simp only [Prod.mk.injEq] at ex
   rw [ex.1]
   simp only [Rows.uptoBulk]
   omega
  rw [List.length_range] at hsum
  refine ⟨(some a,c0,fun k => (q k).1,fun k => (q k).2.1,(List.range l0).map fun k => (q k).2.2),by simp,?_,?_,?_⟩
  ·unfold RingsL
   rw [List.length_map,List.length_range]
   by_cases h0 : l0 = 0
   ·exact .inl h0
   ·have hz := (hc 0 (by omega)).1
    have ea : a = ⟨a.block,a.off,none⟩ := spotless (a := a) (v := V 0) (by simpa [Addr.add] using hz)
    refine .inr ⟨a.block,a.off,by rw [<- ea],fun k hk => ?_⟩
    have g := hq k hk
    have c := (hc k (by omega)).1
    have er := rg_map (fun k => (q k).2.2) l0 k hk
    dsimp only
    rw [er]
    rw [ea,addr_add,g.1] at c
    exact ⟨c,g.2.1⟩
  ·rw [List.length_map,List.length_range]; omega
  ·show ((List.range l0).map fun k => (q k).2.2).flatten.length <= _
   omega
set_option maxRecDepth 100000 in
theorem polys_open {H : Type} {enc : TypeId × Value -> H} {W : World} {r : Reach} {b0 : Nat} {v : Value} {d : DataW H} {p : List MemPlace} {sp : Nat -> Bool}
  (hv : Value.okWide Tryz.prog W r b0 36 v) (h : DataW.Trod enc Tryz.prog W 0 sp true 36 v d p) :
  ∃ (a : Option Addr) (cap : Nat) (PA : Nat -> Option Addr) (PC : Nat -> Nat) (A : Nat -> Nat -> Option Addr) (C : Nat -> Nat -> Nat) (ps : List (List (List IP))),v = .slice a ps.length cap /\ Polys W a PA PC A C ps /\ ps.length <= Rows.uptoBulk d /\ ∀ k,k < ps.length -> (pg ps k).length <= Rows.uptoBulk d /\ (verts (pg ps k)).length <= Rows.uptoBulk d := by
 obtain ⟨a0,l0,c0,rfl⟩ := okWide_slice underPo hv
 obtain ⟨fuel,hf⟩ := h
 rcases open_slice1 underPo cellsRR hf with ⟨e,_⟩ | ⟨a,len,cap,m,n,V,D,Pl,e,_,hl,_,hm,ex,hc⟩
 ·simp [Value.cells] at e
  obtain ⟨rfl,rfl,rfl⟩ := e
  exact ⟨none,0,fun _ => none,fun _ => 0,fun _ _ => none,fun _ _ => 0,[],rfl,.inl rfl,Nat.zero_le _,fun k hk => by simp at hk⟩
 ·simp [Value.cells] at e
  obtain ⟨rfl,rfl,rfl⟩ := e
  have hlm : l0 <= m := by rw [hm]; split <;> omega
  obtain ⟨q,hq⟩ := choose_lt (n := l0) fun k hk => rings_at (hc k (by omega)).2
  have hd : Rows.uptoBulkAll ((List.range l0).map D) <= Rows.uptoBulk d := by
   simp only [Prod.mk.injEq] at ex
   rw [ex.1]
   simp only [Rows.uptoBulk]
   omega
  have each : ∀ k,k < l0 -> Rows.uptoBulk (D k) <= Rows.uptoBulk d := fun k hk => Nat.le_trans (bulk_in (List.mem_map.2 ⟨k,List.mem_range.2 hk,rfl⟩)) hd
  have er : ∀ k,k < l0 -> pg ((List.range l0).map fun k => (q k).2.2.2.2) k = (q k).2.2.2.2 := fun k hk => by
   unfold pg
   rw [getD_elem _ _ _ (by simpa using hk)]
   simp
  refine ⟨some a,c0,fun k => (q k).1,fun k => (q k).2.1,fun k => (q k).2.2.1,fun k => (q k).2.2.2.1,(List.range l0).map fun k => (q k).2.2.2.2,by simp,?_,?_,fun k hk => ?_⟩
  ·unfold Polys
   rw [List.length_map,List.length_range]
   by_cases h0 : l0 = 0
   ·exact .inl h0
   ·have hz := (hc 0 (by omega)).1
    have ea : a = ⟨a.block,a.off,none⟩ := spotless (a := a) (v := V 0) (by simpa [Addr.add] using hz)
    refine .inr ⟨a.block,a.off,by rw [<- ea],fun k hk => ?_⟩
    have g := hq k hk
    have c := (hc k (by omega)).1
    rw [er k hk]
    rw [ea,addr_add,g.1] at c
    exact ⟨c,g.2.1⟩
  ·rw [List.length_map,List.length_range]
   have := bulk_length ((List.range l0).map D)
   simp only [List.length_map,List.length_range] at this
   omega
  ·rw [List.length_map,List.length_range] at hk
   rw [er k hk]
   have := each k hk
   have g := hq k hk
   exact ⟨Nat.le_trans g.2.2.1 this,Nat.le_trans g.2.2.2 this⟩
set_option maxRecDepth 100000 in
theorem script_open {H : Type} {enc : TypeId × Value -> H} {W : World} {r : Reach} {b0 : Nat} {v : Value} {d : DataW H} {p : List MemPlace} {sp : Nat -> Bool}
  (hv : Value.okWide Tryz.prog W r b0 37 v) (h : DataW.Trod enc Tryz.prog W 0 sp true 37 v d p) :
  ∃ (a : Option Addr) (n c : Nat) (Z : Nat -> Int × Int × Int × Int),v = .slice a n c /\ Script W a n Z /\ n <= Rows.uptoBulk d := by
 obtain ⟨a0,l0,c0,rfl⟩ := okWide_slice underSt hv
 obtain ⟨fuel,hf⟩ := h
 rcases open_slice underSt hf with ⟨e,_⟩ | ⟨a,len,cap,m,n,D,Pl,e,_,hl,_,hm,ex,hc⟩
 ·simp [Value.cells] at e
  obtain ⟨rfl,rfl,rfl⟩ := e
  exact ⟨none,0,0,fun _ => (0,0,0,0),rfl,.inl rfl,Nat.zero_le _⟩
 ·simp [Value.cells] at e
  obtain ⟨rfl,rfl,rfl⟩ := e
  have hlm : l0 <= m := by rw [hm]; split <;> omega
  have each : ∀ i,i < l0 -> ∃ z : Int × Int × Int × Int,(W.cell? (a.add (i * 4)) = some (.int .i64 z.1) /\ W.cell? (a.add (i * 4 + 1)) = some (.int .i64 z.2.1) /\ W.cell? (a.add (i * 4 + 2)) = some (.int .i64 z.2.2.1) /\ W.cell? (a.add (i * 4 + 3)) = some (.int .i64 z.2.2.2)) /\ -9223372036854775808 <= z.1 /\ z.1 <= 9223372036854775807 := by
   intro i hi
   obtain ⟨cs',h1,h2⟩ := hc i (by omega)
   rw [cellsS] at h1
   obtain ⟨_,hlen,hcell⟩ := World.cells?_some h1
   obtain ⟨xs,k,hk,hxy,_,hxl,hf⟩ := DataW.trod_struct Tryz.underlying40 h2
   match xs,hxl,cs',hlen with
   | [y0,y1,y2,y3],_,[v0,v1,v2,v3],_ =>
    have g0 := hf 0 _ rfl
    have g1 := hf 1 _ rfl
    have g2 := hf 2 _ rfl
    have g3 := hf 3 _ rfl
    simp [cellsI] at g0 g1 g2 g3
    obtain ⟨x0,e0,w0⟩ := DataW.trod_int Tryz.underlying3 g0
    obtain ⟨x1,e1,_⟩ := DataW.trod_int Tryz.underlying3 g1
    obtain ⟨x2,e2,_⟩ := DataW.trod_int Tryz.underlying3 g2
    obtain ⟨x3,e3,_⟩ := DataW.trod_int Tryz.underlying3 g3
    have c0 := hcell 0 (by omega)
    have c1 := hcell 1 (by omega)
    have c2 := hcell 2 (by omega)
    have c3 := hcell 3 (by omega)
    rw [add_add] at c0 c1 c2 c3
    cases e0; cases e1; cases e2; cases e3
    have wb := bounds_i64 w0.2
    exact ⟨(x0,x1,x2,x3),⟨c0,c1,c2,c3⟩,wb.1,wb.2⟩
  obtain ⟨z,hz⟩ := choose_lt each
  refine ⟨some a,l0,c0,z,rfl,?_,?_⟩
  ·by_cases h0 : l0 = 0
   ·exact .inl h0
   ·have hz0 := (hz 0 (by omega)).1.1
    have ea : a = ⟨a.block,a.off,none⟩ := spotless (a := a) (by simpa [Addr.add] using hz0)
    refine .inr ⟨a.block,a.off,by rw [<- ea],fun i hi => ?_⟩
    obtain ⟨⟨q0,q1,q2,q3⟩,q4⟩ := hz i hi
    rw [ea,addr_add] at q0 q1 q2 q3
    exact ⟨⟨q0,by rw [Nat.add_assoc]; exact q1,by rw [Nat.add_assoc]; exact q2,by rw [Nat.add_assoc]; exact q3⟩,q4⟩
  ·simp only [Prod.mk.injEq] at ex
   rw [ex.1]
   simp only [Rows.uptoBulk]
   have := bulk_length ((List.range l0).map D)
   simp only [List.length_map,List.length_range] at this
   omega
end Go.Proofs.YtdkaoopkbhaheaaGreat.ringsRef
