/- Laid@012, Trright@012, Topen@012 -/
import Derived.ChangeArms
import Derived.ChangeSame
import Derived.Deep.Slices
import Derived.Deep.Strs
import Derived.OneCell
import Derived.Test.YtfmldnbcjbflbaaGreatDoorQRefName012
import Derived.Test.YtfmldnbcjbflbaaGreatDoorQ3
import Derived.Test.YtfmldnbcjbflbaaGreatDoorQ4
set_option linter.unusedSimpArgs false
set_option linter.unusedVariables false
namespace Go.Proofs.YtfmldnbcjbflbaaGreatDoor
open Lib(hid)
open Go.RowKit Go.Deep
def Laid {α:Type} (z:Nat) (L:α→List Value→Prop) (acc:List α) (xs:List Value):Prop:=
 xs.length=acc.length * z∧∀ i x,acc[i]?=some x→∃ cs,cs.length=z∧L x cs∧∀ j c,cs[j]?=some c→xs[i * z+j]?=some c
theorem Laid.nil {α:Type} {z:Nat} {L:α→List Value→Prop}:Laid z L [] []:=⟨by simp,fun i x h=>by simp at h⟩
theorem Laid.app {α:Type} {z:Nat} {L:α→List Value→Prop} {l m:List α} {xs ys:List Value} (h:Laid z L l xs) (k:Laid z L m ys):Laid z L (l++m) (xs++ys):=by
 refine⟨by rw[List.length_append,List.length_append,h.1,k.1,Nat.add_mul],fun i x hx=>?_⟩
 rcases Nat.lt_or_ge i l.length with hi | hi
 ·rw[List.getElem?_append_left hi] at hx
  obtain⟨cs,c1,c2,c3⟩:=h.2 i x hx
  refine⟨cs,c1,c2,fun j c hj=>?_⟩
  have:=c3 j c hj
  rw[List.getElem?_append_left (List.getElem?_eq_some_iff.1 this).1]
  exact this
 ·rw[List.getElem?_append_right hi] at hx
  obtain⟨cs,c1,c2,c3⟩:=k.2 _ x hx
  refine⟨cs,c1,c2,fun j c hj=>?_⟩
  have:=c3 j c hj
  have e:i * z+j - xs.length=(i - l.length) * z+j:=by
   rw[h.1,Nat.sub_mul]
   have:l.length * z≤i * z:=Nat.mul_le_mul_right _ hi
   omega
  rw[List.getElem?_append_right (by rw[h.1];have:l.length * z≤i * z:=Nat.mul_le_mul_right _ hi;omega),e]
  exact this
theorem Laid.one {α:Type} {z:Nat} {L:α→List Value→Prop} {x:α} {cs:List Value} (hz:cs.length=z) (h:L x cs):Laid z L [x] cs:=by
 refine⟨by simp[hz],fun i y hy=>?_⟩
 cases i with
 | zero=>
  obtain rfl:x=y:=by simpa using hy
  exact⟨cs,hz,h,fun j c hj=>by rw[Nat.zero_mul,Nat.zero_add];exact hj⟩
 | succ i=>simp at hy
theorem Laid.snoc {α:Type} {z:Nat} {L:α→List Value→Prop} {acc:List α} {xs:List Value} {x:α} {cs:List Value} (h:Laid z L acc xs) (hz:cs.length=z) (hx:L x cs):Laid z L (acc++[x]) (xs++cs):=h.app (.one hz hx)
theorem Laid.mono {α:Type} {z:Nat} {L L':α→List Value→Prop} {acc:List α} {xs:List Value} (h:Laid z L acc xs) (hL:∀ x cs,L x cs→L' x cs):Laid z L' acc xs:=
 ⟨h.1,fun i x hx=>let ⟨cs,a,b,c⟩:=h.2 i x hx;⟨cs,a,hL x cs b,c⟩⟩
def putAt (xs:List Value) (k:Nat) (cs:List Value):List Value:=xs.take k++cs++xs.drop (k+cs.length)
theorem putAt_len {xs cs:List Value} {k:Nat} (h:k+cs.length≤xs.length):(putAt xs k cs).length=xs.length:=by
 unfold putAt
 simp only[List.length_append,List.length_take,List.length_drop]
 omega
theorem putAt_get {xs cs:List Value} {k:Nat} (h:k+cs.length≤xs.length) (i:Nat):(putAt xs k cs)[i]?=if k≤i∧i < k+cs.length then cs[i - k]? else xs[i]?:=by
 unfold putAt
 by_cases h1:i < k
 ·rw[if_neg (by omega),List.getElem?_append_left (by simp;omega),List.getElem?_append_left (by simp;omega),List.getElem?_take,if_pos h1]
 ·by_cases h2:i < k+cs.length
  ·rw[if_pos ⟨by omega,h2⟩,List.getElem?_append_left (by simp;omega),List.getElem?_append_right (by simp;omega)]
   congr 1
   rw[List.length_take]
   omega
  ·rw[if_neg (by omega),List.getElem?_append_right (by simp;omega),List.getElem?_drop]
   congr 1
   simp only[List.length_append,List.length_take]
   omega
theorem Laid.set {α:Type} {z:Nat} {L:α→List Value→Prop} {acc:List α} {xs:List Value} (h:Laid z L acc xs) {i:Nat} (hi:i < acc.length) {x:α} {cs:List Value} (hz:cs.length=z) (hx:L x cs):Laid z L (acc.set i x) (putAt xs (i * z) cs):=by
 obtain⟨h1,h2⟩:=h
 have hle:i * z+cs.length≤xs.length:=by
  rw[h1,hz]
  calc i * z+z=(i+1) * z:=by rw[Nat.add_mul,Nat.one_mul]
   _≤acc.length * z:=Nat.mul_le_mul_right _ hi
 refine⟨by rw[putAt_len hle,List.length_set,h1],fun k y hy=>?_⟩
 by_cases hk:k=i
 ·subst hk
  rw[List.getElem?_set_self hi] at hy
  cases hy
  refine⟨cs,hz,hx,fun j c hj=>?_⟩
  have hjz:j < cs.length:=(List.getElem?_eq_some_iff.1 hj).1
  rw[putAt_get hle,if_pos (by omega),Nat.add_sub_cancel_left]
  exact hj
 ·rw[List.getElem?_set_ne (Ne.symm hk)] at hy
  obtain⟨ds,d1,d2,d3⟩:=h2 k y hy
  refine⟨ds,d1,d2,fun j c hj=>?_⟩
  have hjz:j < z:=by rw[← d1];exact (List.getElem?_eq_some_iff.1 hj).1
  rw[putAt_get hle,if_neg ?_]
  ·exact d3 j c hj
  ·rw[hz]
   rcases Nat.lt_or_ge k i with h | h
   ·have:(k+1) * z≤i * z:=Nat.mul_le_mul_right _ h
    rw[Nat.add_mul,Nat.one_mul] at this
    omega
   ·have:(i+1) * z≤k * z:=Nat.mul_le_mul_right _ (by omega)
    rw[Nat.add_mul,Nat.one_mul] at this
    omega
theorem sl_laid {α:Type} {w:World} {B z:Nat} {R:α→List Value→Prop} {l:List α} {v:Value} (h:SlOf w B z R l v) (h1:∀ x cs,R x cs→∀ u ∈ cs,u.oneCell'=true):∃ xs,Laid z R l xs∧Spread w z v l.length xs:=by
 rcases h with ⟨rfl,rfl⟩ | ⟨a,cap,rfl,_,_,_,h5⟩
 ·exact⟨[],Laid.nil,.inl ⟨rfl,rfl,rfl⟩⟩
 ·have key:∀ k,k≤l.length→∃ xs,Laid z R (l.take k) xs∧(∀ j u,xs[j]?=some u→w.cell? (a.add j)=some u)∧∀ u ∈ xs,u.oneCell'=true:=by
   intro k
   induction k with
   | zero=>intro _;exact⟨[],by simpa using Laid.nil,fun j u hu=>by simp at hu,fun u hu=>by simp at hu⟩
   | succ k ih=>
    intro hk
    obtain⟨xs,e1,e2,e3⟩:=ih (by omega)
    have hx:l[k]?=some l[k]:=List.getElem?_eq_getElem (by omega)
    obtain⟨cs,c1,c2,c3⟩:=h5 k _ hx
    have hl:xs.length=k * z:=by rw[e1.1,List.length_take,Nat.min_eq_left (by omega)]
    refine⟨xs++cs,?_,fun j u hu=>?_,fun u hu=>?_⟩
    ·rw[List.take_add_one,hx]
     exact e1.snoc c1 c2
    ·rcases Nat.lt_or_ge j xs.length with hj | hj
     ·rw[List.getElem?_append_left hj] at hu
      exact e2 j u hu
     ·rw[List.getElem?_append_right hj] at hu
      have:=c3 _ u hu
      rw[← hl,Nat.add_sub_cancel' hj] at this
      exact this
    ·rcases List.mem_append.1 hu with hu | hu
     ·exact e3 u hu
     ·exact h1 _ _ c2 u hu
  obtain⟨xs,e1,e2,e3⟩:=key l.length (Nat.le_refl _)
  rw[List.take_length] at e1
  exact⟨xs,e1,.inr ⟨a,cap,rfl,e1.1,e2,e3⟩⟩
theorem sl_own0 {α:Type} {w:World} {base:Nat} {e:TypeId} {z:Nat} {v:Value} {xs:List Value} {acc:List α} {P:α→List Value→Prop} (h:w.ownsRow base e z v acc.length xs) (hl:Laid z P acc xs):SlOf w w.heap.size z P acc v:=by
 rcases h.2 with ⟨rfl,h0⟩ | ⟨g,cap,cur,hv,hb,hg,hn,hc,hcur,ht⟩
 ·exact .inl ⟨rfl,List.eq_nil_of_length_eq_zero h0⟩
 ·refine .inr ⟨⟨g,0,none⟩,cap,hv,hn,hc,fun _=>(Array.getElem?_eq_some_iff.1 hg).1,fun i x hx=>?_⟩
  obtain⟨cs,hz,hP,hcs⟩:=hl.2 i x hx
  exact⟨cs,hz,hP,fun j c hj=>h.cells (g:=g) (by rw[hv];rfl) (i * z+j) c (hcs j c hj)⟩
theorem SlOf.take {α:Type} {w:World} {B z:Nat} {R:α→List Value→Prop} {l:List α} {a:Addr} {cap:Nat} (h:SlOf w B z R l (.slice (some a) l.length cap)) {i:Nat} (hi:i≤l.length):SlOf w B z R (l.take i) (.slice (some a) i cap):=by
 rcases h with ⟨h,_⟩ | ⟨a',cap',e,h1,h2,h3,h4⟩
 ·cases h
 ·cases e
  refine .inr ⟨a,cap,by rw[List.length_take,Nat.min_eq_left hi],by rw[List.length_take];omega,h2,fun hn=>h3 (by rintro rfl;simp at hn),fun k x hx=>?_⟩
  rw[List.getElem?_take] at hx
  split at hx
  ·exact h4 k x hx
  ·cases hx
theorem SlOf.drop {α:Type} {w:World} {B z:Nat} {R:α→List Value→Prop} {l:List α} {a:Addr} {cap:Nat} (h:SlOf w B z R l (.slice (some a) l.length cap)) {i:Nat} (hi:i≤l.length):SlOf w B z R (l.drop i) (.slice (if cap=i then some a else some (a.add (i * z))) (l.length - i) (cap - i)):=by
 rcases h with ⟨h,_⟩ | ⟨a',cap',e,h1,h2,h3,h4⟩
 ·cases h
 ·cases e
  by_cases hc:cap=i
  ·rw[if_pos hc]
   have hd:l.drop i=[]:=List.drop_of_length_le (by omega)
   rw[hd]
   exact .inr ⟨a,cap - i,by simp;omega,by simp,by omega,fun h=>absurd rfl h,fun k x hx=>by simp at hx⟩
  ·rw[if_neg hc]
   refine .inr ⟨a.add (i * z),cap - i,by simp,by simp;omega,by omega,fun hn=>by rw[addBlock];exact h3 (by rintro rfl;simp at hn),fun k x hx=>?_⟩
   rw[List.getElem?_drop] at hx
   obtain⟨cs,c1,c2,c3⟩:=h4 _ x hx
   refine⟨cs,c1,c2,fun j c hj=>?_⟩
   rw[add_add,← Nat.add_assoc,← Nat.add_mul]
   exact c3 j c hj
theorem SlOf.one {α:Type} {w:World} {B z:Nat} {R:α→List Value→Prop} {l:List α} {a:Addr} {cap:Nat} (h:SlOf w B z R l (.slice (some a) l.length cap)) {i:Nat} {x:α} (hi:l[i]?=some x) {c:Nat} (hc:1≤c) (hm:c≤maxLen):SlOf w B z R [x] (.slice (some (a.add (i * z))) 1 c):=by
 rcases h with ⟨h,_⟩ | ⟨a',cap',e,h1,h2,h3,h4⟩
 ·cases h
 ·cases e
  have hl:=(List.getElem?_eq_some_iff.1 hi).1
  refine .inr ⟨a.add (i * z),c,rfl,hc,hm,fun _=>by rw[addBlock];exact h3 (by rintro rfl;simp at hl),fun k y hy=>?_⟩
  match k,hy with
  | 0,hy=>
   obtain rfl:x=y:=by simpa using hy
   obtain⟨cs,c1,c2,c3⟩:=h4 i x hi
   refine⟨cs,c1,c2,fun j c hj=>?_⟩
   rw[Nat.zero_mul,Nat.zero_add,add_add]
   exact c3 j c hj
  | k+1,hy=>simp at hy
end Go.Proofs.YtfmldnbcjbflbaaGreatDoor
namespace Go.Proofs.YtfmldnbcjbflbaaGreatDoor
open Lib(hid)
open Go.RowKit
theorem boxq {W W1:World} {B:Nat} (n:Nat) (hb:Below B W W1) (hn:n < B):(∀ o,W1.cell? ⟨n,o,none⟩=W.cell? ⟨n,o,none⟩)∧(∀ o,W1.frozen? ⟨n,o,none⟩=W.frozen? ⟨n,o,none⟩):=
 ⟨fun o=>hb.cell (p:=⟨n,o,none⟩) hn,fun o=>hb.frozen (p:=⟨n,o,none⟩) hn⟩
theorem rtwo_c (op:Int) (w:World):Calls Tryz.prog 74 #[.int .i64 op] w fun e w'=>e=.returned (.bool (twoB op))∧w=w':=by
 have Hz:Hid (twoB op=((op == 5) || (op == 6) || (op == 7))):=hid rfl
 obtain⟨b1,hb1⟩:∃ b,(op == 5)=b:=⟨_,rfl⟩
 obtain⟨b2,hb2⟩:∃ b,(op == 6)=b:=⟨_,rfl⟩
 obtain⟨b3,hb3⟩:∃ b,(op == 7)=b:=⟨_,rfl⟩
 rw[hb1,hb2,hb3] at Hz
 cases b1 <;> cases b2 <;> cases b3
 all_goals
  go_enter Tryz.func74,Tryz.ntmps74
  go_wp2
  go_ret
  exact⟨by rw[Hz.out];rfl,rfl⟩
set_option maxRecDepth 100000 in
set_option maxHeartbeats 4000000 in
theorem rleaf_c (t:Tm) (w:World) (cs:List Value) (hc:TmC w w.heap.size t cs) :
  Calls Tryz.prog 138 #[.agg cs.toArray] w fun e w'=>e=.returned (.bool (leafB t))∧Below w.heap.size w w':=by
 obtain⟨op,s,n,l⟩:=t
 obtain⟨p1,q1,rfl,_,hz,_,t1⟩:=hc.look
 simp only[Tm.op_mk,Tm.s_mk,Tm.n_mk,Tm.l_mk] at hz t1 ⊢
 clear hc t1
 obtain⟨bn,hbn⟩:∃ b,(n == 0)=b:=⟨_,rfl⟩
 obtain⟨bl,hbl⟩:∃ b,((l.length:Int) == 0)=b:=⟨_,rfl⟩
 have hle:=empty_int l
 rw[hbl] at hle
 have A0:Hid (Below w.heap.size w (w.alloc (.cells #[.int .i64 op,.string s,.int .i64 n,.slice p1 l.length q1] 51))):=hid ((Below.refl _ _).alloc (Nat.le_refl _) _)
 have HN:=hid (fun w=>refName_any s w hz)
 have HL:Hid (leafB (.mk op s n l)=if op=1 then nameB s.data.toList && bn && bl else if op=2 then s.toList.isEmpty && bl else if op=3 then bn && bl else if op=4 then s.toList.isEmpty && bn && bl else false):=hid (by rw[← hle,← hbn];rfl)
 clear hle
 by_cases o1:op=1
 ·subst o1
  have Hz:Hid (leafB (.mk 1 s n l)=(nameB s.data.toList && bn && bl)):=hid (by rw[HL.out];rfl)
  go_enter Tryz.func138,Tryz.ntmps138
  go_wp2_with fail
  refine (HN.out _).mono ?_
  rintro e w1 ⟨rfl,rfl⟩
  have B1:=A0.out
  obtain⟨bm,hbm⟩:∃ b,nameB s.data.toList=b:=⟨_,rfl⟩
  rw[hbm] at Hz ⊢
  cases bm <;> cases bn <;> cases bl
  all_goals
   go_wp2
   go_ret
   exact⟨by rw[Hz.out];rfl,B1⟩
 have e1:(op == 1)=false:=by simpa using o1
 by_cases o2:op=2
 ·subst o2
  have Hz:Hid (leafB (.mk 2 s n l)=(s.toList.isEmpty && bl)):=hid (by rw[HL.out];rfl)
  go_enter Tryz.func138,Tryz.ntmps138
  go_wp2_with fail
  refine (HN.out _).mono ?_
  rintro e w1 ⟨rfl,rfl⟩
  have B1:=A0.out
  by_cases h0:s.toList=[]
  ·have Hz1:Hid (leafB (.mk 2 s n l)=bl):=hid (by rw[Hz.out,h0];rfl)
   cases bl
   all_goals
    go_wp2
    go_ret
    exact⟨by rw[Hz1.out];rfl,B1⟩
  ·have Hz1:Hid (leafB (.mk 2 s n l)=false):=hid (by rw[Hz.out];simp[h0])
   go_wp2
   go_ret
   exact⟨by rw[Hz1.out];rfl,B1⟩
 have e2:(op == 2)=false:=by simpa using o2
 by_cases o3:op=3
 ·subst o3
  have Hz:Hid (leafB (.mk 3 s n l)=(bn && bl)):=hid (by rw[HL.out];rfl)
  go_enter Tryz.func138,Tryz.ntmps138
  go_wp2_with fail
  refine (HN.out _).mono ?_
  rintro e w1 ⟨rfl,rfl⟩
  have B1:=A0.out
  cases bn <;> cases bl
  all_goals
   go_wp2
   go_ret
   exact⟨by rw[Hz.out];rfl,B1⟩
 have e3:(op == 3)=false:=by simpa using o3
 by_cases o4:op=4
 ·subst o4
  have Hz:Hid (leafB (.mk 4 s n l)=(s.toList.isEmpty && bn && bl)):=hid (by rw[HL.out];rfl)
  go_enter Tryz.func138,Tryz.ntmps138
  go_wp2_with fail
  refine (HN.out _).mono ?_
  rintro e w1 ⟨rfl,rfl⟩
  have B1:=A0.out
  by_cases h0:s.toList=[]
  ·have Hz1:Hid (leafB (.mk 4 s n l)=(bn && bl)):=hid (by rw[Hz.out,h0];rfl)
   cases bn <;> cases bl
   all_goals
    go_wp2
    go_ret
    exact⟨by rw[Hz1.out];rfl,B1⟩
  ·have Hz1:Hid (leafB (.mk 4 s n l)=false):=hid (by rw[Hz.out];simp[h0])
   go_wp2
   go_ret
   exact⟨by rw[Hz1.out];rfl,B1⟩
 have e4:(op == 4)=false:=by simpa using o4
 have Hz:Hid (leafB (.mk op s n l)=false):=hid (by rw[HL.out,if_neg o1,if_neg o2,if_neg o3,if_neg o4])
 clear HL o1 o2 o3 o4
 go_enter Tryz.func138,Tryz.ntmps138
 go_wp2_with fail
 refine (HN.out _).mono ?_
 rintro e w1 ⟨rfl,rfl⟩
 have B1:=A0.out
 go_wp2
 go_ret
 exact⟨by rw[Hz.out];rfl,B1⟩
def partT (h:Nat) (t:Tm):Bool:=recB t && rightT h t
theorem rightT_two {h:Nat} {op n:Int} {s:ByteArray} {x y:Tm} (h2:twoB op=true) (hs:s.toList=[]) (hn:(n == 0)=true):rightT (h+1) (.mk op s n [x,y])=[x,y].all (partT h):=by
 have h2':twoB (Tm.mk op s n [x,y]).op=true:=h2
 unfold rightT
 rw[if_pos h2']
 simp only[Tm.s_mk,Tm.n_mk,Tm.l_mk,hs,hn,List.all_cons,List.all_nil,partT]
 simp
theorem rightT_not {h:Nat} {op n:Int} {s:ByteArray} {l:List Tm} (h2:twoB op=true) (hx:s.toList≠[]∨(n == 0)=false∨l.length≠2):rightT (h+1) (.mk op s n l)=false:=by
 have h2':twoB (Tm.mk op s n l).op=true:=h2
 unfold rightT
 rw[if_pos h2']
 simp only[Tm.s_mk,Tm.n_mk,Tm.l_mk]
 rcases hx with hx | hx | hx
 ·have:s.toList.isEmpty=false:=by cases hs:s.toList <;> simp_all
  rw[this];rfl
 ·rw[hx];simp
 ·match l,hx with
  | [],_=>simp
  | [_],_=>simp
  | [_,_],h=>exact absurd rfl h
  | _::_::_::_,_=>simp
theorem rightT_leaf {h:Nat} {t:Tm} (h2:twoB t.op=false):rightT (h+1) t=leafB t:=by
 unfold rightT
 rw[if_neg (by rw[h2];simp)]
theorem all_drop' {α:Type} {f:α→Bool} {l:List α} {k:Nat} {t:α} (ht:l[k]?=some t):(l.drop k).all f=(f t && (l.drop (k+1)).all f):=by
 have h1:l.drop k=t::l.drop (k+1):=by rw[List.drop_eq_getElem_cons (List.getElem?_eq_some_iff.1 ht).1,(List.getElem?_eq_some_iff.1 ht).2]
 rw[h1];rfl
set_option maxRecDepth 100000 in
set_option maxHeartbeats 4000000 in
theorem rrightTerm_c:∀ (h:Nat) (z:Int) (t:Tm) (w:World) (cs:List Value),z=h→h≤20→TmC w w.heap.size t cs →
  Calls Tryz.prog 115 #[.agg cs.toArray,.int .i64 z] w fun e w'=>e=.returned (.bool (rightT h t))∧Below w.heap.size w w':=by
 intro h
 induction h with
 | zero=>
  intro z t w cs hz hh hc
  obtain⟨p1,q1,rfl,_,_,_,t1⟩:=hc.look
  have Hz:Hid (rightT 0 t=false):=hid (by unfold rightT;rfl)
  have hz':z < 1:=by omega
  clear hc t1 hz
  go_enter Tryz.func115,Tryz.ntmps115
  go_wp2
  go_ret
  exact⟨by rw[Hz.out];rfl,(Below.refl _ _).alloc (Nat.le_refl _) _⟩
 | succ h ih=>
  intro z t w cs hz hh hc
  have HLF:=hid (fun (W:World) (hb:Below w.heap.size w W)=>rleaf_c t W cs ((hc.under hb).more hb.size))
  obtain⟨op,s,n,l⟩:=t
  obtain⟨p1,q1,rfl,_,hzs,_,t1⟩:=hc.look
  simp only[Tm.op_mk,Tm.s_mk,Tm.n_mk,Tm.l_mk] at hzs t1 HLF ⊢
  have hz':¬ z < 1:=by omega
  have hz20:z≤20:=by omega
  have IH:=hid (fun (x:Tm) (W:World) (cs:List Value) (hx:TmC W W.heap.size x cs)=>ih (z - 1) x W cs (by omega) (by omega) hx)
  have HB0:Hid (∀ (x:Obj),Below w.heap.size w (w.alloc x)):=hid fun x=>(Below.refl _ _).alloc (Nat.le_refl _) _
  clear ih hz
  cases h2:twoB op with
  | false=>
   have Hz:Hid (rightT (h+1) (.mk op s n l)=leafB (.mk op s n l)):=hid (rightT_leaf h2)
   have HT:Hid (∀ w,Calls Tryz.prog 74 #[.int .i64 op] w fun e w'=>e=.returned (.bool false)∧w=w'):=hid (fun w=>by have:=rtwo_c op w;rw[h2] at this;exact this)
   clear hc t1 h2
   go_enter Tryz.func115,Tryz.ntmps115
   go_wp2_with fail
   refine (HT.out _).mono ?_
   rintro e w1 ⟨rfl,rfl⟩
   go_wp2_with fail
   refine (HLF.out _ (HB0.out _)).mono ?_
   rintro e w2 ⟨rfl,b2⟩
   go_wp2
   go_ret
   exact⟨by rw[Hz.out];rfl,(HB0.out _).trans (b2.mono (by simp))⟩
  | true=>
   have HT:Hid (∀ w,Calls Tryz.prog 74 #[.int .i64 op] w fun e w'=>e=.returned (.bool true)∧w=w'):=hid (fun w=>by have:=rtwo_c op w;rw[h2] at this;exact this)
   by_cases h0:s.toList=[]
   ·obtain⟨bn,hbn⟩:∃ b,(n != 0)=b:=⟨_,rfl⟩
    cases bn with
    | true=>
     have Hz:Hid (rightT (h+1) (.mk op s n l)=false):=hid (rightT_not h2 (.inr (.inl (by simpa using hbn))))
     clear hc t1 h2
     go_enter Tryz.func115,Tryz.ntmps115
     go_wp2_with fail
     refine (HT.out _).mono ?_
     rintro e w1 ⟨rfl,rfl⟩
     go_wp2
     go_ret
     exact⟨by rw[Hz.out];rfl,HB0.out _⟩
    | false=>
     obtain⟨bl,hbl⟩:∃ b,((l.length:Int) != 2)=b:=⟨_,rfl⟩
     cases bl with
     | true=>
      have Hz:Hid (rightT (h+1) (.mk op s n l)=false):=hid (rightT_not h2 (.inr (.inr (by intro e;rw[e] at hbl;simp at hbl))))
      clear hc t1 h2
      go_enter Tryz.func115,Tryz.ntmps115
      go_wp2_with fail
      refine (HT.out _).mono ?_
      rintro e w1 ⟨rfl,rfl⟩
      go_wp2
      go_ret
      exact⟨by rw[Hz.out];rfl,HB0.out _⟩
     | false=>
      have hl2:l.length=2:=by have:(l.length:Int)=2:=(by simpa using hbl);omega
      have Hz:Hid (rightT (h+1) (.mk op s n l)=l.all (partT h)):=hid (by
       obtain⟨x,y,rfl⟩:=two_of hl2
       exact rightT_two h2 h0 (by simpa using hbn))
      have Hl2:=hid hl2
      obtain⟨o1,cap1,e1,hc1,hm1,S1⟩:=SlOf.open t1
      cases e1
      clear hc t1 h2 hl2
      go_enter Tryz.func115,Tryz.ntmps115
      go_wp2_with fail
      refine (HT.out _).mono ?_
      rintro e w1 ⟨rfl,rfl⟩
      go_wp2
      go_loopw [5] (fun i wr=>∃ k:Nat,k≤2∧i=.int .i64 k∧l.all (partT h)=(l.drop k).all (partT h)∧Below (w.heap.size+1) (w.alloc (.cells #[.int .i64 op,.string s,.int .i64 n,.slice p1 l.length q1] 51)) wr) (fun i _=>2 - (intOf i).toNat)
      case atStart=>exact⟨0,Nat.zero_le _,rfl,rfl,Below.refl _ _⟩
      case round=>
       obtain⟨k,hk,rfl,hr,hB2⟩:=hrel
       have hB:Below w.heap.size w wr:=(HB0.out _).trans (hB2.mono (by omega))
       have Hr:=hid hr
       clear hr
       have hBs:=hB2.size
       simp only[World.size_alloc] at hBs
       have hz0:w.heap.size < wr.heap.size:=by omega
       have x0:wr.cell? ⟨w.heap.size,3,none⟩=some (.slice p1 l.length q1):=(hB2.cell (p:=⟨w.heap.size,3,none⟩) (by show w.heap.size < _;omega)).trans (by go_simp)
       by_cases hlt:k < 2
       ·have hlt':(k:Int) < 2:=by omega
        have hlt2:k < l.length:=by have:=Hl2.out;omega
        have hlt3:(k:Int) < (l.length:Int):=by omega
        obtain⟨t,ht⟩:∃ t,l[k]?=some t:=⟨l[k],List.getElem?_eq_getElem hlt2⟩
        obtain⟨a,p3,q3,rfl,ha,Hc,c0,c1,c2,c3⟩:=tm_at S1 hB ht
        have hal:(a.add (k * 4)).block < wr.heap.size:=by rw[addBlock];omega
        have Hst:=hid (Hr.out.trans (all_drop' (f:=partT h) ht))
        clear ht
        obtain⟨b3,hb3⟩:∃ b,(t.op == 3)=b:=⟨_,rfl⟩
        obtain⟨b4,hb4⟩:∃ b,(t.op == 4)=b:=⟨_,rfl⟩
        cases b3 with
        | true=>
         have Hz2:=hid (Hz.out.trans (Hst.out.trans (by unfold partT recB;simp at hb3;rw[hb3];rfl:_=false)))
         go_wp2
         go_ret
         exact⟨by rw[Hz2.out];rfl,hB⟩
        | false=>
        cases b4 with
        | true=>
         have Hz2:=hid (Hz.out.trans (Hst.out.trans (by unfold partT recB;simp at hb4;rw[hb4];rfl:_=false)))
         go_wp2
         go_ret
         exact⟨by rw[Hz2.out];rfl,hB⟩
        | false=>
        have Hst2:=hid (Hst.out.trans (by unfold partT recB;rw[show (t.op != 3)=true by simpa using hb3,show (t.op != 4)=true by simpa using hb4];rfl:_=(rightT h t && (l.drop (k+1)).all (partT h))))
        go_wp2_with fail
        refine (IH.out t _ _ Hc.out).mono ?_
        rintro e w1 ⟨rfl,b1⟩
        have hB3:=hB2.trans (b1.mono (by omega))
        cases hs:rightT h t with
        | false=>
         have Hz2:=hid (Hz.out.trans (Hst2.out.trans (by rw[hs,Bool.false_and])))
         clear hs
         go_wp2
         go_ret
         exact⟨by rw[Hz2.out];rfl,(HB0.out _).trans (hB3.mono (by omega))⟩
        | true=>
         have Hz2:=hid (Hst2.out.trans (by rw[hs,Bool.true_and]))
         clear hs
         go_wp2
         go_roundw
         case rel=>exact⟨k+1,by omega,by go_num,Hz2.out,hB3⟩
         case measure=>simp[intOf];omega
       ·have hlt':¬ (k:Int) < 2:=by omega
        have Hz2:=hid (Hz.out.trans (Hr.out.trans (by rw[List.drop_of_length_le (by have:=Hl2.out;omega)];rfl:_=true)))
        go_wp2
        go_ret
        exact⟨by rw[Hz2.out];rfl,hB⟩
   ·have Hz:Hid (rightT (h+1) (.mk op s n l)=false):=hid (rightT_not h2 (.inl h0))
    clear hc t1 h2
    go_enter Tryz.func115,Tryz.ntmps115
    go_wp2_with fail
    refine (HT.out _).mono ?_
    rintro e w1 ⟨rfl,rfl⟩
    go_wp2
    go_ret
    exact⟨by rw[Hz.out];rfl,HB0.out _⟩
end Go.Proofs.YtfmldnbcjbflbaaGreatDoor
namespace Go.Proofs.YtfmldnbcjbflbaaGreatDoor
open Lib(hid)
open Go.RowKit Go.ChangeShapes Go.WideShapes Go.Deep
theorem parts2 {H:Type} {enc:TypeId × Value→H} {P:Program} {w:World} {base:Nat} {spare:Nat→Bool} {held:Bool} {t:TypeId} {f0 f1:Field} {fuel:Nat} {cs:List Value} {x:DataW H × List MemPlace} (ht:P.underlying t=some (.struct #[f0,f1])) (h:DataW.trod enc P w base spare held fuel t cs=some x) :
  ∃ (y0 y1:DataW H × List MemPlace) (n:Nat),fuel=n+1∧cs.length=P.cellsOf t∧DataW.trod enc P w base spare held n f0.type ((cs.drop f0.offset).take (P.cellsOf f0.type))=some y0∧DataW.trod enc P w base spare held n f1.type ((cs.drop f1.offset).take (P.cellsOf f1.type))=some y1:=by
 obtain⟨xs,n,hn,rfl,hl,hlen,hf⟩:=DataW.trod_struct ht h
 match xs,hlen with
 | [y0,y1],_=>exact⟨y0,y1,n,hn,hl,by simpa using hf 0 f0 rfl,by simpa using hf 1 f1 rfl⟩
theorem parts3 {H:Type} {enc:TypeId × Value→H} {P:Program} {w:World} {base:Nat} {spare:Nat→Bool} {held:Bool} {t:TypeId} {f0 f1 f2:Field} {fuel:Nat} {cs:List Value} {x:DataW H × List MemPlace} (ht:P.underlying t=some (.struct #[f0,f1,f2])) (h:DataW.trod enc P w base spare held fuel t cs=some x) :
  ∃ (y0 y1 y2:DataW H × List MemPlace) (n:Nat),fuel=n+1∧cs.length=P.cellsOf t∧DataW.trod enc P w base spare held n f0.type ((cs.drop f0.offset).take (P.cellsOf f0.type))=some y0∧DataW.trod enc P w base spare held n f1.type ((cs.drop f1.offset).take (P.cellsOf f1.type))=some y1∧DataW.trod enc P w base spare held n f2.type ((cs.drop f2.offset).take (P.cellsOf f2.type))=some y2:=by
 obtain⟨xs,n,hn,rfl,hl,hlen,hf⟩:=DataW.trod_struct ht h
 match xs,hlen with
 | [y0,y1,y2],_=>exact⟨y0,y1,y2,n,hn,hl,by simpa using hf 0 f0 rfl,by simpa using hf 1 f1 rfl,by simpa using hf 2 f2 rfl⟩
theorem parts4 {H:Type} {enc:TypeId × Value→H} {P:Program} {w:World} {base:Nat} {spare:Nat→Bool} {held:Bool} {t:TypeId} {f0 f1 f2 f3:Field} {fuel:Nat} {cs:List Value} {x:DataW H × List MemPlace} (ht:P.underlying t=some (.struct #[f0,f1,f2,f3])) (h:DataW.trod enc P w base spare held fuel t cs=some x) :
  ∃ (y0 y1 y2 y3:DataW H × List MemPlace) (n:Nat),fuel=n+1∧cs.length=P.cellsOf t∧DataW.trod enc P w base spare held n f0.type ((cs.drop f0.offset).take (P.cellsOf f0.type))=some y0∧DataW.trod enc P w base spare held n f1.type ((cs.drop f1.offset).take (P.cellsOf f1.type))=some y1∧DataW.trod enc P w base spare held n f2.type ((cs.drop f2.offset).take (P.cellsOf f2.type))=some y2∧DataW.trod enc P w base spare held n f3.type ((cs.drop f3.offset).take (P.cellsOf f3.type))=some y3:=by
 obtain⟨xs,n,hn,rfl,hl,hlen,hf⟩:=DataW.trod_struct ht h
 match xs,hlen with
 | [y0,y1,y2,y3],_=>exact⟨y0,y1,y2,y3,n,hn,hl,by simpa using hf 0 f0 rfl,by simpa using hf 1 f1 rfl,by simpa using hf 2 f2 rfl,by simpa using hf 3 f3 rfl⟩
section
variable {H:Type} {enc:TypeId × Value→H} {w:World}
theorem cell_block {a:Addr} {v:Value} (h:w.cell? a=some v):a.block < w.heap.size:=by
 unfold World.cell? at h
 rcases Nat.lt_or_ge a.block w.heap.size with h' | h'
 ·exact h'
 ·simp[Array.getElem?_eq_none h'] at h
theorem open_sl {α:Type} {R:α→List Value→Prop} {z fuel:Nat} {t e:TypeId} {v:Value} {x:DataW H × List MemPlace} (ht:Tryz.prog.underlying t=some (.slice e)) (hz:Tryz.prog.cellsOf e=z) (hp:0 < z)
  (hE:∀ n cs y,n < fuel→DataW.trod enc Tryz.prog w 0 (fun _=>true) true n e cs=some y→∃ b,R b cs)
  (h:DataW.trod enc Tryz.prog w 0 (fun _=>true) true fuel t [v]=some x):∃ l:List α,SlOf w w.heap.size z R l v:=by
 rcases DataW.trod_slice ht h with ⟨hcs,_⟩ | ⟨a,len,cap,elems,rest,n,rfl,hcs,_,_,hl,hm,hlen,hel,_,_⟩
 ·exact⟨[],.inl ⟨(List.cons.inj hcs).1,rfl⟩⟩
 ·rw[hz] at hel
  have each:∀ i,i < len→∃ b cs,cs.length=z∧R b cs∧CellsAt w a (i * z) cs:=by
   intro i hi
   have h1:=hel i hi
   rw[List.getElem?_eq_getElem (by omega),Option.bind_eq_some_iff] at h1
   obtain⟨cs,hc,htr⟩:=h1
   obtain⟨b,hb⟩:=hE n cs _ (by omega) htr
   obtain⟨_,hcl,hat⟩:=World.cells?_some hc
   refine⟨b,cs,hcl,hb,fun j c hj=>?_⟩
   have hjz:j < z:=by rw[← hcl];exact (List.getElem?_eq_some_iff.1 hj).1
   have:=hat j hjz
   rw[add_add] at this
   exact this.trans hj
  by_cases h0:len=0
  ·subst h0
   exact⟨[],.inr ⟨a,cap,(List.cons.inj hcs).1,hl,hm,fun h=>absurd rfl h,fun i x hx=>by simp at hx⟩⟩
  let f:(i:Nat)→i < len→α:=fun i h=>(each i h).choose
  have hf:∀ i (h:i < len),∃ cs,cs.length=z∧R (f i h) cs∧CellsAt w a (i * z) cs:=fun i h=>(each i h).choose_spec
  have hblk:a.block < w.heap.size:=by
   obtain⟨cs,hcl,_,hc⟩:=hf 0 (by omega)
   have:=cell_block (hc 0 cs[0] (List.getElem?_eq_getElem (by omega)))
   rwa [addBlock] at this
  refine⟨(List.finRange len).map fun i=>f i.1 i.2,.inr ⟨a,cap,by rw[(List.cons.inj hcs).1];simp,by simpa using hl,hm,fun _=>hblk,fun i y hy=>?_⟩⟩
  rw[List.getElem?_map,Option.map_eq_some_iff] at hy
  obtain⟨j,hj,rfl⟩:=hy
  obtain⟨hi,e⟩:=List.getElem?_eq_some_iff.1 hj
  simp only[List.getElem_finRange] at e
  subst e
  exact hf i (by simpa using hi)
theorem cTerm:Tryz.prog.cellsOf 51=4:=by kernel_rfl
theorem cAtom:Tryz.prog.cellsOf 34=2:=by kernel_rfl
theorem cLit:Tryz.prog.cellsOf 56=11:=by kernel_rfl
theorem cRule:Tryz.prog.cellsOf 37=4:=by kernel_rfl
theorem cInt:Tryz.prog.cellsOf 3=1:=by kernel_rfl
theorem cInt64:Tryz.prog.cellsOf 2=1:=by kernel_rfl
theorem cStr:Tryz.prog.cellsOf 9=1:=by kernel_rfl
theorem cTerms:Tryz.prog.cellsOf 32=1:=by kernel_rfl
theorem cLits:Tryz.prog.cellsOf 35=1:=by kernel_rfl
theorem wf_i64 {n:Int} (h:(Lit.int .i64 n).wf=true):I64 n:=by
 simp only[Lit.wf,Bool.and_eq_true,decide_eq_true_eq] at h
 exact h
set_option maxRecDepth 100000 in
theorem open_term:∀ (fuel:Nat) (cs:List Value) (x:DataW H × List MemPlace),DataW.trod enc Tryz.prog w 0 (fun _=>true) true fuel 51 cs=some x→∃ t,TmC w w.heap.size t cs:=by
 intro fuel
 induction fuel using Nat.strongRecOn with
 | _ fuel ih=>
  intro cs x h
  obtain⟨y0,y1,y2,y3,n,rfl,hcl,h0,h1,h2,h3⟩:=parts4 Tryz.underlying51 h
  rw[cTerm] at hcl
  match cs,hcl with
  | [c0,c1,c2,c3],_=>
   simp only[cInt,cInt64,cStr,cTerms,List.drop_zero,List.drop_succ_cons,List.take_succ_cons,List.take_zero] at h0 h1 h2 h3
   obtain⟨k0,e0,_,w0⟩:=DataW.trod_int Tryz.underlying3 h0
   obtain⟨s1,e1,_,z1⟩:=DataW.trod_string Tryz.underlying9 h1
   obtain⟨k2,e2,_,w2⟩:=DataW.trod_int Tryz.underlying2 h2
   simp only[List.cons.injEq,and_true] at e0 e1 e2
   subst e0 e1 e2
   obtain⟨l,hl⟩:=open_sl Tryz.underlying32 cTerm (by omega) (fun m cs y hm hy=>ih m (by omega) cs y hy) h3
   exact⟨.mk k0 s1 k2 l,TmC.of (wf_i64 w0) z1 (wf_i64 w2) hl⟩
set_option maxRecDepth 100000 in
theorem open_atom (fuel:Nat) (cs:List Value) (x:DataW H × List MemPlace) (h:DataW.trod enc Tryz.prog w 0 (fun _=>true) true fuel 34 cs=some x):∃ t,AmC w w.heap.size t cs:=by
 obtain⟨y0,y1,n,rfl,hcl,h0,h1⟩:=parts2 Tryz.underlying34 h
 rw[cAtom] at hcl
 match cs,hcl with
 | [c0,c1],_=>
  simp only[cStr,cTerms,List.drop_zero,List.drop_succ_cons,List.take_succ_cons,List.take_zero] at h0 h1
  obtain⟨s0,e0,_,z0⟩:=DataW.trod_string Tryz.underlying9 h0
  simp only[List.cons.injEq,and_true] at e0
  subst e0
  obtain⟨l,hl⟩:=open_sl Tryz.underlying32 cTerm (by omega) (fun m cs y hm hy=>open_term m cs y hy) h1
  exact⟨⟨s0,l⟩,_,rfl,z0,hl⟩
set_option maxRecDepth 100000 in
theorem open_lit (fuel:Nat) (cs:List Value) (x:DataW H × List MemPlace) (h:DataW.trod enc Tryz.prog w 0 (fun _=>true) true fuel 56 cs=some x):∃ t,LtC w w.heap.size t cs:=by
 obtain⟨y0,y1,y2,y3,n,rfl,hcl,h0,h1,h2,h3⟩:=parts4 Tryz.underlying56 h
 rw[cLit] at hcl
 match cs,hcl with
 | [c0,c1,c2,c3,c4,c5,c6,c7,c8,c9,c10],_=>
  simp only[cInt,cAtom,cTerm,List.drop_zero,List.drop_succ_cons,List.take_succ_cons,List.take_zero] at h0 h1 h2 h3
  obtain⟨k0,e0,_,w0⟩:=DataW.trod_int Tryz.underlying3 h0
  simp only[List.cons.injEq,and_true] at e0
  subst e0
  obtain⟨a,ha⟩:=open_atom _ _ _ h1
  obtain⟨x,hx⟩:=open_term _ _ _ h2
  obtain⟨y,hy⟩:=open_term _ _ _ h3
  exact⟨⟨k0,a,x,y⟩,_,_,_,rfl,wf_i64 w0,ha,hx,hy⟩
set_option maxRecDepth 100000 in
theorem open_rule (fuel:Nat) (cs:List Value) (x:DataW H × List MemPlace) (h:DataW.trod enc Tryz.prog w 0 (fun _=>true) true fuel 37 cs=some x):∃ t,RuC w w.heap.size t cs:=by
 obtain⟨y0,y1,y2,n,rfl,hcl,h0,h1,h2⟩:=parts3 Tryz.underlying37 h
 rw[cRule] at hcl
 match cs,hcl with
 | [c0,c1,c2,c3],_=>
  simp only[cInt,cAtom,cLits,List.drop_zero,List.drop_succ_cons,List.take_succ_cons,List.take_zero] at h0 h1 h2
  obtain⟨k2,e2,_,w2⟩:=DataW.trod_int Tryz.underlying3 h2
  simp only[List.cons.injEq,and_true] at e2
  subst e2
  obtain⟨a,ha⟩:=open_atom _ _ _ h0
  obtain⟨l,hl⟩:=open_sl Tryz.underlying35 cLit (by omega) (fun m cs y hm hy=>open_lit m cs y hy) h1
  exact⟨⟨a,l,k2⟩,_,_,rfl,wf_i64 w2,ha,hl⟩
end
end Go.Proofs.YtfmldnbcjbflbaaGreatDoor
