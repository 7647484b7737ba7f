/- Laid@0123, Any@0123, Zin@0123, Gm@0123 -/
import Derived.Deep.RegionHeld3
import Derived.Deep.Slices
import Derived.OneCell
import Derived.OrdersIn
import Derived.Test.YtakpgcmfjlbcgaaGreatDoorQ6
set_option linter.unusedSimpArgs false
set_option linter.unusedVariables false
namespace Go.Proofs.YtakpgcmfjlbcgaaGreatDoor
open Lib(hid)
open Go.RowKit Go.Deep
def Laid {α:Type} (z:Nat) (L:α→List Value→Prop) (acc:List α) (xs:List Value):Prop:=
 xs.length=acc.length * z∧∀ i x,acc[i]?=some x→∃ cs,cs.length=z∧L x cs∧∀ j c,cs[j]?=some c→xs[i * z+j]?=some c
theorem Laid.nil {α:Type} {z:Nat} {L:α→List Value→Prop}:Laid z L [] []:=⟨by simp,fun i x h=>by simp at h⟩
theorem Laid.app {α:Type} {z:Nat} {L:α→List Value→Prop} {l m:List α} {xs ys:List Value} (h:Laid z L l xs) (k:Laid z L m ys):Laid z L (l++m) (xs++ys):=by
 refine⟨by rw[List.length_append,List.length_append,h.1,k.1,Nat.add_mul],fun i x hx=>?_⟩
 rcases Nat.lt_or_ge i l.length with hi | hi
 ·rw[List.getElem?_append_left hi] at hx
  obtain⟨cs,c1,c2,c3⟩:=h.2 i x hx
  refine⟨cs,c1,c2,fun j c hj=>?_⟩
  have:=c3 j c hj
  rw[List.getElem?_append_left (List.getElem?_eq_some_iff.1 this).1]
  exact this
 ·rw[List.getElem?_append_right hi] at hx
  obtain⟨cs,c1,c2,c3⟩:=k.2 _ x hx
  refine⟨cs,c1,c2,fun j c hj=>?_⟩
  have:=c3 j c hj
  have e:i * z+j - xs.length=(i - l.length) * z+j:=by
   rw[h.1,Nat.sub_mul]
   have:l.length * z≤i * z:=Nat.mul_le_mul_right _ hi
   omega
  rw[List.getElem?_append_right (by rw[h.1];have:l.length * z≤i * z:=Nat.mul_le_mul_right _ hi;omega),e]
  exact this
theorem Laid.one {α:Type} {z:Nat} {L:α→List Value→Prop} {x:α} {cs:List Value} (hz:cs.length=z) (h:L x cs):Laid z L [x] cs:=by
 refine⟨by simp[hz],fun i y hy=>?_⟩
 cases i with
 | zero=>
  obtain rfl:x=y:=by simpa using hy
  exact⟨cs,hz,h,fun j c hj=>by rw[Nat.zero_mul,Nat.zero_add];exact hj⟩
 | succ i=>simp at hy
theorem Laid.snoc {α:Type} {z:Nat} {L:α→List Value→Prop} {acc:List α} {xs:List Value} {x:α} {cs:List Value} (h:Laid z L acc xs) (hz:cs.length=z) (hx:L x cs):Laid z L (acc++[x]) (xs++cs):=h.app (.one hz hx)
theorem Laid.mono {α:Type} {z:Nat} {L L':α→List Value→Prop} {acc:List α} {xs:List Value} (h:Laid z L acc xs) (hL:∀ x cs,L x cs→L' x cs):Laid z L' acc xs:=
 ⟨h.1,fun i x hx=>let ⟨cs,a,b,c⟩:=h.2 i x hx;⟨cs,a,hL x cs b,c⟩⟩
def putAt (xs:List Value) (k:Nat) (cs:List Value):List Value:=xs.take k++cs++xs.drop (k+cs.length)
theorem putAt_len {xs cs:List Value} {k:Nat} (h:k+cs.length≤xs.length):(putAt xs k cs).length=xs.length:=by
 unfold putAt
 simp only[List.length_append,List.length_take,List.length_drop]
 omega
theorem putAt_get {xs cs:List Value} {k:Nat} (h:k+cs.length≤xs.length) (i:Nat):(putAt xs k cs)[i]?=if k≤i∧i < k+cs.length then cs[i - k]? else xs[i]?:=by
 unfold putAt
 by_cases h1:i < k
 ·rw[if_neg (by omega),List.getElem?_append_left (by simp;omega),List.getElem?_append_left (by simp;omega),List.getElem?_take,if_pos h1]
 ·by_cases h2:i < k+cs.length
  ·rw[if_pos ⟨by omega,h2⟩,List.getElem?_append_left (by simp;omega),List.getElem?_append_right (by simp;omega)]
   congr 1
   rw[List.length_take]
   omega
  ·rw[if_neg (by omega),List.getElem?_append_right (by simp;omega),List.getElem?_drop]
   congr 1
   simp only[List.length_append,List.length_take]
   omega
theorem Laid.set {α:Type} {z:Nat} {L:α→List Value→Prop} {acc:List α} {xs:List Value} (h:Laid z L acc xs) {i:Nat} (hi:i < acc.length) {x:α} {cs:List Value} (hz:cs.length=z) (hx:L x cs):Laid z L (acc.set i x) (putAt xs (i * z) cs):=by
 obtain⟨h1,h2⟩:=h
 have hle:i * z+cs.length≤xs.length:=by
  rw[h1,hz]
  calc i * z+z=(i+1) * z:=by rw[Nat.add_mul,Nat.one_mul]
   _≤acc.length * z:=Nat.mul_le_mul_right _ hi
 refine⟨by rw[putAt_len hle,List.length_set,h1],fun k y hy=>?_⟩
 by_cases hk:k=i
 ·subst hk
  rw[List.getElem?_set_self hi] at hy
  cases hy
  refine⟨cs,hz,hx,fun j c hj=>?_⟩
  have hjz:j < cs.length:=(List.getElem?_eq_some_iff.1 hj).1
  rw[putAt_get hle,if_pos (by omega),Nat.add_sub_cancel_left]
  exact hj
 ·rw[List.getElem?_set_ne (Ne.symm hk)] at hy
  obtain⟨ds,d1,d2,d3⟩:=h2 k y hy
  refine⟨ds,d1,d2,fun j c hj=>?_⟩
  have hjz:j < z:=by rw[← d1];exact (List.getElem?_eq_some_iff.1 hj).1
  rw[putAt_get hle,if_neg ?_]
  ·exact d3 j c hj
  ·rw[hz]
   rcases Nat.lt_or_ge k i with h | h
   ·have:(k+1) * z≤i * z:=Nat.mul_le_mul_right _ h
    rw[Nat.add_mul,Nat.one_mul] at this
    omega
   ·have:(i+1) * z≤k * z:=Nat.mul_le_mul_right _ (by omega)
    rw[Nat.add_mul,Nat.one_mul] at this
    omega
theorem sl_laid {α:Type} {w:World} {B z:Nat} {R:α→List Value→Prop} {l:List α} {v:Value} (h:SlOf w B z R l v) (h1:∀ x cs,R x cs→∀ u ∈ cs,u.oneCell'=true):∃ xs,Laid z R l xs∧Spread w z v l.length xs:=by
 rcases h with ⟨rfl,rfl⟩ | ⟨a,cap,rfl,_,_,_,h5⟩
 ·exact⟨[],Laid.nil,.inl ⟨rfl,rfl,rfl⟩⟩
 ·have key:∀ k,k≤l.length→∃ xs,Laid z R (l.take k) xs∧(∀ j u,xs[j]?=some u→w.cell? (a.add j)=some u)∧∀ u ∈ xs,u.oneCell'=true:=by
   intro k
   induction k with
   | zero=>intro _;exact⟨[],by simpa using Laid.nil,fun j u hu=>by simp at hu,fun u hu=>by simp at hu⟩
   | succ k ih=>
    intro hk
    obtain⟨xs,e1,e2,e3⟩:=ih (by omega)
    have hx:l[k]?=some l[k]:=List.getElem?_eq_getElem (by omega)
    obtain⟨cs,c1,c2,c3⟩:=h5 k _ hx
    have hl:xs.length=k * z:=by rw[e1.1,List.length_take,Nat.min_eq_left (by omega)]
    refine⟨xs++cs,?_,fun j u hu=>?_,fun u hu=>?_⟩
    ·rw[List.take_add_one,hx]
     exact e1.snoc c1 c2
    ·rcases Nat.lt_or_ge j xs.length with hj | hj
     ·rw[List.getElem?_append_left hj] at hu
      exact e2 j u hu
     ·rw[List.getElem?_append_right hj] at hu
      have:=c3 _ u hu
      rw[← hl,Nat.add_sub_cancel' hj] at this
      exact this
    ·rcases List.mem_append.1 hu with hu | hu
     ·exact e3 u hu
     ·exact h1 _ _ c2 u hu
  obtain⟨xs,e1,e2,e3⟩:=key l.length (Nat.le_refl _)
  rw[List.take_length] at e1
  exact⟨xs,e1,.inr ⟨a,cap,rfl,e1.1,e2,e3⟩⟩
theorem sl_own0 {α:Type} {w:World} {base:Nat} {e:TypeId} {z:Nat} {v:Value} {xs:List Value} {acc:List α} {P:α→List Value→Prop} (h:w.ownsRow base e z v acc.length xs) (hl:Laid z P acc xs):SlOf w w.heap.size z P acc v:=by
 rcases h.2 with ⟨rfl,h0⟩ | ⟨g,cap,cur,hv,hb,hg,hn,hc,hcur,ht⟩
 ·exact .inl ⟨rfl,List.eq_nil_of_length_eq_zero h0⟩
 ·refine .inr ⟨⟨g,0,none⟩,cap,hv,hn,hc,fun _=>(Array.getElem?_eq_some_iff.1 hg).1,fun i x hx=>?_⟩
  obtain⟨cs,hz,hP,hcs⟩:=hl.2 i x hx
  exact⟨cs,hz,hP,fun j c hj=>h.cells (g:=g) (by rw[hv];rfl) (i * z+j) c (hcs j c hj)⟩
theorem SlOf.take {α:Type} {w:World} {B z:Nat} {R:α→List Value→Prop} {l:List α} {a:Addr} {cap:Nat} (h:SlOf w B z R l (.slice (some a) l.length cap)) {i:Nat} (hi:i≤l.length):SlOf w B z R (l.take i) (.slice (some a) i cap):=by
 rcases h with ⟨h,_⟩ | ⟨a',cap',e,h1,h2,h3,h4⟩
 ·cases h
 ·cases e
  refine .inr ⟨a,cap,by rw[List.length_take,Nat.min_eq_left hi],by rw[List.length_take];omega,h2,fun hn=>h3 (by rintro rfl;simp at hn),fun k x hx=>?_⟩
  rw[List.getElem?_take] at hx
  split at hx
  ·exact h4 k x hx
  ·cases hx
theorem SlOf.drop {α:Type} {w:World} {B z:Nat} {R:α→List Value→Prop} {l:List α} {a:Addr} {cap:Nat} (h:SlOf w B z R l (.slice (some a) l.length cap)) {i:Nat} (hi:i≤l.length):SlOf w B z R (l.drop i) (.slice (if cap=i then some a else some (a.add (i * z))) (l.length - i) (cap - i)):=by
 rcases h with ⟨h,_⟩ | ⟨a',cap',e,h1,h2,h3,h4⟩
 ·cases h
 ·cases e
  by_cases hc:cap=i
  ·rw[if_pos hc]
   have hd:l.drop i=[]:=List.drop_of_length_le (by omega)
   rw[hd]
   exact .inr ⟨a,cap - i,by simp;omega,by simp,by omega,fun h=>absurd rfl h,fun k x hx=>by simp at hx⟩
  ·rw[if_neg hc]
   refine .inr ⟨a.add (i * z),cap - i,by simp,by simp;omega,by omega,fun hn=>by rw[addBlock];exact h3 (by rintro rfl;simp at hn),fun k x hx=>?_⟩
   rw[List.getElem?_drop] at hx
   obtain⟨cs,c1,c2,c3⟩:=h4 _ x hx
   refine⟨cs,c1,c2,fun j c hj=>?_⟩
   rw[add_add,← Nat.add_assoc,← Nat.add_mul]
   exact c3 j c hj
theorem SlOf.one {α:Type} {w:World} {B z:Nat} {R:α→List Value→Prop} {l:List α} {a:Addr} {cap:Nat} (h:SlOf w B z R l (.slice (some a) l.length cap)) {i:Nat} {x:α} (hi:l[i]?=some x) {c:Nat} (hc:1≤c) (hm:c≤maxLen):SlOf w B z R [x] (.slice (some (a.add (i * z))) 1 c):=by
 rcases h with ⟨h,_⟩ | ⟨a',cap',e,h1,h2,h3,h4⟩
 ·cases h
 ·cases e
  have hl:=(List.getElem?_eq_some_iff.1 hi).1
  refine .inr ⟨a.add (i * z),c,rfl,hc,hm,fun _=>by rw[addBlock];exact h3 (by rintro rfl;simp at hl),fun k y hy=>?_⟩
  match k,hy with
  | 0,hy=>
   obtain rfl:x=y:=by simpa using hy
   obtain⟨cs,c1,c2,c3⟩:=h4 i x hi
   refine⟨cs,c1,c2,fun j c hj=>?_⟩
   rw[Nat.zero_mul,Nat.zero_add,add_add]
   exact c3 j c hj
  | k+1,hy=>simp at hy
def setC (b:Nat):Nat→List Value→World→World
 | _,[],w=>w
 | k,x::xs,w=>setC b (k+1) xs (w.setCell ⟨b,k,none⟩ x)
def wrC (cs:Array Value):Nat→List Value→Array Value
 | _,[]=>cs
 | k,x::xs=>wrC (cs.setIfInBounds k x) (k+1) xs
theorem wrC_size:∀ (xs:List Value) (k:Nat) (cs:Array Value),(wrC cs k xs).size=cs.size
 | [],_,_=>rfl
 | x::xs,k,cs=>by rw[wrC,wrC_size xs];simp
theorem wrC_get:∀ (xs:List Value) (k:Nat) (cs:Array Value) (i:Nat),k+xs.length≤cs.size→(wrC cs k xs)[i]?=if k≤i∧i < k+xs.length then xs[i - k]? else cs[i]?
 | [],k,cs,i,_=>by rw[wrC,if_neg (by simp)]
 | x::xs,k,cs,i,h=>by
  rw[List.length_cons] at h
  rw[wrC,wrC_get xs (k+1) _ i (by simp;omega),List.length_cons]
  by_cases h1:k+1≤i∧i < k+1+xs.length
  ·rw[if_pos h1,if_pos (by omega),show i - k=(i - (k+1))+1 by omega,List.getElem?_cons_succ]
  ·rw[if_neg h1]
   by_cases h2:i=k
   ·subst h2
    rw[if_pos (by omega),Nat.sub_self,List.getElem?_cons_zero,Array.getElem?_setIfInBounds_self_of_lt (by omega)]
   ·rw[if_neg (by omega),Array.getElem?_setIfInBounds_ne (by omega)]
theorem set_row {w:World} {b:Nat} {cs:Array Value} {T:TypeId} {fr:Nat × Nat} (hb:w.heap[b]?=some (.cells cs T fr)) (i:Nat) (v:Value):(w.setCell ⟨b,i,none⟩ v).heap[b]?=some (.cells (cs.setIfInBounds i v) T fr):=by
 simp[World.setCell,Array.getElem?_modify,hb]
theorem setC_row {b:Nat} {T:TypeId} {fz:Nat × Nat}:∀ (xs:List Value) (k:Nat) (w:World) (cs:Array Value),w.heap[b]?=some (.cells cs T fz)→(setC b k xs w).heap[b]?=some (.cells (wrC cs k xs) T fz)
 | [],_,_,_,h=>h
 | x::xs,k,w,cs,h=>by rw[setC,wrC];exact setC_row xs (k+1) _ _ (set_row h k x)
theorem setC_grown {b:Nat}:∀ (xs:List Value) (k:Nat) (w:World),w.grownBy (setC b k xs w) (some b)∧(setC b k xs w).heap.size=w.heap.size
 | [],_,w=>⟨⟨rfl,rfl,rfl,Nat.le_refl _,fun _ _ _=>rfl⟩,rfl⟩
 | x::xs,k,w=>by
  rw[setC]
  obtain⟨h1,h2⟩:=setC_grown (b:=b) xs (k+1) (w.setCell ⟨b,k,none⟩ x)
  have hs:(w.setCell ⟨b,k,none⟩ x).heap.size=w.heap.size:=by simp[World.setCell]
  refine⟨⟨h1.os,h1.tape,h1.output,by rw[h2,hs];exact Nat.le_refl _,fun i hi hne=>(h1.block i (by rw[hs];exact hi) hne).trans (Below.heap_setCell w ⟨b,k,none⟩ x i (fun e=>hne (by rw[e])))⟩,h2.trans hs⟩
theorem own_put {W:World} {base g n cp z:Nat} {e:TypeId} {xs news:List Value} (h:W.ownsRow base e z (.slice (some ⟨g,0,none⟩) n cp) n xs) {k:Nat} (hk:k+news.length≤xs.length) :
  (setC g k news W).ownsRow base e z (.slice (some ⟨g,0,none⟩) n cp) n (putAt xs k news):=by
 obtain⟨h1,h2⟩:=h
 rcases h2 with ⟨h3,_⟩ | ⟨g',cap,cur,hv,hb,hh,hc,hm,hsz,ht⟩
 ·cases h3
 ·cases hv
  have hle:n * z≤cur.size:=by rw[hsz];exact Nat.mul_le_mul_right z hc
  refine⟨by rw[putAt_len hk];exact h1,.inr ⟨g,cp,wrC cur k news,rfl,hb,setC_row news _ W cur hh,hc,hm,by rw[wrC_size];exact hsz,?_⟩⟩
  refine List.ext_getElem? fun i=>?_
  rw[List.getElem?_take,putAt_get hk]
  have hti:=congrArg (fun l=>l[i]?) ht
  simp only[List.getElem?_take] at hti
  by_cases hi:i < n * z
  ·rw[if_pos hi,Array.getElem?_toList,wrC_get news _ _ _ (by omega)]
   rw[if_pos hi,Array.getElem?_toList] at hti
   by_cases hk2:k≤i∧i < k+news.length
   ·rw[if_pos hk2,if_pos hk2]
   ·rw[if_neg hk2,if_neg hk2,hti]
  ·rw[if_neg hi,if_neg (by omega),List.getElem?_eq_none (by omega)]
theorem own_at {W:World} {base g n cp z:Nat} {e:TypeId} {xs:List Value} (h:W.ownsRow base e z (.slice (some ⟨g,0,none⟩) n cp) n xs):(∀ j u,xs[j]?=some u→W.cell? ⟨g,j,none⟩=some u)∧(∀ j,W.frozen? ⟨g,j,none⟩=false)∧g < W.heap.size∧base≤g:=by
 obtain⟨h1,h2⟩:=h
 rcases h2 with ⟨h3,_⟩ | ⟨g',cap,cur,hv,hb,hh,hc,hm,hsz,ht⟩
 ·cases h3
 ·cases hv
  refine⟨fun j u hu=>?_,fun j=>?_,(Array.getElem?_eq_some_iff.1 hh).1,hb⟩
  ·rw[← ht,List.getElem?_take] at hu
   split at hu
   ·unfold World.cell?
    rw[hh]
    simpa using hu
   ·cases hu
  ·unfold World.frozen?
   rw[hh]
   simp
def noDefer (ops:Array Oper):Bool:=ops.toList.all fun o=>match o.op with | .defer _=>false | _=>true
theorem noDefer_spec {ops:Array Oper} (h:noDefer ops=true) {i:Nat} {o:Oper} (ho:ops[i]?=some o) (c:Call):o.op≠.defer c:=by
 intro e
 unfold noDefer at h
 rw[List.all_eq_true] at h
 have hm:o ∈ ops.toList:=by
  obtain⟨hi,rfl⟩:=Array.getElem?_eq_some_iff.1 ho
  simp
 have:=h o hm
 rw[e] at this
 cases this
theorem upon_round {l n:Nat} {P:Program} {o:Oper} {a:Act} {K K':Act→World→Prop} {Q:Exit→Act→World→Prop} (hK:∀ a w,K a w→K' a w) {r:Result Next} (h:o.upon P a K Q r):o.uponIn (Fence.wide.inRound l) n P a K' Q r:=by
 cases r with
 | ok x w'=>
  cases x with
  | value v=>exact hK _ _ h
  | skip=>exact hK _ _ h
  | defer d=>exact hK _ _ h
  | enter f args=>
   refine⟨(fun h=>by cases h),CallsIn.inRound l (callsIn_wide.2 (Calls.mono h ?_))⟩
   intro e w'' he
   cases e with
   | returned v=>exact hK _ _ he
   | panicked c=>exact he
   | outgrown=>exact he
  | row row args=>
   refine⟨(fun h=>by cases h),?_⟩
   have h:Rows P row args w' fun v w''=>K (a.put o.dst v) w'':=h
   intro c cs _
   obtain⟨v,w'',r,s⟩:=h c cs
   exact⟨v,w'',hK _ _ r,stepsIn_wide.2 s⟩
  | _=>exact h.elim
 | halt x w'=>
  cases x with
  | panic v=>exact h
  | _=>exact h.elim
theorem any_round {l n:Nat} {P:Program} {md:Region.Mode} {ops:Array Oper} {Q:Exit→Act→World→Prop} (hd:noDefer ops=true) (hQ:¬ LetsOut Q):∀ (fuel:Nat) (listed:Array Bool) (a:Act) (w:World),wpAny P md ops Q fuel listed a w→wpAnyIn (Fence.wide.inRound l) n P md ops Q fuel listed a w
 | 0,_,_,_,h=>h
 | fuel+1,listed,a,w,h=>by
  refine⟨h.1,fun i hi=>?_⟩
  have hi:=h.2 i hi
  unfold wpOp at hi
  unfold wpOpIn
  cases ho:ops[i]? with
  | none=>
   rw[ho] at hi
   exact any_round hd hQ fuel _ _ _ hi
  | some o=>
   rw[ho] at hi
   simp only at hi ⊢
   split
   ·next hw=>
    rw[if_pos hw] at hi
    rcases hi with hi | ⟨_,hl⟩
    ·refine⟨fun _ _=>trivial,?_⟩
     rw[Oper.semAt_eq _ _ _ (noDefer_spec hd ho)]
     exact upon_round (fun a w h=>any_round hd hQ fuel _ a w h) hi
    ·exact absurd hl hQ
   ·next hw=>
    rw[if_neg hw] at hi
    exact⟨fun _ _=>trivial,any_round hd hQ fuel _ _ _ hi⟩
theorem any_region {l n id:Nat} {P:Program} {ops:Array Oper} {Q:Exit→Act→World→Prop} {a:Act} {w:World} (hm:P.follows .mixedOrders=true) (hd:noDefer ops=true) (hQ:¬ LetsOut Q)
  (h:wpAny P .any ops Q ops.size (Array.replicate ops.size false) a w.drew):(Code.region id ops true).wpIn (Fence.wide.inRound l) n P Q a w:=
 wpIn_region_any hm (any_round hd hQ _ _ _ _ h)
def memB (l:List ByteArray) (s:ByteArray):Bool:=l.any fun x=>s.toList == x.toList
theorem memB_no {l:List ByteArray} {s:ByteArray} (h:∀ x ∈ l,(s.toList == x.toList)=false):memB l s=false:=by
 unfold memB
 rw[List.any_eq_false]
 exact fun x hx=>by rw[h x hx];decide
theorem memB_yes {l:List ByteArray} {s x:ByteArray} (hx:x ∈ l) (h:(s.toList == x.toList)=true):memB l s=true:=by
 unfold memB
 rw[List.any_eq_true]
 exact⟨x,hx,h⟩
set_option maxRecDepth 100000 in
set_option maxHeartbeats 4000000 in
theorem index_c (l:List ByteArray) (s:ByteArray) (v:Value) (w:World) (hv:SlOf w w.heap.size 1 StrC l v) :
  Calls Tryz.prog 181 #[v,.string s] w fun e w'=>(∃ k:Int,e=.returned (.int .i64 k)∧(0≤k ↔ memB l s=true))∧w'=w:=by
 obtain⟨o1,k1,rfl,_,hk1,S1⟩:=SlOf.open hv
 have hB0:Below w.heap.size w w:=Below.refl _ _
 clear hv
 go_enter Tryz.func181,Tryz.ntmps181
 go_wp2
 go_loopw [8] (fun i wr=>∃ k:Nat,k≤l.length∧i=.int .i64 k∧(∀ x ∈ l.take k,(s.toList == x.toList)=false)∧wr=w) (fun i _=>l.length - (intOf i).toNat)
 case atStart=>exact⟨0,Nat.zero_le _,rfl,fun x h=>by simp at h,rfl⟩
 case round=>
  obtain⟨k,hk,rfl,ha,rfl⟩:=hrel
  have Ha:=hid ha
  clear ha
  by_cases hlt:k < l.length
  ·have hlt':(k:Int) < (l.length:Int):=by omega
   have hk0:(0:Int)≤(k:Int):=by omega
   obtain⟨x,hx⟩:∃ x,l[k]?=some x:=⟨l[k],List.getElem?_eq_getElem hlt⟩
   obtain⟨p,rfl,hp,hsz,c0⟩:=str_at S1 hB0 hx
   cases hxy:(s.toList == x.toList) with
   | true=>
    have Hq:Hid (memB l s=true):=hid (memB_yes (List.mem_of_getElem? hx) hxy)
    clear hx
    go_wp2
    go_ret
    exact⟨⟨_,rfl,⟨fun _=>Hq.out,fun _=>hk0⟩⟩,rfl⟩
   | false=>
    have Hz:Hid (∀ y ∈ l.take (k+1),(s.toList == y.toList)=false):=hid fun y hy=>by
     rw[List.take_add_one,hx] at hy
     rcases List.mem_append.1 hy with hy | hy
     ·exact Ha.out y hy
     ·obtain rfl:y=x:=by simpa using hy
      exact hxy
    clear hx
    go_wp2
    go_roundw
    case rel=>exact⟨k+1,hlt,by go_num,Hz.out,by trivial⟩
    case measure=>simp[intOf];omega
  ·have hlt':¬ (k:Int) < (l.length:Int):=by omega
   have Hq:Hid (memB l s=false):=hid (by have h:=Ha.out;rw[List.take_of_length_le (by omega)] at h;exact memB_no h)
   go_wp2
   go_ret
   exact⟨⟨_,rfl,⟨fun h=>absurd h (by decide),fun h=>by rw[Hq.out] at h;cases h⟩⟩,rfl⟩
set_option maxRecDepth 100000 in
set_option maxHeartbeats 4000000 in
theorem contains_c (l:List ByteArray) (s:ByteArray) (v:Value) (w:World) (hv:SlOf w w.heap.size 1 StrC l v) :
  Calls Tryz.prog 149 #[v,.string s] w fun e w'=>e=.returned (.bool (memB l s))∧w'=w:=by
 have HI:=hid (index_c l s v w hv)
 go_enter Tryz.func149,Tryz.ntmps149
 go_wp2_with fail
 refine HI.out.mono ?_
 rintro e w1 ⟨⟨k,rfl,hk⟩,rfl⟩
 by_cases h0:(0:Int)≤k
 ·have Hq:=hid (hk.1 h0)
  have h0':decide ((0:Int)≤k)=true:=by simp[h0]
  clear hk
  go_wp2
  go_ret
  exact⟨by rw[Hq.out];rfl,rfl⟩
 ·have Hq:Hid (memB l s=false):=hid (Bool.eq_false_iff.2 fun h=>h0 (hk.2 h))
  have h0':decide ((0:Int)≤k)=false:=by simp[h0]
  clear hk
  go_wp2
  go_ret
  exact⟨by rw[Hq.out];rfl,rfl⟩
abbrev Ed:=List (Nat × Nat)
inductive Rch (E:Ed):Nat→Nat→Prop
 | refl (a:Nat):Rch E a a
 | step {a b c:Nat}:(a,b) ∈ E→Rch E b c→Rch E a c
theorem Rch.trans {E:Ed} {a b c:Nat} (h:Rch E a b) (k:Rch E b c):Rch E a c:=by
 induction h with
 | refl=>exact k
 | step e _ ih=>exact .step e (ih k)
theorem Rch.one {E:Ed} {a b:Nat} (h:(a,b) ∈ E):Rch E a b:=.step h (.refl b)
theorem Rch.mono {E E':Ed} (h:∀ x ∈ E,x ∈ E') {a b:Nat} (k:Rch E a b):Rch E' a b:=by
 induction k with
 | refl=>exact .refl _
 | step e _ ih=>exact .step (h _ e) ih
theorem rch_closed {E:Ed} {ms:List Nat} (hc:∀ x ∈ ms,∀ y,(x,y) ∈ E→y ∈ ms) {a b:Nat} (ha:a ∈ ms) (h:Rch E a b):b ∈ ms:=by
 induction h with
 | refl=>exact ha
 | step e _ ih=>exact ih (hc _ ha _ e)
theorem rch_lt {E:Ed} {n:Nat} (hE:∀ x ∈ E,x.2 < n) {a b:Nat} (ha:a < n) (h:Rch E a b):b < n:=by
 induction h with
 | refl=>exact ha
 | step e _ ih=>exact ih (hE _ e)
def Mut (E:Ed) (a b:Nat):Prop:=Rch E a b∧Rch E b a
theorem Mut.refl (E:Ed) (a:Nat):Mut E a a:=⟨.refl a,.refl a⟩
theorem Mut.symm {E:Ed} {a b:Nat} (h:Mut E a b):Mut E b a:=⟨h.2,h.1⟩
theorem Mut.trans {E:Ed} {a b c:Nat} (h:Mut E a b) (k:Mut E b c):Mut E a c:=⟨h.1.trans k.1,k.2.trans h.2⟩
theorem Mut.mono {E E':Ed} (h:∀ x ∈ E,x ∈ E') {a b:Nat} (k:Mut E a b):Mut E' a b:=⟨k.1.mono h,k.2.mono h⟩
open Classical in
noncomputable def mutB (E:Ed) (a b:Nat):Bool:=decide (Mut E a b)
theorem mutB_iff {E:Ed} {a b:Nat}:mutB E a b=true ↔ Mut E a b:=by unfold mutB;exact @decide_eq_true_iff _ (Classical.propDecidable _)
noncomputable def grpG (E:Ed) (n a:Nat):List Nat:=(List.range n).filter (mutB E a)
theorem grp_mem {E:Ed} {n a b:Nat}:b ∈ grpG E n a ↔ b < n∧Mut E a b:=by unfold grpG;rw[List.mem_filter,List.mem_range,mutB_iff]
def NextG (E:Ed) (D:List Nat) (a:Nat):Prop:=a ∉ D∧∀ b,Rch E a b→b ∈ D∨Mut E a b
open Classical in
noncomputable def nextB (E:Ed) (D:List Nat) (a:Nat):Bool:=decide (NextG E D a)
theorem nextB_iff {E:Ed} {D:List Nat} {a:Nat}:nextB E D a=true ↔ NextG E D a:=by unfold nextB;exact @decide_eq_true_iff _ (Classical.propDecidable _)
noncomputable def pickG (E:Ed) (n:Nat) (D:List Nat):Option Nat:=(List.range n).find? (nextB E D)
inductive GrpR (E:Ed) (n:Nat):List Nat→List (List Nat)→Prop
 | stop {D:List Nat}:pickG E n D=none→GrpR E n D []
 | more {D:List Nat} {a:Nat} {L:List (List Nat)}:pickG E n D=some a→GrpR E n (D++grpG E n a) L→GrpR E n D (grpG E n a::L)
theorem grpR_one {E:Ed} {n:Nat} {D:List Nat} {L L':List (List Nat)} (h:GrpR E n D L) (h':GrpR E n D L'):L=L':=by
 induction h generalizing L' with
 | stop h1=>
  cases h' with
  | stop=>rfl
  | more h2=>rw[h1] at h2;cases h2
 | more h1 _ ih=>
  cases h' with
  | stop h2=>rw[h1] at h2;cases h2
  | more h2 h3=>
   rw[h1] at h2
   cases h2
   rw[ih h3]
theorem pickG_some {E:Ed} {n a:Nat} {D:List Nat} (ha:a < n) (h:NextG E D a) (hb:∀ b,b < a→¬ NextG E D b):pickG E n D=some a:=by
 unfold pickG
 rw[List.find?_eq_some_iff_append]
 refine⟨nextB_iff.2 h,List.range a,(List.range' (a+1) (n - a - 1)),?_,fun x hx=>?_⟩
 ·rw[List.range_eq_range',List.range_eq_range',show n=a+((n - a - 1)+1) by omega,← List.range'_append_1,List.range'_succ]
  simp
 ·rw[List.mem_range] at hx
  simp only[Bool.not_eq_true',← Bool.not_eq_true]
  exact fun h=>hb x hx (nextB_iff.1 h)
theorem pickG_none {E:Ed} {n:Nat} {D:List Nat} (hb:∀ b,b < n→¬ NextG E D b):pickG E n D=none:=by
 unfold pickG
 rw[List.find?_eq_none]
 intro x hx h
 exact hb x (List.mem_range.1 hx) (nextB_iff.1 h)
theorem pickG_spec {E:Ed} {n a:Nat} {D:List Nat} (h:pickG E n D=some a):a < n∧NextG E D a:=by
 unfold pickG at h
 exact⟨List.mem_range.1 (List.mem_of_find?_eq_some h),nextB_iff.1 (List.find?_some h)⟩
structure MetG (E:Ed) (n a:Nat) (ms left:List Nat):Prop where
 st:a ∈ ms
 nd:ms.Nodup
 lt:∀ x ∈ ms,x < n
 far:∀ x ∈ ms,Rch E a x
 sub:∀ x ∈ left,x ∈ ms
 shut:∀ x ∈ ms,x ∉ left→∀ y,(x,y) ∈ E→y ∈ ms
theorem MetG.start {E:Ed} {n a:Nat} (ha:a < n):MetG E n a [a] [a]:=
 ⟨by simp,by simp,by simpa using ha,by simpa using Rch.refl a,by simp,fun x h k=>absurd h k⟩
theorem MetG.done {E:Ed} {n a:Nat} {ms:List Nat} (h:MetG E n a ms []) (b:Nat):b ∈ ms ↔ Rch E a b:=
 ⟨h.far b,fun k=>rch_closed (fun x hx y he=>h.shut x hx (by simp) y he) h.st k⟩
structure MidG (E:Ed) (n a x:Nat) (vs ms left:List Nat):Prop where
 st:a ∈ ms
 nd:ms.Nodup
 lt:∀ x ∈ ms,x < n
 far:∀ x ∈ ms,Rch E a x
 sub:∀ x ∈ left,x ∈ ms
 at_:x ∈ ms
 shut:∀ y ∈ ms,y ∉ left→y≠x→∀ z,(y,z) ∈ E→z ∈ ms
 vs:∀ y ∈ vs,y ∈ ms
theorem MetG.open {E:Ed} {n a x:Nat} {ms left:List Nat} (h:MetG E n a ms (left++[x])):MidG E n a x [] ms left:=
 ⟨h.st,h.nd,h.lt,h.far,fun y hy=>h.sub y (List.mem_append_left _ hy),h.sub x (by simp),fun y hy hl hx=>h.shut y hy (by simp[hl,hx]),by simp⟩
theorem MidG.old {E:Ed} {n a x y:Nat} {vs ms left:List Nat} (h:MidG E n a x vs ms left) (hy:y ∈ ms):MidG E n a x (vs++[y]) ms left:=
 ⟨h.st,h.nd,h.lt,h.far,h.sub,h.at_,h.shut,fun z hz=>by rcases List.mem_append.1 hz with hz | hz;exact h.vs z hz;rw[List.mem_singleton.1 hz];exact hy⟩
theorem MidG.new {E:Ed} {n a x y:Nat} {vs ms left:List Nat} (h:MidG E n a x vs ms left) (hy:y ∉ ms) (hn:y < n) (he:(x,y) ∈ E):MidG E n a x (vs++[y]) (ms++[y]) (left++[y]):=by
 refine⟨List.mem_append_left _ h.st,?_,fun z hz=>?_,fun z hz=>?_,fun z hz=>?_,List.mem_append_left _ h.at_,fun z hz hl hx u hu=>?_,fun z hz=>?_⟩
 ·rw[List.nodup_append]
  exact⟨h.nd,by simp,fun u hu v hv e=>by rw[List.mem_singleton.1 hv] at e;exact hy (e ▸ hu)⟩
 ·rcases List.mem_append.1 hz with hz | hz
  ·exact h.lt z hz
  ·rw[List.mem_singleton.1 hz];exact hn
 ·rcases List.mem_append.1 hz with hz | hz
  ·exact h.far z hz
  ·rw[List.mem_singleton.1 hz];exact (h.far x h.at_).trans (.one he)
 ·rcases List.mem_append.1 hz with hz | hz
  ·exact List.mem_append_left _ (h.sub z hz)
  ·exact List.mem_append_right _ hz
 ·rcases List.mem_append.1 hz with hz | hz
  ·exact List.mem_append_left _ (h.shut z hz (fun k=>hl (List.mem_append_left _ k)) hx u hu)
  ·exact absurd (List.mem_append_right _ hz) hl
 ·rcases List.mem_append.1 hz with hz | hz
  ·exact List.mem_append_left _ (h.vs z hz)
  ·exact List.mem_append_right _ hz
theorem MidG.shutAll {E:Ed} {n a x:Nat} {vs ms left:List Nat} (h:MidG E n a x vs ms left) (hv:∀ y,(x,y) ∈ E→y ∈ vs):MetG E n a ms left:=
 ⟨h.st,h.nd,h.lt,h.far,h.sub,fun y hy hl z hz=>by
  by_cases e:y=x
  ·subst e;exact h.vs z (hv z hz)
  ·exact h.shut y hy hl e z hz⟩
end Go.Proofs.YtakpgcmfjlbcgaaGreatDoor
