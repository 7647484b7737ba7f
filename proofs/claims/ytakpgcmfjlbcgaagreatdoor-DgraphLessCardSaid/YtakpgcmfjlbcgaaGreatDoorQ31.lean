/- Zdl@0123, Zcl@0123, Zy0@0123, Zy1@0123, Zy2@0123, Zy3@0123 -/
import Derived.Deep.RegionLaw
import Derived.Lib.SliceRun
import Derived.Shelf.RegionOpenPlain
import Derived.Sort.LoopGhostIn
import Derived.Sort.WalkB12
import Derived.Test.YtakpgcmfjlbcgaaGreatDoorQ30
import Derived.Test.YtakpgcmfjlbcgaaGreatDoorQ29
set_option linter.unusedSimpArgs false
set_option linter.unusedVariables false
namespace Go.Proofs.YtakpgcmfjlbcgaaGreatDoor
open Lib(hid)
open Go.RowKit
def setA (cs:Array Value):Nat→List Value→Array Value
 | _,[]=>cs
 | k,x::xs=>setA (cs.setIfInBounds k x) (k+1) xs
theorem setA_size:∀ (xs:List Value) (k:Nat) (cs:Array Value),(setA cs k xs).size=cs.size
 | [],_,_=>rfl
 | x::xs,k,cs=>by rw[setA,setA_size xs];simp
theorem setA_get:∀ (xs:List Value) (k:Nat) (cs:Array Value) (i:Nat),k+xs.length≤cs.size→(setA cs k xs)[i]?=if k≤i∧i < k+xs.length then xs[i - k]? else cs[i]?
 | [],k,cs,i,_=>by rw[setA,if_neg (by simp)]
 | x::xs,k,cs,i,h=>by
  rw[List.length_cons] at h
  rw[setA,setA_get xs (k+1) _ i (by simp;omega),List.length_cons]
  by_cases h1:k+1≤i∧i < k+1+xs.length
  ·rw[if_pos h1,if_pos (by omega),show i - k=(i - (k+1))+1 by omega,List.getElem?_cons_succ]
  ·rw[if_neg h1]
   by_cases h2:i=k
   ·subst h2
    rw[if_pos (by omega),Nat.sub_self,List.getElem?_cons_zero,Array.getElem?_setIfInBounds_self_of_lt (by omega)]
   ·rw[if_neg (by omega),Array.getElem?_setIfInBounds_ne (Ne.symm h2)]
theorem row_setCells {b:Nat} {T:TypeId} {fz:Nat × Nat}:∀ (xs:List Value) (k:Nat) (w:World) (cs:Array Value),w.heap[b]?=some (.cells cs T fz)→(w.setCells b k xs).heap[b]?=some (.cells (setA cs k xs) T fz)
 | [],_,_,_,h=>h
 | x::xs,k,w,cs,h=>by rw[World.setCells,setA];exact row_setCells xs (k+1) _ _ (rowSet h k x)
theorem grown_setCells (b:Nat):∀ (xs:List Value) (k:Nat) (w:World),w.grownBy (w.setCells b k xs) (some b)
 | [],_,w=>World.grownBy.refl _ _
 | x::xs,k,w=>by rw[World.setCells];exact (grown_set b k x).trans (grown_setCells b xs (k+1) _)
theorem own_delete {w:World} {base g n cap i:Nat} {T:TypeId} {xs zs:List Value} (h:w.ownsRow base T 17 (.slice (some ⟨g,0,none⟩) n cap) n xs) (hi:i < n) (hz:zs.length=17) :
  ((w.setCells g (i * 17) (xs.drop ((i+1) * 17))).setCells g ((n - 1) * 17) zs).ownsRow base T 17 (.slice (some ⟨g,0,none⟩) (n - 1) cap) (n - 1) (xs.take (i * 17)++xs.drop ((i+1) * 17)):=by
 obtain⟨hl,h2⟩:=h
 rcases h2 with ⟨h3,_⟩ | ⟨g',cap',cur,hv,hb,hg,hn,hc,hs,ht⟩
 ·cases h3
 ·cases hv
  have hd:(xs.drop ((i+1) * 17)).length=(n - 1 - i) * 17:=by rw[List.length_drop,hl,← Nat.sub_mul];congr 1;omega
  have hnm:(n - 1) * 17=i * 17+(n - 1 - i) * 17:=by rw[← Nat.add_mul];congr 1;omega
  have hnc:n * 17≤cap * 17:=Nat.mul_le_mul_right _ hn
  have hn1:(n - 1) * 17+17=n * 17:=by omega
  have hk:i * 17+(xs.drop ((i+1) * 17)).length≤cur.size:=by rw[hd,hs,← hnm];omega
  have hk2:(n - 1) * 17+zs.length≤(setA cur (i * 17) (xs.drop ((i+1) * 17))).size:=by rw[setA_size,hs,hz];omega
  refine⟨by rw[List.length_append,hd,List.length_take,hl,Nat.min_eq_left (Nat.mul_le_mul_right _ (by omega)),hnm],.inr ⟨g,cap,_,rfl,hb,row_setCells zs _ _ _ (row_setCells _ _ _ _ hg),by omega,hc,by rw[setA_size,setA_size,hs],?_⟩⟩
  refine List.ext_getElem? fun j=>?_
  have hxs:∀ j,j < n * 17→cur[j]?=xs[j]?:=fun j hj=>by rw[← ht,List.getElem?_take_of_lt hj,Array.getElem?_toList]
  by_cases hj:j < (n - 1) * 17
  ·rw[List.getElem?_take_of_lt hj,Array.getElem?_toList,setA_get _ _ _ _ hk2,if_neg (by omega),setA_get _ _ _ _ hk,hd]
   by_cases h1:j < i * 17
   ·rw[if_neg (by omega),hxs j (by omega),List.getElem?_append_left (by rw[List.length_take,hl];omega),List.getElem?_take_of_lt h1]
   ·rw[if_pos (by omega),List.getElem?_append_right (by rw[List.length_take];omega),List.length_take,hl,Nat.min_eq_left (Nat.mul_le_mul_right _ (by omega))]
  ·rw[List.getElem?_eq_none (by rw[List.length_take];omega),List.getElem?_eq_none (by rw[List.length_append,hd,List.length_take,hl];omega)]
theorem run_clear_one (w:World) (t e ty:TypeId) (z:Value) {P:Program} (ht:P.underlying t=some (.slice e)) (hv:∀ w,(zeroValue e).run P w=.ok z w) (zs:List Value) (hz:z.cells=zs.toArray) (h1:∀ v ∈ zs,v.oneCell'=true) (h0:zs≠[]) (b o c:Nat)
  (hc:∀ j,j < zs.length→(w.cell? ⟨b,o+j,none⟩).isSome=true) (hf:∀ j,j < zs.length→w.frozen? ⟨b,o+j,none⟩=false) :
  (Builtin.clear_ #[t] ty #[.slice (some ⟨b,o,none⟩) 1 c]).run P w=.ok (.tuple #[]) (w.setCells b o zs):=by
 have hzc:(Builtin.zeroCells z.cells 1).toList=zs:=by
  rw[hz]
  simp only[Builtin.zeroCells]
  apply List.ext_getElem
  ·simp
  ·intro i h1 h2
   simp[Nat.mod_eq_of_lt h2,List.getElem?_eq_getElem h2]
 have hst:=run_storeCells_cells (P:=P) b o zs 0 w (by simpa using hc) (by simpa using hf) h1
 simp only[Nat.add_zero] at hst
 simp[Builtin.clear_,run_underlying ht,hv,hzc,hst]
abbrev zPt:List Value:=[.int .i64 0,.int .i64 0,.string ⟨#[]⟩,.slice none 0 0,.int .i64 0,.string ⟨#[]⟩,.int .i64 0,.slice none 0 0,.int .i64 0,.string ⟨#[]⟩,.int .i64 0,.slice none 0 0,.slice none 0 0,.slice none 0 0,.slice none 0 0,.slice none 0 0,.slice none 0 0]
set_option maxRecDepth 1000000 in
set_option maxHeartbeats 8000000 in
theorem delete_c (base g n cap i:Nat) (xs:List Value) (w:World) (h:w.ownsRow base 126 17 (.slice (some ⟨g,0,none⟩) n cap) n xs) (hi:i < n) (h1:∀ u ∈ xs,u.oneCell'=true) :
  Calls Tryz.prog 100 #[.slice (some ⟨g,0,none⟩) n cap,.int .i64 i,.int .i64 (i+1:Nat)] w fun e w'=>e=.returned (.slice (some ⟨g,0,none⟩) (n - 1) cap) ∧
   w'.ownsRow base 126 17 (.slice (some ⟨g,0,none⟩) (n - 1) cap) (n - 1) (xs.take (i * 17)++xs.drop ((i+1) * 17))∧w.grownBy w' (some g):=by
 have HD:=hid (own_delete (zs:=zPt) h.drew hi rfl)
 obtain⟨hl,h2⟩:=h
 rcases h2 with ⟨h3,_⟩ | ⟨g',cap',cur,hv,hb,hg,hn,hcm,hs,ht⟩
 ·cases h3
 cases hv
 obtain⟨i0,zP,hi0,hz0,hz1,hz2,hzc⟩:=info_pt2
 have t22:=Tryz.underlying123
 have v23:=Tryz.zeroValue126
 have hcur:∀ j,j < cap * 17→(w.cell? ⟨g,j,none⟩).isSome=true:=fun j hj=>by
  rw[row_cells hg j,Array.getElem?_eq_getElem (by omega)];rfl
 have hfz:∀ j,w.frozen? ⟨g,j,none⟩=false:=fun j=>frz_row hg j
 have hnm:(n - 1) * 17+17=n * 17:=by omega
 have hnc:n * 17≤cap * 17:=Nat.mul_le_mul_right _ hn
 obtain⟨news,hnews⟩:∃ news,xs.drop ((i+1) * 17)=news:=⟨_,rfl⟩
 have hlen:news.length=(n - (i+1)) * 17:=by rw[← hnews,List.length_drop,hl,← Nat.sub_mul]
 have hget:∀ t u,news[t]?=some u→w.cell? ⟨g,(i+1) * 17+t,none⟩=some u:=fun t u hu=>by
  rw[← hnews,List.getElem?_drop] at hu
  have hlt:=(List.getElem?_eq_some_iff.1 hu).1
  rw[row_cells hg,← Array.getElem?_toList]
  rw[← ht,List.getElem?_take_of_lt (by omega)] at hu
  exact hu
 obtain⟨A,hA,hsrc⟩:∃ A:Addr,(if cap=i+1 then some (⟨g,0,none⟩:Addr) else some ⟨g,(i+1) * 17,none⟩)=some A∧Hid (∀ t u,news[t]?=some u→w.drew.cell? (A.add t)=some u):=by
  by_cases hc:cap=i+1
  ·refine⟨⟨g,0,none⟩,by simp[hc],fun t u hu=>?_⟩
   have h0:news.length=0:=by rw[hlen];have:n - (i+1)=0:=(by omega);rw[this]
   rw[List.length_eq_zero_iff.1 h0] at hu
   simp at hu
  ·refine⟨⟨g,(i+1) * 17,none⟩,by simp[hc],fun t u hu=>?_⟩
   have:=hget t u hu
   unfold Addr.add
   split
   ·rename_i h0;subst h0;simpa using this
   ·simpa using this
 have s1:Hid (news.length=(n - (i+1)) * 17):=hlen
 have s2:Hid (∀ u ∈ news,u.oneCell'=true):=fun u hu=>h1 u (by rw[← hnews] at hu;exact List.mem_of_mem_drop hu)
 have him:i * 17+(n - (i+1)) * 17=(n - 1) * 17:=by rw[← Nat.add_mul];congr 1;omega
 have s3:Hid (∀ t,t < news.length→(w.drew.cell? ⟨g,0+i * 17+t,none⟩).isSome=true∧w.drew.frozen? ⟨g,0+i * 17+t,none⟩=false):=fun t ht=>by
  rw[hlen] at ht
  exact⟨hcur _ (by omega),hfz _⟩
 obtain⟨W1,hW1⟩:∃ W1,W1=w.drew.setCells g (0+i * 17) news:=⟨_,rfl⟩
 have hrow1:=row_setCells news (0+i * 17) w.drew cur hg
 rw[← hW1] at hrow1
 have hone:n - (n - 1)=1:=by omega
 have hcl:∀ ty,(Builtin.clear_ #[123] ty #[.slice (some ⟨g,(n - 1) * 17,none⟩) (n - (n - 1)) (cap - (n - 1))]).run Tryz.prog W1=.ok (.tuple #[]) (W1.setCells g ((n - 1) * 17) zPt):=
  fun ty=>by rw[hone];exact run_clear_one W1 _ _ ty _ t22 v23 zPt (by simp[Value.cells]) (by simp[Value.oneCell']) (by simp) g ((n - 1) * 17) _ (fun j hj=>by
   have hj:j < 17:=hj
   rw[row_cells hrow1,Array.getElem?_eq_getElem (by rw[setA_size,hs];omega)];rfl) (fun j _=>frz_row hrow1 _)
 have hW:Hid (W1=w.drew.setCells g (0+i * 17) news):=hW1
 have HE:Hid ((W1.setCells g ((n - 1) * 17) zPt).ownsRow base 126 17 (.slice (some ⟨g,0,none⟩) (n - 1) cap) (n - 1) (xs.take (i * 17)++news)∧w.grownBy (W1.setCells g ((n - 1) * 17) zPt) (some g)):=by
  have hd:=HD.out
  rw[hnews] at hd
  rw[hW1,Nat.zero_add]
  exact⟨hd,(gB ((Below.refl _ w).drew) (some g)).trans ((grown_setCells g news _ _).trans (grown_setCells g zPt _ _))⟩
 have hic:i≤cap:=by omega
 have hjc:i+1≤cap:=by omega
 have hne:((i:Int) == ((i+1:Nat):Int))=false:=by simp;omega
 have hnn:i+(n - (i+1))=n - 1:=by omega
 have mixed:Tryz.prog.follows .mixedOrders=true:=by kernel_rfl
 have q0:(0:Int)≤(i:Int)+1:=by omega
 have q1:(i:Int)+1≤(n:Int):=by omega
 have q2:(0:Int)≤(i:Int):=by omega
 have q3:(i:Int)≤(cap:Int):=by omega
 have HX:Hid (i+(n - (i+1))=n - 1):=hid hnn
 have HE2:Hid ((W1.setCells g ((n - 1) * 17) zPt).ownsRow base 126 17 (.slice (some ⟨g,0,none⟩) (n - 1) cap) (n - 1) (xs.take (i * 17)++xs.drop ((i+1) * 17))∧w.grownBy (W1.setCells g ((n - 1) * 17) zPt) (some g)):=hid (by rw[hnews];exact HE.out)
 clear hnews HE
 clear hone hW1 hrow1 hget hlen hcur hfz ht hs hg h1 HD hnn him hnc hnm
 go_enter Tryz.func100,Tryz.ntmps100
 go_wp2_with fail
 go_region_law_o (refine step_append_room rfl (.tmp 22) (.tmp 25) 123 rfl 126 i0 17 t22 hi0 hz1 g 0 i cap (by simp[Act.eval,Act.put]) A (n - (i+1)) (cap - (i+1)) news (by simp[Act.eval,Act.put]) s1.out hsrc.out s2.out (by omega) s3.out ?_;rw[← hW.out,HX.out])
 go_wp2
 go_ret
 exact⟨rfl,HE2.out⟩
end Go.Proofs.YtakpgcmfjlbcgaaGreatDoor
namespace Go.Proofs.YtakpgcmfjlbcgaaGreatDoor
open Lib(hid)
open Go.RowKit
set_option maxRecDepth 100000 in
set_option maxHeartbeats 4000000 in
theorem clone_c (base n:Nat) (v:Value) (xs:List Value) (w:World) (h:w.ownsRow base 126 17 v n xs) (h1:∀ u ∈ xs,u.oneCell'=true) (hn:n≤1000000) :
  Calls Tryz.prog 96 #[v] w fun e w'=>∃ u,e=.returned u∧w'.ownsRow w.heap.size 126 17 u n xs∧Below w.heap.size w w':=by
 have HSp:=hid (Spread.own h h1)
 obtain⟨i0,zP,hi,hz0,hz1,hz2,hzc⟩:=info_pt2
 have t22:=Tryz.underlying123
 obtain⟨o,cap,rfl⟩:=own_shape h
 have heq:∀ W:World,(binOp .eql 123 (.slice o n cap) (.slice none 0 0)).run Tryz.prog W=.ok (.bool o.isNone) W:=fun W=>Lib.run_eql_slice_nil W _ _ o n cap 0 0 t22
 have h0:o=none→n=0∧xs=[]:=by
  rintro rfl
  rcases h.2 with ⟨_,h0⟩ | ⟨g,cap',cur,hv,_⟩
  ·exact⟨h0,List.eq_nil_of_length_eq_zero (by rw[h.1,h0])⟩
  ·cases hv
 clear h h1
 cases o with
 | none=>
  obtain⟨rfl,rfl⟩:=h0 rfl
  go_enter Tryz.func96,Tryz.ntmps96
  go_wp2
  go_ret
  exact⟨_,rfl,World.ownsRow_nil _ _ _ _,Below.refl _ _⟩
 | some a=>
  clear h0
  have HB:∀ x:Obj,Hid (Below w.heap.size w (w.alloc x)):=fun x=>hid ((Below.refl _ _).alloc (Nat.le_refl _) x)
  have HS2:Hid (∀ x:Obj,Spread (w.alloc x) 17 (.slice (some a) n cap) n xs):=hid fun x=>HSp.out.cells fun p c hc=>(((Below.refl _ w).alloc (Nat.le_refl _) x).cell (World.block_lt_of_cell? _ _ hc)).trans hc
  go_enter Tryz.func96,Tryz.ntmps96
  go_wp2_with (at_builtin;go_loud (refine wpList_append_any _ rfl (.tmp 5) (.tmp 6) 123 rfl w.heap.size 126 i0 zP 17 288 t22 hi hz0 hz1 hz2 hzc (by decide) (.slice (some ⟨w.heap.size,0,none⟩) 0 0) 0 [] (by simp[Act.eval,Act.put]) (own_built (z:=17) (n:=0) (cs:=[]) (World.alloc_heap_new w _) rfl (by decide) w.heap.size (Nat.le_refl _)) (.slice (some a) n cap) n xs (by simp[Act.eval,Act.put]) (HS2.out _) (by unfold maxLen;omega) (by omega) (by simp) ?_);intro v2 w2 hown2 hg2 _;have HO:=hid hown2;have HG:=hid hg2;obtain⟨o2,c2,rfl⟩:=own_shape hown2;clear hown2 hg2)
  go_ret
  have hO:=HO.out
  rw[Nat.zero_add,List.nil_append] at hO
  exact⟨_,rfl,hO,(HB _).out.grown HG.out (by simp) (fun q hq=>by simp[Value.ownBlock] at hq;omega)⟩
end Go.Proofs.YtakpgcmfjlbcgaaGreatDoor
namespace Go.Proofs.YtakpgcmfjlbcgaaGreatDoor
open Lib(hid)
open Go.RowKit
theorem Laid.erase {α:Type} {z:Nat} {L:α→List Value→Prop} {acc:List α} {xs:List Value} (h:Laid z L acc xs) {i:Nat} (hi:i < acc.length):Laid z L (acc.eraseIdx i) (xs.take (i * z)++xs.drop ((i+1) * z)):=by
 have hz:(i+1) * z≤xs.length:=by rw[h.1];exact Nat.mul_le_mul_right _ hi
 have hz0:i * z≤(i+1) * z:=Nat.mul_le_mul_right _ (by omega)
 refine⟨?_,fun j x hx=>?_⟩
 ·rw[List.length_append,List.length_take,List.length_drop,List.length_eraseIdx_of_lt hi,h.1,Nat.min_eq_left (by rw[← h.1];omega),Nat.sub_mul]
  have:acc.length * z=(acc.length - 1) * z+z:=by rw[← Nat.succ_mul];congr 1;omega
  rw[Nat.succ_mul]
  have h2:=h.1
  rw[Nat.succ_mul] at hz
  omega
 ·by_cases hj:j < i
  ·rw[List.getElem?_eraseIdx_of_lt hj] at hx
   obtain⟨cs,c1,c2,c3⟩:=h.2 j x hx
   refine⟨cs,c1,c2,fun q c hq=>?_⟩
   have hql:=(List.getElem?_eq_some_iff.1 hq).1
   have hjz:j * z+z≤i * z:=by rw[← Nat.succ_mul];exact Nat.mul_le_mul_right _ hj
   rw[List.getElem?_append_left (by rw[List.length_take];omega),List.getElem?_take_of_lt (by omega)]
   exact c3 q c hq
  ·rw[List.getElem?_eraseIdx_of_ge (by omega)] at hx
   obtain⟨cs,c1,c2,c3⟩:=h.2 (j+1) x hx
   refine⟨cs,c1,c2,fun q c hq=>?_⟩
   have hql:=(List.getElem?_eq_some_iff.1 hq).1
   have hij:i * z≤j * z:=Nat.mul_le_mul_right _ (by omega)
   have e:(i+1) * z+(j * z+q - i * z)=(j+1) * z+q:=by rw[Nat.succ_mul,Nat.succ_mul];omega
   rw[List.getElem?_append_right (by rw[List.length_take];omega),List.length_take,Nat.min_eq_left (by omega),List.getElem?_drop,e]
   exact c3 q c hq
def LeftOk (S:Nat) (W:World) (v:Value) (l:List Pt):Prop:=S≤W.heap.size∧∃ xs,W.ownsRow 0 126 17 v l.length xs∧Laid 17 (PtC (hidO v W) S) l xs
theorem LeftOk.below {S:Nat} {W W':World} {v:Value} {l:List Pt} (h:LeftOk S W v l) (hb:Below W.heap.size W W'):LeftOk S W' v l:=by
 obtain⟨hS,xs,h1,h2⟩:=h
 exact⟨Nat.le_trans hS hb.size,xs,own_below h1 hb,h2.mono fun x cs hx=>hx.cells (hid_below hb) (Nat.le_refl _)⟩
theorem LeftOk.map {S:Nat} {P:Program} {W W':World} {v:Value} {l:List Pt} {kT eT:TypeId} {M n:Nat} {f:List UInt8→Int} {c:Nat} (h:LeftOk S W v l) (hm:MapI P W kT eT M n f c) (hg:W.grownBy W' (some M)):LeftOk S W' v l:=by
 obtain⟨hS,xs,h1,h2⟩:=h
 have hne:v.ownBlock≠some M:=fun e=>by
  rcases h1.2 with ⟨rfl,_⟩ | ⟨g,cap,cur,rfl,_,hr,_⟩
  ·cases e
  ·obtain rfl:g=M:=by simpa[Value.ownBlock] using e
   obtain⟨D,⟨es,clock,h3,_⟩,_⟩:=hm
   rw[h3] at hr
   cases hr
 refine⟨Nat.le_trans hS hg.size,xs,h1.kept hg (.inr hne),h2.mono fun x cs hx=>hx.cells (fun p c hc=>?_) (Nat.le_refl _)⟩
 obtain⟨k1,k2⟩:=hidO_cell hc
 exact cell_hidO (mapI_cells hm hg k2) k1
theorem LeftOk.erase {S:Nat} {W W':World} (hS:S≤W.heap.size) {v v':Value} {l:List Pt} {i:Nat} (hi:i < l.length) {xs:List Value} (hl:Laid 17 (PtC (hidO v W) S) l xs) (hv:v'.ownBlock=v.ownBlock) (ho:W'.ownsRow 0 126 17 v' (l.length - 1) (xs.take (i * 17)++xs.drop ((i+1) * 17))) (hg:W.grownBy W' v.ownBlock):LeftOk S W' v' (l.eraseIdx i):=by
 refine⟨Nat.le_trans hS hg.size,_,by rw[List.length_eraseIdx_of_lt hi];exact ho,(hl.erase hi).mono fun x cs hx=>hx.cells (fun p c hc=>?_) (Nat.le_refl _)⟩
 exact hid_step hg (.inl hv) p c hc
theorem left_at {S:Nat} {W:World} {v:Value} {l:List Pt} (h:LeftOk S W v l) {i:Nat} {p:Pt} (hp:l[i]?=some p):∃ (a:Addr) (cap:Nat) (cs:List Value),v=.slice (some a) l.length cap∧a.block < W.heap.size∧PtC W S p cs∧CellsAt W a (i * 17) cs:=by
 obtain⟨_,xs,h1,h2⟩:=h
 have hs:=sl_own0 h1 h2
 rcases hs with ⟨rfl,rfl⟩ | ⟨a,cap,hv,_,_,hb,h5⟩
 ·simp at hp
 ·obtain⟨cs,c1,c2,c3⟩:=h5 i p hp
  exact⟨a,cap,cs,hv,hb (by rintro rfl;simp at hp),c2.cells (fun q c hc=>(hidO_cell hc).2) (Nat.le_refl _),c3⟩
structure Fr (M:Nat) (v:Value) (w w':World):Prop where
 os:w'.os=w.os
 tape:w'.tape=w.tape
 output:w'.output=w.output
 size:w.heap.size≤w'.heap.size
 block:∀ i,i < w.heap.size→i≠M→v.ownBlock≠some i→w'.heap[i]?=w.heap[i]?
theorem Fr.refl (M:Nat) (v:Value) (w:World):Fr M v w w:=⟨rfl,rfl,rfl,Nat.le_refl _,fun _ _ _ _=>rfl⟩
theorem Fr.below {M:Nat} {v:Value} {w w' w'':World} (h:Fr M v w w') (hb:Below w'.heap.size w' w''):Fr M v w w'':=
 ⟨hb.os.trans h.os,hb.tape.trans h.tape,hb.output.trans h.output,Nat.le_trans h.size hb.size,fun i hi h1 h2=>(hb.block i (Nat.lt_of_lt_of_le hi h.size)).trans (h.block i hi h1 h2)⟩
theorem Fr.map {M:Nat} {v:Value} {w w' w'':World} (h:Fr M v w w') (hg:w'.grownBy w'' (some M)):Fr M v w w'':=
 ⟨hg.os.trans h.os,hg.tape.trans h.tape,hg.output.trans h.output,Nat.le_trans h.size hg.size,fun i hi h1 h2=>(hg.block i (Nat.lt_of_lt_of_le hi h.size) (fun e=>h1 (Option.some.inj e))).trans (h.block i hi h1 h2)⟩
theorem Fr.row {M:Nat} {v:Value} {w w' w'':World} (h:Fr M v w w') (hg:w'.grownBy w'' v.ownBlock):Fr M v w w'':=
 ⟨hg.os.trans h.os,hg.tape.trans h.tape,hg.output.trans h.output,Nat.le_trans h.size hg.size,fun i hi h1 h2=>(hg.block i (Nat.lt_of_lt_of_le hi h.size) (fun e=>h2 e.symm)).trans (h.block i hi h1 h2)⟩
end Go.Proofs.YtakpgcmfjlbcgaaGreatDoor
namespace Go.Proofs.YtakpgcmfjlbcgaaGreatDoor
open Lib(hid)
open Go.RowKit
theorem loadAt17 {w:World} {a:Addr} {cs:List Value} (hl:cs.length=17) (h:∀ j c,cs[j]?=some c→w.cell? (a.add j)=some c) :
  (Instr.loadAt 126 (.pointer (some a))).run Tryz.prog w=.ok (.agg cs.toArray) w:=by
 have h1:(loadCells a 17).run Tryz.prog w=.ok cs.toArray w:=by
  have:=run_loadCells_list (P:=Tryz.prog) w a cs h
  rwa [hl] at this
 have hagg:=Tryz.isAgg126 w
 have hs:=Tryz.sizeOf126 w
 have h2:(Instr.sureAddr (.pointer (some a))).run Tryz.prog w=Result.ok a w:=by simp[Instr.sureAddr,go_sem]
 unfold Instr.loadAt
 rw[Sem.run_bind,h2,Result.andThen_ok]
 simp[loadVar,Sem.run_bind,hagg,hs,h1]
section
variable {F:Fence} {nF:Nat} {ops:Array Oper} {rest:List Oper} {o:Oper} {a:Act} {Q:Exit→Act→World→Prop} {w:World}
theorem wpListIn_load17 (hw:Region.wanted o (yielded ops a.tmps)=true) (x:Operand) (ho:o.op=Op.load 126 x) (ad:Addr) (hx:a.eval x=.pointer (some ad)) {cs:List Value} (hl:cs.length=17) (h:∀ j c,cs[j]?=some c→w.cell? (ad.add j)=some c)
  (hK:wpListIn F nF Tryz.prog ops Q rest (a.put o.dst (.agg cs.toArray)) w):wpListIn F nF Tryz.prog ops Q (o::rest) a w:=by
 refine wpListIn_step fun K hk=>?_
 rw[if_pos hw]
 have h1:=loadAt17 hl h
 unfold Oper.wpIn
 refine⟨by simp[Oper.about,ho],?_⟩
 rw[Oper.semAt_plain F _ _ (by rw[ho];intro c hc';cases hc')]
 simp only[execOp,ho,hx,h1,Sem.run_bind,Sem.run_pure,Result.andThen_ok,Result.andThen]
 exact hk _ _ hK
end
theorem row_at {w:World} {b:Nat} {cs:List Value} {T:TypeId} (h:w.heap[b]?=some (.cells cs.toArray T (0,0))):∀ j c,cs[j]?=some c→w.cell? ((⟨b,0,none⟩:Addr).add j)=some c:=World.news_of_block h
end Go.Proofs.YtakpgcmfjlbcgaaGreatDoor
namespace Go.Proofs.YtakpgcmfjlbcgaaGreatDoor
open Lib(hid)
open Go.RowKit
attribute [local go_sem] Oper.semAt_some
structure SX where
 st:ZS
 ch:Option (Nat × Pt)
 v:Value
 cs:List Value
 bx:Nat
def SX.nxt (x:SX):ZS:=match x.ch with
 | none=>x.st
 | some (i,p)=>x.st.step i p
def wtP (p:Pt):Nat:=p.x.length+p.y.length+p.a.length
def wtZ (l:List Pt):Nat:=(l.map wtP).sum
theorem wtZ_erase:∀ (l:List Pt) (i:Nat) (p:Pt),l[i]?=some p→wtZ (l.eraseIdx i)+wtP p=wtZ l
 | [],i,p,h=>by simp at h
 | q::l,0,p,h=>by
  simp only[List.getElem?_cons_zero,Option.some.injEq] at h
  subst h
  simp[wtZ]
  omega
 | q::l,i+1,p,h=>by
  have:=wtZ_erase l i p (by simpa using h)
  simp only[wtZ,List.eraseIdx_cons_succ,List.map_cons,List.sum_cons] at this ⊢
  omega
theorem binds_wt (p:Pt):(bindsZ p).length≤wtP p:=by
 unfold bindsZ wtP
 split
 ·omega
 ·simp only[List.length_append];omega
def mapOk (W:World) (M:Nat) (s:ZS):Prop:=∃ n c,n+wtZ s.left≤1000000∧MapI Tryz.prog W 9 3 M n s.B c
structure SBoxes (Bp Bb M:Nat) (v0:Value) (W:World):Prop where
 p:W.heap[Bp]?=some (.cells #[v0] 123 (0,0))
 b:W.heap[Bb]?=some (.cells #[.map (some M)] 91 (0,0))
structure SG (S Bp Bb M:Nat) (v0:Value) (l0:List Pt) (x:SX) (W:World):Prop where
 bx:SBoxes Bp Bb M v0 W
 m:mapOk W M x.st
 left:LeftOk S W x.v x.st.left
 sub:∀ p ∈ x.st.left,p ∈ l0
 few:x.st.done+x.st.left.length=l0.length
 box:∀ i p,x.ch=some (i,p)→W.heap[x.bx]?=some (.cells x.cs.toArray 126 (0,0))∧PtC W S p x.cs∧nextZ x.st=some i∧x.st.left[i]?=some p
structure ST (S Bp Bb M:Nat) (v0:Value) (l0:List Pt) (x:SX) (W:World) (x':SX) (W':World):Prop where
 st:x'.st=x.nxt
 ch:∃ i p,x'.ch=some (i,p)
 g:SG S Bp Bb M v0 l0 x' W'
 fr:Fr M x.v W W'
 new:∀ g,x'.v.ownBlock=some g→x.v.ownBlock=some g∨W.heap.size≤g
structure SE (M:Nat) (x:SX) (W W':World):Prop where
 no:nextZ x.nxt=none
 m:mapOk W' M x.nxt
 fr:Fr M x.v W W'
structure SH (S Bp Bb M:Nat) (v0:Value) (l0:List Pt) (x:SX) (W1:World) (lv:Value) (W:World):Prop where
 bx:SBoxes Bp Bb M v0 W
 m:mapOk W M x.nxt
 left:LeftOk S W lv x.nxt.left
 sub:∀ p ∈ x.nxt.left,p ∈ l0
 few:x.nxt.done+x.nxt.left.length=l0.length
 fr:Fr M x.v W1 W
 new:∀ g,lv.ownBlock=some g→x.v.ownBlock=some g∨W1.heap.size≤g
theorem mapOk.below {W W':World} {M:Nat} {s:ZS} (h:mapOk W M s) (hb:Below W.heap.size W W'):mapOk W' M s:=by
 obtain⟨n,c,h1,h2⟩:=h
 exact⟨n,c,h1,h2.below hb h2.lt⟩
theorem SBoxes.below {Bp Bb M:Nat} {v0:Value} {W W':World} (h:SBoxes Bp Bb M v0 W) (hb:Below W.heap.size W W'):SBoxes Bp Bb M v0 W':=
 ⟨(hb.block _ (heap_lt h.p)).trans h.p,(hb.block _ (heap_lt h.b)).trans h.b⟩
theorem SH.below {S Bp Bb M:Nat} {v0:Value} {l0:List Pt} {x:SX} {W1:World} {lv:Value} {W W':World} (h:SH S Bp Bb M v0 l0 x W1 lv W) (hb:Below W.heap.size W W'):SH S Bp Bb M v0 l0 x W1 lv W':=
 ⟨h.bx.below hb,h.m.below hb,h.left.below hb,h.sub,h.few,h.fr.below hb,h.new⟩
def candZ (B:Bd) (b:Bool) (p:Pt):Bool:=((p.lit.op == 1) == b) && readyZ B p
theorem pick_none {B:Bd} {b:Bool} {l:List Pt} (h:∀ (j:Nat) (p:Pt),l[j]?=some p→candZ B b p=false):pickZ B b l=none:=by
 unfold pickZ
 rw[List.findIdx?_eq_none_iff]
 intro p hp
 obtain⟨j,hj⟩:=List.mem_iff_getElem?.1 hp
 exact h j p hj
theorem pick_some {B:Bd} {b:Bool} {l:List Pt} {i:Nat} {p:Pt} (hi:l[i]?=some p) (hc:candZ B b p=true) (h:∀ (j:Nat) (p:Pt),j < i→l[j]?=some p→candZ B b p=false):pickZ B b l=some i:=by
 unfold pickZ
 rw[List.findIdx?_eq_some_iff_getElem]
 obtain⟨hlt,e⟩:=List.getElem?_eq_some_iff.1 hi
 refine⟨hlt,by rw[e];exact hc,fun j hj=>?_⟩
 have:=h j l[j] hj (List.getElem?_eq_getElem (by omega))
 unfold candZ at this
 rw[this]
 decide
theorem next_first {s:ZS} {i:Nat} (h:pickZ s.B false s.left=some i):nextZ s=some i:=by unfold nextZ;rw[h];rfl
theorem next_second {s:ZS} {i:Nat} (h0:pickZ s.B false s.left=none) (h:pickZ s.B true s.left=some i):nextZ s=some i:=by unfold nextZ;rw[h0,h];rfl
theorem next_none {s:ZS} (h0:pickZ s.B false s.left=none) (h:pickZ s.B true s.left=none):nextZ s=none:=by unfold nextZ;rw[h0,h];rfl
theorem SH.found {S Bp Bb M:Nat} {v0:Value} {l0:List Pt} {x:SX} {W1:World} {lv:Value} {W:World} (h:SH S Bp Bb M v0 l0 x W1 lv W) {i:Nat} {p:Pt} {cs:List Value} {bx:Nat} (hi:nextZ x.nxt=some i) (hp:x.nxt.left[i]?=some p) (hb:W.heap[bx]?=some (.cells cs.toArray 126 (0,0))) (hc:PtC W S p cs) :
  ST S Bp Bb M v0 l0 x W1 ⟨x.nxt,some (i,p),lv,cs,bx⟩ W:=
 ⟨rfl,⟨i,p,rfl⟩,⟨h.bx,h.m,h.left,h.sub,h.few,fun i' p' e=>by cases e;exact⟨hb,hc,hi,hp⟩⟩,h.fr,h.new⟩
theorem laid_one {α:Type} {z:Nat} {L:α→List Value→Prop} {acc:List α} {xs:List Value} (h:Laid z L acc xs) (hL:∀ x cs,L x cs→∀ u ∈ cs,u.oneCell'=true):∀ u ∈ xs,u.oneCell'=true:=by
 intro u hu
 obtain⟨q,hq⟩:=List.mem_iff_getElem?.1 hu
 have hlt:=(List.getElem?_eq_some_iff.1 hq).1
 rw[h.1] at hlt
 have hz:0 < z:=Nat.pos_of_ne_zero fun e=>by rw[e] at hlt;simp at hlt
 have hi:q / z < acc.length:=(Nat.div_lt_iff_lt_mul hz).2 hlt
 obtain⟨cs,c1,c2,c3⟩:=h.2 (q / z) _ (List.getElem?_eq_getElem hi)
 have hj:q % z < cs.length:=by rw[c1];exact Nat.mod_lt _ hz
 have h3:=c3 (q % z) _ (List.getElem?_eq_getElem hj)
 rw[Nat.mul_comm,Nat.div_add_mod,hq] at h3
 cases h3
 exact hL _ _ c2 _ (List.getElem_mem hj)
theorem clone_left {S:Nat} {W:World} {v:Value} {l:List Pt} (h:LeftOk S W v l) (hn:l.length≤1000000) :
  Calls Tryz.prog 96 #[v] W fun e w'=>∃ u,e=.returned u∧LeftOk S w' u l∧Below W.heap.size W w'∧∀ g,u.ownBlock=some g→W.heap.size≤g:=by
 obtain⟨hS,xs,h1,h2⟩:=h
 refine (clone_c 0 l.length v xs W h1 (laid_one h2 pt_one) hn).mono ?_
 rintro e w' ⟨u,rfl,h3,hb⟩
 refine⟨u,rfl,⟨Nat.le_trans hS hb.size,xs,own_base h3 (Nat.zero_le _),h2.mono fun x cs hx=>hx.cells (fun p c hc=>?_) (Nat.le_refl _)⟩,hb,fun g hg=>(h3.lt g hg).1⟩
 obtain⟨k1,k2⟩:=hidO_cell hc
 have hlt:=World.block_lt_of_cell? _ _ k2
 exact cell_hidO ((World.cell?_of_block (hb.block _ hlt)).trans k2) (fun e=>by have:=(h3.lt _ e).1;omega)
theorem scopeW {n:Nat} {P:Program} {c:Code} {Q:Exit→Act→World→Prop} {a:Act} {w:World} (h:c.wpIn Fence.wide n P (Exit.noGoto Q) a w):(Code.scope c).wpIn Fence.wide n P Q a w:=
 wpIn_wide.2 (wp_scope_straight (wpIn_wide.1 h))
def lenV:Value→Nat
 | .slice _ n _=>n
 | _=>0
structure FewP' (l:List Pt):Prop where
 n:l.length≤2000
 w:wtZ l≤1000000
def sx0 (l0:List Pt) (v0:Value) (B0:Bd):SX:=⟨⟨l0,B0,0⟩,none,v0,[],0⟩
end Go.Proofs.YtakpgcmfjlbcgaaGreatDoor
namespace Go.Proofs.YtakpgcmfjlbcgaaGreatDoor
open Lib(hid)
open Go.RowKit
theorem next_b {s:ZS} {b:Bool} {i:Nat} (h0:b=true→pickZ s.B false s.left=none) (h:pickZ s.B b s.left=some i):nextZ s=some i:=by
 cases b with
 | false=>exact next_first h
 | true=>exact next_second (h0 rfl) h
theorem mapI_obj {P:Program} {w:World} {kT eT:TypeId} {B n:Nat} {f:List UInt8→Int} {c:Nat} (h:MapI P w kT eT B n f c) {b:Nat} {cs:Array Value} {T:TypeId} {fr:Nat × Nat} (hb:w.heap[b]?=some (.cells cs T fr)):b≠B:=fun e=>by
 subst e
 obtain⟨D,⟨es,clock,h3,_⟩,_⟩:=h
 rw[h3] at hb
 cases hb
theorem row_obj {w:World} {base n z b:Nat} {e T:TypeId} {v:Value} {xs:List Value} {cs:Array Value} {fr:Nat × Nat} (h:w.ownsRow base e z v n xs) (hb:w.heap[b]?=some (.cells cs T fr)) (hT:T≠e):v.ownBlock≠some b:=by
 intro hv
 rcases h.2 with ⟨rfl,_⟩ | ⟨g,cap,cur,rfl,_,hg,_⟩
 ·cases hv
 ·obtain rfl:g=b:=by simpa[Value.ownBlock] using hv
  rw[hg] at hb
  cases hb
  exact hT rfl
theorem row_map {P:Program} {w:World} {kT eT:TypeId} {B n:Nat} {f:List UInt8→Int} {c:Nat} (h:MapI P w kT eT B n f c) {base n' z:Nat} {e:TypeId} {v:Value} {xs:List Value} (ho:w.ownsRow base e z v n' xs):some B≠v.ownBlock:=fun e=>by
 obtain⟨D,⟨es,clock,h3,_⟩,_⟩:=h
 rcases ho.2 with ⟨rfl,_⟩ | ⟨g,cap,cur,rfl,_,hg,_⟩
 ·cases e
 ·obtain rfl:B=g:=by simpa[Value.ownBlock] using e
  rw[h3] at hg
  cases hg
theorem SG.again {S Bp Bb M:Nat} {v0:Value} {l0:List Pt} {x:SX} {W5 wm w' w'':World} {i:Nat} {p:Pt} {v':Value} {xs:List Value} {n' c':Nat} (h:SG S Bp Bb M v0 l0 x W5) (hch:x.ch=some (i,p)) (hp:x.st.left[i]?=some p)
  (hb:Below W5.heap.size W5 wm) (hg:wm.grownBy w' (some M)) (hm:MapI Tryz.prog w' 9 3 M n' (addZ (x.st.done+1) x.st.B (bindsZ p)) c') (hn':n'+wtZ (x.st.left.eraseIdx i)≤1000000)
  (hS:S≤w'.heap.size) (hown:w'.ownsRow 0 126 17 x.v x.st.left.length xs) (hl:Laid 17 (PtC (hidO x.v w') S) x.st.left xs) (hv':v'.ownBlock=x.v.ownBlock)
  (ho:w''.ownsRow 0 126 17 v' (x.st.left.length - 1) (xs.take (i * 17)++xs.drop ((i+1) * 17))) (hg2:w'.grownBy w'' x.v.ownBlock):SH S Bp Bb M v0 l0 x W5 v' w'':=by
 have hi:=(List.getElem?_eq_some_iff.1 hp).1
 have hx:x.nxt=x.st.step i p:=by unfold SX.nxt;rw[hch]
 obtain⟨n0,c0,_,hm0⟩:=h.m
 have hk:∀ {b:Nat} {cs:Array Value} {T:TypeId},T≠126→W5.heap[b]?=some (.cells cs T (0,0))→w''.heap[b]?=some (.cells cs T (0,0)):=fun {b cs T} hT hbk=>by
  have h1:=(hb.block _ (heap_lt hbk)).trans hbk
  have h2:=(hg.block _ (heap_lt h1) (fun e=>mapI_obj hm0 hbk (Option.some.inj e))).trans h1
  exact (hg2.block _ (heap_lt h2) (fun e=>row_obj hown h2 hT e.symm)).trans h2
 refine⟨⟨hk (by decide) h.bx.p,hk (by decide) h.bx.b⟩,?_,?_,?_,?_,?_,?_⟩
 ·rw[hx]
  exact⟨n',c',hn',hm.kept hg2 (row_map hm hown)⟩
 ·rw[hx]
  exact LeftOk.erase hS hi hl hv' ho hg2
 ·rw[hx]
  exact fun q hq=>h.sub q (List.mem_of_mem_eraseIdx hq)
 ·rw[hx]
  have:=h.few
  show x.st.done+1+(x.st.left.eraseIdx i).length=l0.length
  rw[List.length_eraseIdx_of_lt hi]
  omega
 ·exact (((Fr.refl M x.v W5).below hb).map hg).row hg2
 ·intro g hg'
  rw[hv'] at hg'
  exact .inl hg'
theorem LeftOk.open {S:Nat} {W:World} {v:Value} {l:List Pt} (h:LeftOk S W v l) {i:Nat} {p:Pt} (hp:l[i]?=some p):∃ (g cap:Nat) (xs:List Value),v=.slice (some ⟨g,0,none⟩) l.length cap∧W.ownsRow 0 126 17 v l.length xs∧Laid 17 (PtC (hidO v W) S) l xs∧∀ u ∈ xs,u.oneCell'=true:=by
 obtain⟨_,xs,h1,h2⟩:=h
 have hi:=(List.getElem?_eq_some_iff.1 hp).1
 rcases h1.2 with ⟨rfl,h0⟩ | ⟨g,cap,cur,rfl,h3⟩
 ·omega
 ·exact⟨g,cap,xs,rfl,h1,h2,laid_one h2 pt_one⟩
def slotsQ:List (Option Tmp):=[some 41,some 42,some 43,some 44,some 45]
def factsQ (M d:Nat) (cs:List Value) (p:Pt):List (Value→World→Prop):=
 [fun v _=>v=.map (some M),fun v _=>v=.agg cs.toArray,fun v W=>SlOf W W.heap.size 1 StrC (bindsZ p) v,fun v _=>v=.int .i64 (d:Int),fun _ _=>True]
theorem factsQ_mono (M d:Nat) (cs:List Value) (p:Pt):∀ q ∈ factsQ M d cs p,∀ v w w',q v w→Below w.heap.size w w'→q v w':=by
 intro q hq v w w' h hb
 unfold factsQ at hq
 simp only[List.mem_cons,List.not_mem_nil,or_false] at hq
 rcases hq with rfl | rfl | rfl | rfl | rfl
 ·exact h
 ·exact h
 ·exact h.str hb hb.size
 ·exact h
 ·trivial
theorem wp_load17 {o:Oper} {a:Act} {w:World} {K:Act→World→Prop} {Q:Exit→Act→World→Prop} (x:Operand) (ho:o.op=Op.load 126 x) (ad:Addr) (hx:a.eval x=.pointer (some ad)) {cs:List Value} (hl:cs.length=17) (h:∀ j c,cs[j]?=some c→w.cell? (ad.add j)=some c)
  (hK:K (a.put o.dst (.agg cs.toArray)) w):o.wp Tryz.prog a w K Q:=by
 have h1:=loadAt17 hl h
 unfold Oper.wp
 simp only[execOp,ho,hx,h1,Sem.run_bind,Sem.run_pure,Result.andThen_ok,Result.andThen]
 exact hK
end Go.Proofs.YtakpgcmfjlbcgaaGreatDoor
