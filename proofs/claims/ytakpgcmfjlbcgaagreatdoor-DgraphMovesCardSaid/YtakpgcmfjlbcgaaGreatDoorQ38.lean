/- Ymv@0123, Gso@0123, Gp0@0123, Gl@0123, Gh0@0123, Ysh@0123, Yrt@0123 -/
import Derived.Test.YtakpgcmfjlbcgaaGreatDoorQ35
set_option linter.unusedSimpArgs false
set_option linter.unusedVariables false
namespace Go.Proofs.YtakpgcmfjlbcgaaGreatDoor
open Go.RowKit
theorem termsR_len (r:Ru):(termsR r).length=(subTs r.head.l).length+(r.body.map fun l=>(litTs l).length).sum:=by
 unfold termsR
 rw[List.length_append,List.length_flatMap]
theorem lit_pos (l:Lt):2≤(litTs l).length:=by
 unfold litTs
 simp only[subTs,List.length_append]
 have h1:1≤(subT l.x).length:=by rw[subT_eq];simp
 have h2:1≤(subT l.y).length:=by rw[subT_eq];simp
 omega
theorem body_len (r:Ru):r.body.length≤(termsR r).length:=by
 rw[termsR_len]
 have:∀ l:List Lt,l.length≤(l.map fun l=>(litTs l).length).sum:=by
  intro l
  induction l with
  | nil=>simp
  | cons x l ih=>simp only[List.map_cons,List.sum_cons,List.length_cons];have:=lit_pos x;omega
 have:=this r.body
 omega
theorem TyA.right {ds:List De} {r:Ru} {l:List Int} (h:TyA ds r l 0):rightP ⟨ds,[r]⟩=true:=by
 rcases h.errs with ⟨h,_⟩ | ⟨h,_⟩
 ·omega
 ·exact h
end Go.Proofs.YtakpgcmfjlbcgaaGreatDoor
namespace Go.Proofs.YtakpgcmfjlbcgaaGreatDoor
open Go.RowKit Go.Maps
def intZ (l:List Nat):List Int:=l.map fun x:Nat=>(x:Int)
theorem intZ_len (l:List Nat):(intZ l).length=l.length:=by simp[intZ]
theorem row_sorted {w:World} {base g n cap:Nat} {pre zs:List Nat} (h:w.ownsRow base 3 1 (.slice (some ⟨g,0,none⟩) n cap) n (intsG (pre++zs))) {srt:List Nat} (hl:srt.length=zs.length) (k:Nat) (os:Array Obj) :
  (Sort.grow (Sort.putRow (Value.int .i64) (Sort.ahead w k) g pre.length (intZ srt).toArray) os).ownsRow base 3 1 (.slice (some ⟨g,0,none⟩) n cap) n (intsG (pre++srt))∧w.grownBy (Sort.grow (Sort.putRow (Value.int .i64) (Sort.ahead w k) g pre.length (intZ srt).toArray) os) (some g):=by
 obtain⟨h0,h1⟩:=h
 have hlen:pre.length+zs.length=n:=by simpa[intsG] using h0
 rcases h1 with ⟨h2,_⟩ | ⟨g',cap',cur,hv,hb,hg,hn,hc,hs,ht⟩
 ·cases h2
 cases hv
 have hgl:=heap_lt hg
 have hblk:(Sort.grow (Sort.putRow (Value.int .i64) (Sort.ahead w k) g pre.length (intZ srt).toArray) os).heap[g]?=some (.cells (Sort.putCells (Value.int .i64) pre.length (intZ srt).toArray cur) 3 (0,0)):=by
  rw[Sort.heap_grow_old _ _ (by simpa using hgl)]
  unfold Sort.putRow Sort.mapBlock
  simp[Array.getElem?_modify,hg,Sort.onCells]
 refine⟨⟨by simp[intsG,hl,hlen],.inr ⟨g,cap,_,rfl,hb,hblk,hn,hc,by simp[Sort.putCells,hs],?_⟩⟩,⟨rfl,rfl,rfl,by simp,fun j hj hne=>?_⟩⟩
 ·refine List.ext_getElem? fun j=>?_
  by_cases hj:j < n
  ·have hcj:cur[j]?=(intsG (pre++zs))[j]?:=by rw[← ht,List.getElem?_take_of_lt (by omega),Array.getElem?_toList]
   rw[List.getElem?_take_of_lt (by omega),Array.getElem?_toList]
   unfold Sort.putCells
   rw[Array.getElem?_mapIdx,hcj]
   unfold intsG
   rw[List.getElem?_map,List.getElem?_map]
   by_cases hp:j < pre.length
   ·rw[List.getElem?_append_left hp,List.getElem?_append_left hp,List.getElem?_eq_getElem hp]
    simp[show ¬ pre.length≤j by omega]
   ·rw[List.getElem?_append_right (by omega),List.getElem?_append_right (by omega),List.getElem?_eq_getElem (show j - pre.length < zs.length by omega),List.getElem?_eq_getElem (show j - pre.length < srt.length by omega)]
    simp[intZ,show pre.length≤j by omega,show j < pre.length+srt.length by omega,show j - pre.length < srt.length by omega]
  ·rw[List.getElem?_eq_none (by rw[List.length_take];omega),List.getElem?_eq_none (by simp[intsG];omega)]
 ·rw[Sort.heap_grow_old _ _ (by simpa using hj)]
  unfold Sort.putRow Sort.mapBlock
  have:g≠j:=fun e=>hne (by rw[e])
  simp[Array.getElem?_modify,this]
open Go.Sort in
theorem sort_c {w:World} {base g n cap:Nat} {pre zs srt:List Nat} (h:w.ownsRow base 3 1 (.slice (some ⟨g,0,none⟩) n cap) n (intsG (pre++zs))) (hs:(intZ zs).mergeSort (fun x y=>decide (x≤y))=intZ srt) (hz:zs.length < 4611686018427387904) (c:Nat) :
  Calls Tryz.prog 59 #[.slice (some ⟨g,pre.length,none⟩) zs.length c] w fun e w'=>e=.returned (.tuple #[])∧w'.ownsRow base 3 1 (.slice (some ⟨g,0,none⟩) n cap) n (intsG (pre++srt))∧w.grownBy w' (some g):=by
 have hl:srt.length=zs.length:=by
  have:=congrArg List.length hs
  simpa[intZ] using this.symm
 obtain⟨hn,hm,hgl,hcl⟩:=own_cellG h
 have hfr:∀ j,w.frozen? ⟨g,j,none⟩=false:=by
  rcases h.2 with ⟨h2,_⟩ | ⟨g',cap',cur,hv,hb,hg,_⟩
  ·cases h2
  ·cases hv
   exact fun j=>by simp[World.frozen?,hg]
 have hH:Holds (Value.int .i64) w g pre.length (intZ zs).toArray:=fun j hj=>⟨by
  have hj':j < zs.length:=by simpa[intZ] using hj
  rw[hcl (pre.length+j) (.int .i64 (zs[j]:Int)) (by unfold intsG;rw[List.getElem?_map,List.getElem?_append_right (by omega),Nat.add_sub_cancel_left,List.getElem?_eq_getElem hj'];rfl)]
  simp[intZ,hj'],hfr _⟩
 have hC:=Tryz.slices_Sort_int g pre.length c (intZ zs) w hH hgl (by rw[intZ_len];exact hz)
 rw[intZ_len] at hC
 refine hC.mono ?_
 rintro e w' ⟨rfl,k,os,rfl⟩
 rw[hs]
 exact⟨rfl,row_sorted h hl k os⟩
theorem grp_sort {E:Ed} {n a:Nat} {ms:List Nat} (hn:ms.Nodup) (hm:∀ x,x ∈ ms ↔ x ∈ grpG E n a):(intZ ms).mergeSort (fun x y=>decide (x≤y))=intZ (grpG E n a):=by
 have hp:ms.Perm (grpG E n a):=(List.perm_ext_iff_of_nodup hn (grp_nodup E n a)).2 hm
 have hp2:((intZ ms).mergeSort (fun x y=>decide (x≤y))).Perm (intZ (grpG E n a)):=(List.mergeSort_perm _ _).trans (hp.map _)
 refine hp2.eq_of_pairwise (le:=fun x y:Int=>x≤y) (fun x y _ _ h1 h2=>Int.le_antisymm h1 h2) ?_ ?_
 ·have:=List.pairwise_mergeSort (le:=fun x y:Int=>decide (x≤y)) (fun x y z h1 h2=>by simp at h1 h2 ⊢;omega) (fun x y=>by simp;omega) (intZ ms)
  exact this.imp fun h=>by simpa using h
 ·unfold intZ
  rw[List.pairwise_map]
  exact (grp_rise E n a).imp fun h=>by omega
end Go.Proofs.YtakpgcmfjlbcgaaGreatDoor
namespace Go.Proofs.YtakpgcmfjlbcgaaGreatDoor
open Go.RowKit Go.Maps
def hdrs (g:Nat):Nat→List (List Nat)→List Value
 | _,[]=>[]
 | s,L::Ls=>.slice (some ⟨g,s,none⟩) L.length L.length::hdrs g (s+L.length) Ls
theorem hdrs_snoc (g:Nat) (L:List Nat):∀ (Ls:List (List Nat)) (s:Nat),hdrs g s (Ls++[L])=hdrs g s Ls++[.slice (some ⟨g,s+Ls.flatten.length,none⟩) L.length L.length]
 | [],s=>by simp[hdrs]
 | K::Ls,s=>by
  rw[List.cons_append,hdrs,hdrs,hdrs_snoc g L Ls,List.flatten_cons,List.length_append,Nat.add_assoc]
  rfl
theorem hdrs_at (g:Nat):∀ (Ls:List (List Nat)) (s i:Nat) (L:List Nat),Ls[i]?=some L→∃ o,(hdrs g s Ls)[i]?=some (.slice (some ⟨g,o,none⟩) L.length L.length)∧s≤o∧∀ (j x:Nat),L[j]?=some x→Ls.flatten[o - s+j]?=some x
 | [],_,_,_,h=>by simp at h
 | K::Ls,s,0,L,h=>by
  obtain rfl:K=L:=by simpa using h
  refine⟨s,rfl,Nat.le_refl _,fun j x hx=>?_⟩
  rw[Nat.sub_self,Nat.zero_add,List.flatten_cons,List.getElem?_append_left (List.getElem?_eq_some_iff.1 hx).1]
  exact hx
 | K::Ls,s,i+1,L,h=>by
  obtain⟨o,h1,h2,h3⟩:=hdrs_at g Ls (s+K.length) i L (by simpa using h)
  refine⟨o,by simpa[hdrs] using h1,by omega,fun j x hx=>?_⟩
  have:=h3 j x hx
  rw[List.flatten_cons,List.getElem?_append_right (by omega),show o - s+j - K.length=o - (s+K.length)+j by omega]
  exact this
theorem own_ty {w:World} {base e z n j:Nat} {v:Value} {xs:List Value} (h:w.ownsRow base e z v n xs) {cur:Array Value} {T:TypeId} {fz:Nat × Nat} (hj:w.heap[j]?=some (.cells cur T fz)) (hT:T≠e):v.ownBlock≠some j:=fun k=>by
 rcases h.2 with ⟨h0,_⟩ | ⟨g,cap,cur',h1,_,h3,_⟩
 ·rw[h0] at k;cases k
 ·rw[h1] at k
  obtain rfl:g=j:=Option.some.inj k
  rw[h3] at hj
  cases hj
  exact hT rfl
theorem own_map {w:World} {base e z n j:Nat} {v:Value} {xs:List Value} (h:w.ownsRow base e z v n xs) {l:List Nat} {m:Nat} (hj:SetG w j m l):v.ownBlock≠some j:=fun k=>by
 obtain⟨es,cl,hm,_⟩:=hj
 rcases h.2 with ⟨h0,_⟩ | ⟨g,cap,cur',h1,_,h3,_⟩
 ·rw[h0] at k;cases k
 ·rw[h1] at k
  obtain rfl:g=j:=Option.some.inj k
  rw[h3] at hm
  cases hm
theorem own_cellsG {w:World} {base e z n j:Nat} {v:Value} {xs:List Value} (h:w.ownsRow base e z v n xs) (hj:v.ownBlock=some j):∃ cur,w.heap[j]?=some (.cells cur e (0,0))∧base≤j:=by
 rcases h.2 with ⟨h0,_⟩ | ⟨g,cap,cur',h1,hb,h3,_⟩
 ·rw[h0] at hj;cases hj
 ·rw[h1] at hj
  obtain rfl:g=j:=Option.some.inj hj
  exact⟨cur',h3,hb⟩
structure GpI (w:World) (G:Array Value) (M g n:Nat) (D:List Nat) (Ls:List (List Nat)) (cur:List Nat) (gv:Value) (wr:World):Prop where
 b:Below w.heap.size w wr
 gr:wr.heap[w.heap.size]?=some (.cells G 62 (0,0))
 Mb:w.heap.size+1≤M
 dn:SetG wr M D.length D
 list:wr.ownsRow (w.heap.size+1) 3 1 (.slice (some ⟨g,0,none⟩) (Ls.flatten++cur).length n) (Ls.flatten++cur).length (intsG (Ls.flatten++cur))
 own:wr.ownsRow (w.heap.size+1) 39 1 gv Ls.length (hdrs g 0 Ls)
section
variable {w wr W:World} {G:Array Value} {M g n:Nat} {D:List Nat} {Ls:List (List Nat)} {cur:List Nat} {gv gv':Value}
theorem GpI.below (h:GpI w G M g n D Ls cur gv wr) (hb:Below wr.heap.size wr W):GpI w G M g n D Ls cur gv W:=
 ⟨h.b.trans (hb.mono h.b.size),(hb.block _ (heap_lt h.gr)).trans h.gr,h.Mb,h.dn.below hb h.dn.lt,ownB h.list hb,ownB h.own hb⟩
theorem GpI.gb (h:GpI w G M g n D Ls cur gv wr):∃ c,wr.heap[g]?=some (.cells c 3 (0,0))∧w.heap.size+1≤g:=own_cellsG h.list rfl
theorem kept_ne {row:Option Nat} {v:Value} (h:∀ j,row=some j→v.ownBlock≠some j):v.ownBlock=none∨v.ownBlock≠row:=by
 cases hv:v.ownBlock with
 | none=>exact .inl rfl
 | some j=>exact .inr fun e=>h j e.symm hv
theorem GpI.add (h:GpI w G M g n D Ls cur gv wr) {y:Nat} (hs:SetG W M (D.length+1) (D++[y])) (hg:wr.grownBy W (some M)):GpI w G M g n (D++[y]) Ls cur gv W:=by
 have h0:=h.Mb
 refine⟨h.b.trans (belowG hg (fun r e=>by have:=Option.some.inj e;omega) h.b.size),(hg.block _ (heap_lt h.gr) (fun e=>by have:=Option.some.inj e;omega)).trans h.gr,h0,by simpa using hs,h.list.kept hg (kept_ne fun j e=>?_),h.own.kept hg (kept_ne fun j e=>?_)⟩
 ·cases e;exact own_map h.list h.dn
 ·cases e;exact own_map h.own h.dn
theorem GpI.turn (h:GpI w G M g n D Ls cur gv wr) {cur':List Nat} (ho:W.ownsRow (w.heap.size+1) 3 1 (.slice (some ⟨g,0,none⟩) (Ls.flatten++cur').length n) (Ls.flatten++cur').length (intsG (Ls.flatten++cur'))) (hg:wr.grownBy W (some g)):GpI w G M g n D Ls cur' gv W:=by
 obtain⟨c,h1,h2⟩:=h.gb
 have hM:M≠g:=fun e=>by
  have:=own_map h.list (e ▸ h.dn)
  exact this rfl
 refine⟨h.b.trans (belowG hg (fun r e=>by have:=Option.some.inj e;omega) h.b.size),(hg.block _ (heap_lt h.gr) (fun e=>by have:=Option.some.inj e;omega)).trans h.gr,h.Mb,h.dn.kept hg (fun e=>hM (Option.some.inj e)),ho,h.own.kept hg (kept_ne fun j e=>?_)⟩
 cases e
 exact own_ty h.own h1 (by decide)
theorem GpI.push (h:GpI w G M g n D Ls cur gv wr) (ho:W.ownsRow (w.heap.size+1) 39 1 gv' (Ls.length+1) (hdrs g 0 Ls++[.slice (some ⟨g,Ls.flatten.length,none⟩) cur.length cur.length])) (hg:wr.grownBy W gv.ownBlock):GpI w G M g n D (Ls++[cur]) [] gv' W:=by
 have hne:∀ j,gv.ownBlock=some j→w.heap.size+1≤j:=fun j hj=>(h.own.lt j hj).1
 have hf:(Ls++[cur]).flatten++[]=Ls.flatten++cur:=by simp
 refine⟨h.b.trans (belowG hg (fun r e=>by have:=hne r e;omega) h.b.size),(hg.block _ (heap_lt h.gr) (fun e=>by have:=hne _ e.symm;omega)).trans h.gr,h.Mb,h.dn.kept hg (fun e=>own_map h.own h.dn e.symm),?_,?_⟩
 ·rw[hf]
  exact h.list.kept hg (kept_ne fun j e e2=>by
   obtain⟨c,h1,_⟩:=own_cellsG h.list e2
   exact own_ty h.own h1 (by decide) e)
 ·rw[hdrs_snoc,Nat.zero_add]
  simpa using ho
theorem GpI.low (h:GpI w G M g n D Ls cur gv wr) {N:Nat} (hb:Below N wr W) (hM:M < N) (hg:g < N) (hv:∀ j,gv.ownBlock=some j→j < N) (hw:w.heap.size < N):GpI w G M g n D Ls cur gv W:=
 ⟨h.b.trans (hb.mono (by omega)),(hb.block _ hw).trans h.gr,h.Mb,h.dn.same (hb.block _ hM),own_blk h.list (fun j _ _ e=>hb.block j (by cases e;exact hg)),own_blk h.own (fun j _ _ e=>hb.block j (hv j e))⟩
end
end Go.Proofs.YtakpgcmfjlbcgaaGreatDoor
namespace Go.Proofs.YtakpgcmfjlbcgaaGreatDoor
theorem Fine.less {p:Pg} (h:Fine p) {l:List Ru} (hl:l.length≤p.rules.length) (hm:∀ r ∈ l,r ∈ p.rules):Fine ⟨p.decls,l⟩:=
 ⟨rightP_less h.right hl hm,h.twice,fun r hr=>h.ty r (hm r hr),fun r hr=>h.safe r (hm r hr)⟩
end Go.Proofs.YtakpgcmfjlbcgaaGreatDoor
namespace Go.Proofs.YtakpgcmfjlbcgaaGreatDoor
open Go.RowKit
def eG:ByteArray:=⟨#[101]⟩
def pG:ByteArray:=⟨#[112]⟩
def xG:ByteArray:=⟨#[120]⟩
def aG:ByteArray:=⟨#[97]⟩
def eD7:De:=⟨eG,[aG],[1],false,false,0⟩
def pD7:De:=⟨pG,[aG],[1],false,false,0⟩
def two7:List De:=[eD7,pD7]
def lA7:Lt:=⟨1,⟨eG,[vT xG]⟩,zT,zT⟩
def lN7:Lt:=⟨2,⟨pG,[vT xG]⟩,zT,zT⟩
def rA7:Ru:=⟨⟨pG,[vT xG]⟩,[lA7],0⟩
def rB7:Ru:=⟨⟨pG,[vT xG]⟩,[lA7,lN7],7⟩
def pA7:Pg:=⟨two7,[rA7]⟩
def pB7:Pg:=⟨two7,[rB7]⟩
theorem a7_right:rightP pA7=true:=by decide +kernel
theorem b7_right:rightP pB7=true:=by decide +kernel
theorem a7_ord:ordE rA7=0:=by decide +kernel
theorem b7_ord:ordE rB7=0:=by decide +kernel
theorem a7_chk:chkA two7 (atomsR rA7)=0:=by decide +kernel
theorem b7_chk:chkA two7 (atomsR rB7)=0:=by decide +kernel
theorem find7_e:findY eG two7=some 0:=by decide +kernel
theorem find7_p:findY pG two7=some 1:=by decide +kernel
theorem twice7:NoTw two7 two7.length:=by
 intro i d hi hd
 match i,hd with
 | 0,hd=>cases hd;exact find7_e
 | 1,hd=>cases hd;exact find7_p
 | i+2,_=>exact absurd hi (by show ¬ i+2 < 2;omega)
theorem plc7_e (l:List Tm):plc two7 ⟨eG,l⟩=l.zip [1]:=by
 unfold plc
 rw[find7_e]
 rfl
theorem plc7_p (l:List Tm):plc two7 ⟨pG,l⟩=l.zip [1]:=by
 unfold plc
 rw[find7_p]
 rfl
theorem a7_base:baseL two7 rA7=[(vT xG,1),(vT xG,1),(zT,1),(zT,1)]:=by
 have h1:plc two7 ⟨pG,[vT xG]⟩=[(vT xG,1)]:=plc7_p _
 have h2:plc two7 ⟨eG,[vT xG]⟩=[(vT xG,1)]:=plc7_e _
 unfold baseL plcs
 rw[show atomsR rA7=[⟨pG,[vT xG]⟩,⟨eG,[vT xG]⟩] from rfl,show aggT rA7.body=[zT,zT] from rfl,show (termsR rA7).flatMap (fun t=>t.l)=[] by simp[termsR,rA7,lA7,vT,zT,subTs,subT,litTs]]
 simp[h1,h2,nums]
theorem b7_base:baseL two7 rB7=[(vT xG,1),(vT xG,1),(vT xG,1),(zT,1),(zT,1),(zT,1),(zT,1)]:=by
 have h1:plc two7 ⟨pG,[vT xG]⟩=[(vT xG,1)]:=plc7_p _
 have h2:plc two7 ⟨eG,[vT xG]⟩=[(vT xG,1)]:=plc7_e _
 unfold baseL plcs
 rw[show atomsR rB7=[⟨pG,[vT xG]⟩,⟨eG,[vT xG]⟩,⟨pG,[vT xG]⟩] from rfl,show aggT rB7.body=[zT,zT,zT,zT] from rfl,show (termsR rB7).flatMap (fun t=>t.l)=[] by simp[termsR,rB7,lA7,lN7,vT,zT,subTs,subT,litTs]]
 simp[h1,h2,nums]
theorem fits7 {r:Ru} (hb:∀ x ∈ baseL two7 r,x=(vT xG,(1:Int))∨x=(zT,1)) (hx:(vT xG,(1:Int)) ∈ baseL two7 r) (hp:prsL r.body=[]) (ht:∀ t ∈ termsR r,t=vT xG∨t=zT):Fits two7 r:=by
 have hd:∀ {s:List UInt8} {k:Int},DerR two7 r s k→s=[120]∧k=1:=by
  intro s k h
  unfold DerR at h
  rw[hp] at h
  cases h with
  | @base t k h1 h2=>
   rcases hb _ h1 with e | e <;> cases e
   ·exact⟨rfl,rfl⟩
   ·exact absurd h2 (by decide)
  | lc h1=>cases h1
  | lv h1=>cases h1
  | rc h1=>cases h1
  | rv h1=>cases h1
 refine⟨⟨fun s k k' h1 h2=>?_,fun t k h1 h2=>?_,fun x y h=>by rw[hp] at h;cases h⟩,fun t htm hv=>?_⟩
 ·rw[(hd h1).2,(hd h2).2]
 ·rcases hb _ h1 with e | e <;> cases e
  ·exact absurd rfl h2
  ·exact .inl rfl
 ·rcases ht t htm with rfl | rfl
  ·exact⟨1,by decide,Der.base (t:=vT xG) hx rfl⟩
  ·exact absurd hv (by decide)
theorem a7_fits:Fits two7 rA7:=by
 refine fits7 (fun x hx=>?_) (by rw[a7_base];simp) rfl (fun t ht=>?_)
 ·rw[a7_base] at hx
  simp only[List.mem_cons,List.not_mem_nil,or_false] at hx
  rcases hx with h | h | h | h <;> simp[h]
 ·have e:termsR rA7=[vT xG,zT,zT,vT xG]:=by simp[termsR,rA7,lA7,vT,zT,subTs,subT,litTs]
  rw[e] at ht
  simp only[List.mem_cons,List.not_mem_nil,or_false] at ht
  rcases ht with h | h | h | h <;> simp[h]
theorem b7_fits:Fits two7 rB7:=by
 refine fits7 (fun x hx=>?_) (by rw[b7_base];simp) rfl (fun t ht=>?_)
 ·rw[b7_base] at hx
  simp only[List.mem_cons,List.not_mem_nil,or_false] at hx
  rcases hx with h | h | h | h | h | h | h <;> simp[h]
 ·have e:termsR rB7=[vT xG,zT,zT,vT xG,zT,zT,vT xG]:=by simp[termsR,rB7,lA7,lN7,vT,zT,subTs,subT,litTs]
  rw[e] at ht
  simp only[List.mem_cons,List.not_mem_nil,or_false] at ht
  rcases ht with h | h | h | h | h | h | h <;> simp[h]
theorem cha7 {r:Ru} (hr:rightP ⟨two7,[r]⟩=true) (hc:chkA two7 (atomsR r)=0) (hf:Fits two7 r) {ln k:Int} (h:ChA ⟨two7,[r]⟩ ln k):k=0:=by
 cases h with
 | tree h=>rw[hr] at h;cases h
 | twice _ h1 h2=>exact absurd (twice7 _ _ (List.getElem?_eq_some_iff.1 h1).1 h1) h2
 | @rule j x l e _ _ h1 _ h2 h3=>
  have hx:x=r:=by have:=List.mem_of_getElem? h1;simpa using this
  subst hx
  cases h2 with
  | tree h=>rw[hr] at h;cases h
  | atom _ h=>exact absurd hc h
  | none _ _ h=>exact absurd hf h
  | some=>rfl
 | ok=>rfl
theorem dsc7 {r:Ru} (hr:rightP ⟨two7,[r]⟩=true) (hc:chkA two7 (atomsR r)=0) (hf:Fits two7 r) (ho:ordE r=0) {ln k:Int} (h:DsC (ChA ⟨two7,[r]⟩) [r] ln k):k=0:=by
 cases h with
 | typ h1 _=>exact cha7 hr hc hf h1
 | bad _ h1 _ h2=>
  have:=List.mem_of_getElem? h1
  rw[List.mem_singleton] at this
  subst this
  exact absurd ho h2
 | ok=>rfl
theorem atoms7_a:atomsG two7 rA7.body=[(1,0)]:=by decide +kernel
theorem atoms7_b:atomsG two7 rB7.body=[(1,0),(2,1)]:=by decide +kernel
theorem head7_a:headG two7 rA7=1:=by decide +kernel
theorem head7_b:headG two7 rB7=1:=by decide +kernel
theorem edges7_a:edgesG pA7=[(1,0)]:=by decide +kernel
theorem rch7 {a b:Nat} (h:Rch [(1,0)] a b):b=a∨(a=1∧b=0):=by
 induction h with
 | refl=>exact .inl rfl
 | step e _ ih=>
  simp only[List.mem_singleton,Prod.mk.injEq] at e
  obtain⟨rfl,rfl⟩:=e
  rcases ih with rfl | ⟨h,_⟩
  ·exact .inr ⟨rfl,rfl⟩
  ·cases h
theorem mut7 {a b:Nat}:Mut [(1,0)] a b ↔ b=a:=by
 constructor
 ·rintro⟨h1,h2⟩
  rcases rch7 h1 with h | ⟨h,h'⟩
  ·exact h
  ·rcases rch7 h2 with k | ⟨k,_⟩
   ·exact k.symm
   ·omega
 ·rintro rfl;exact Mut.refl _ _
theorem grp7 {a:Nat} (ha:a < 2):grpG [(1,0)] 2 a=[a]:=by
 have e:mutB [(1,0)] a=fun b=>b == a:=by
  funext b
  rw[Bool.eq_iff_iff,mutB_iff,mut7]
  simp
 unfold grpG
 rw[e]
 match a,ha with
 | 0,_=>rfl
 | 1,_=>rfl
theorem grpR7:GrpR [(1,0)] 2 [] [[0],[1]]:=by
 have g0:=grp7 (a:=0) (by decide)
 have g1:=grp7 (a:=1) (by decide)
 have h2:GrpR [(1,0)] 2 ([]++[0]++[1]) []:=.stop (pickG_none fun b hb hn=>hn.1 (by match b,hb with | 0,_=>simp | 1,_=>simp))
 have p1:pickG [(1,0)] 2 ([]++[0])=some 1:=by
  refine pickG_some (by decide) ⟨by simp,fun b hb=>?_⟩ fun b hb hn=>hn.1 ?_
  ·rcases rch7 hb with h | ⟨_,h⟩
   ·exact .inr (mut7.2 h)
   ·exact .inl (by simp[h])
  ·obtain rfl:b=0:=by omega
   simp
 have h1:GrpR [(1,0)] 2 ([]++[0]) [[1]]:=by
  have:=GrpR.more (E:=[(1,0)]) (n:=2) (D:=[]++[0]) (a:=1) (L:=[]) p1 (by rw[g1];exact h2)
  rwa [g1] at this
 have p0:pickG [(1,0)] 2 []=some 0:=by
  refine pickG_some (by decide) ⟨by simp,fun b hb=>?_⟩ fun b hb=>by omega
  rcases rch7 hb with h | ⟨h,_⟩
  ·exact .inr (mut7.2 h)
  ·cases h
 have:=GrpR.more (E:=[(1,0)]) (n:=2) (D:=[]) (a:=0) (L:=[[1]]) p0 (by rw[g0];exact h1)
 rwa [g0] at this
theorem groups7_a {L:List (List Nat)} {ln k:Int} (h:GrA (ChA pA7) pA7 L ln k):L=[[0],[1]]∧ln=0∧k=0:=by
 cases h with
 | chk h1 h2=>exact absurd (dsc7 a7_right a7_chk a7_fits a7_ord h1) h2
 | lay _ h1 _ h2=>
  have:=List.mem_of_getElem? h1
  rw[show pA7.rules=[rA7] from rfl,List.mem_singleton] at this
  subst this
  refine absurd (layE_plain (fun ⟨x,hx,h3,_⟩=>?_) (fun ⟨x,hx,_,h3⟩=>?_)) h2
  ·rw[show pA7.decls=two7 from rfl,atoms7_a,List.mem_singleton] at hx
   rw[hx] at h3
   exact h3 rfl
  ·rw[show pA7.decls=two7 from rfl,atoms7_a,List.mem_singleton] at hx
   rw[hx,edges7_a,show pA7.decls=two7 from rfl,head7_a,mut7] at h3
   cases h3
 | ok _ _ h3=>
  rw[edges7_a] at h3
  exact⟨grpR_one h3 grpR7,rfl,rfl⟩
theorem groups7_b {L:List (List Nat)} {ln k:Int} (h:GrA (ChA pB7) pB7 L ln k):L=[]∧ln=7∧k=70:=by
 have hs:StratG (edgesG pB7) two7 rB7:=⟨(2,1),by rw[atoms7_b];simp,by decide,by rw[head7_b];exact Mut.refl _ _⟩
 have hl:=layE_strat hs
 cases h with
 | chk h1 h2=>exact absurd (dsc7 b7_right b7_chk b7_fits b7_ord h1) h2
 | lay _ h1 _ h2=>
  have:=List.mem_of_getElem? h1
  rw[show pB7.rules=[rB7] from rfl,List.mem_singleton] at this
  subst this
  exact⟨rfl,rfl,hl⟩
 | ok _ h2 _=>
  have:=h2 0 rB7 rfl
  rw[show pB7.decls=two7 from rfl,hl] at this
  cases this
end Go.Proofs.YtakpgcmfjlbcgaaGreatDoor
namespace Go.Proofs.YtakpgcmfjlbcgaaGreatDoor
open Go.RowKit
theorem drewB {n:Nat} {w w':World} (h:Below n w.drew w'):Below n w w':=⟨h.os,h.tape,h.output,h.size,h.block⟩
end Go.Proofs.YtakpgcmfjlbcgaaGreatDoor
namespace Go.Proofs.YtakpgcmfjlbcgaaGreatDoor
open Go.RowKit
theorem Kp.trans {T:Nat→Prop} {a b c:World} (h:Kp T a b) (k:Kp T b c):Kp T a c:=
 ⟨k.os.trans h.os,k.tape.trans h.tape,k.output.trans h.output,Nat.le_trans h.size k.size,fun i hi ht=>(k.block i (Nat.lt_of_lt_of_le hi h.size) ht).trans (h.block i hi ht)⟩
theorem Kp.below {T:Nat→Prop} {a b:World} {B:Nat} (h:Kp T a b) (hB:B≤a.heap.size) (hT:∀ i,i < B→¬ T i):Below B a b:=⟨h.os,h.tape,h.output,h.size,fun i hi=>h.block i (Nat.lt_of_lt_of_le hi hB) (hT i hi)⟩
structure TyS (B g:Nat) (w:World) (vs:List ByteArray) (vv:Value) (ts:List Int):Prop where
 vars:SlOf w B 1 StrC vs vv
 own:w.ownsRow B 3 1 (.slice (some ⟨g,0,none⟩) ts.length ts.length) ts.length (ts.map (Value.int .i64))
 len:ts.length=vs.length
 base:B≤w.heap.size
theorem TyS.row {B g:Nat} {w:World} {vs:List ByteArray} {vv:Value} {ts:List Int} (h:TyS B g w vs vv ts):B≤g∧g < w.heap.size:=⟨(own_at h.own).2.2.2,(own_at h.own).2.2.1⟩
theorem TyS.cell {B g:Nat} {w:World} {vs:List ByteArray} {vv:Value} {ts:List Int} (h:TyS B g w vs vv ts) {i:Nat} {v:Int} (hi:ts[i]?=some v):w.cell? ⟨g,i,none⟩=some (.int .i64 v):=
 (own_at h.own).1 i _ (by rw[List.getElem?_map,hi];rfl)
theorem TyS.kept {B g:Nat} {w w':World} {vs:List ByteArray} {vv:Value} {ts:List Int} (h:TyS B g w vs vv ts) (hb:Below w.heap.size w w'):TyS B g w' vs vv ts:=
 ⟨SlOf.str h.vars (hb.mono h.base) (Nat.le_refl _),own_below h.own hb,h.len,Nat.le_trans h.base hb.size⟩
theorem putAt_one {xs:List Value} {i:Nat} {c:Value} (h:i < xs.length):putAt xs i [c]=xs.set i c:=by
 refine List.ext_getElem? fun j=>?_
 rw[putAt_get (by simp;omega),List.getElem?_set]
 by_cases e:i=j
 ·subst e
  rw[if_pos (by simp),if_pos rfl,if_pos h]
  simp
 ·rw[if_neg (by simp;omega),if_neg e]
theorem TyS.set {B g:Nat} {w:World} {vs:List ByteArray} {vv:Value} {ts:List Int} (h:TyS B g w vs vv ts) {i:Nat} (hi:i < ts.length) (k:Int):TyS B g (w.setCell ⟨g,i,none⟩ (.int .i64 k)) vs vv (ts.set i k)∧Kp (fun b=>b=g) w (w.setCell ⟨g,i,none⟩ (.int .i64 k)):=by
 have hp:=own_put h.own (k:=i) (news:=[.int .i64 k]) (by simp;omega)
 rw[putAt_one (by simpa using hi),← List.map_set] at hp
 have hg:=(setC_grown (b:=g) [.int .i64 k] i w).1
 have hk:Kp (fun b=>b=g) w (w.setCell ⟨g,i,none⟩ (.int .i64 k)):=(Kp.refl _ _).grown hg (fun b e=>by cases e;exact .inr rfl)
 have hr:=h.row
 refine⟨⟨SlOf.str h.vars (hk.below h.base fun i hi e=>by omega) (Nat.le_refl _),by rw[List.length_set];exact hp,by rw[List.length_set];exact h.len,Nat.le_trans h.base hk.size⟩,hk⟩
end Go.Proofs.YtakpgcmfjlbcgaaGreatDoor
