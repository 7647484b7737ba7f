/- Gmh@1, Gpc@1, Gon0@1, Gon@1 -/
import Derived.Test.YtakpgcmfjlbcgaaGreatDoorQ47
import Derived.Test.YtakpgcmfjlbcgaaGreatDoorQ50
import Derived.Test.YtakpgcmfjlbcgaaGreatDoorQ49
set_option linter.unusedSimpArgs false
set_option linter.unusedVariables false
namespace Go.Proofs.YtakpgcmfjlbcgaaGreatDoor
open Lib(hid)
open Go.RowKit Go.Maps
def edgeB (E:Ed) (i j:Nat):Bool:=decide ((i,j) ∈ E)
set_option maxRecDepth 100000 in
set_option maxHeartbeats 8000000 in
theorem hangs_c (p:Pg) (cs:List Value) (a b:Int) (e1 e2 e3 e4 e5 x y:Addr) (w:World) (hp:PgC w w.heap.size p cs) (hf:FewP p) (hz:∀ r ∈ p.rules,FewR r∧FewP' (partsZ r)) (E:EnvC e1 e2 e3 e4 e5 x y w) (hn:p.decls.length≤1000) (he:(edgesG p).length≤1000000) :
  Calls Tryz.prog 11 #[.agg cs.toArray,.int .i64 a,.int .i64 b] w fun e w'=>PlR w.heap.size w p a b (edgeB (edgesG p) a.toNat b.toNat) e w':=by
 obtain⟨p1,q1,r1,s1,rfl,_,_⟩:=hp.look
 obtain⟨W1,hW1⟩:∃ W1,w.alloc (.cells #[.slice p1 p.decls.length q1,.slice r1 p.rules.length s1] 25)=W1:=⟨_,rfl⟩
 have b1:Below w.heap.size w W1:=by rw[← hW1];exact (Below.refl _ _).alloc (Nat.le_refl _) _
 have HG:=hid (graphWith_c p _ a b e1 e2 e3 e4 e5 x y W1 ((hp.below b1).more b1.size) hf hz (E.below b1) hn he)
 have HB1:=hid b1
 have HW1:=hid hW1
 clear hp hf hz E b1 hW1
 go_enter Tryz.func11,Tryz.ntmps11
 go_wp2_with fail
 rw[HW1.out]
 refine HG.out.mono ?_
 intro e w2 hR
 cases hR with
 | @bad ln k _ h1 h2 b2=>
  have HQ:=hid (And.intro h1 h2)
  have B2:=hid (HB1.out.trans (b2.mono HB1.out.size))
  have hk':(k != 0)=true:=by simpa using h2
  clear h1 h2 b2
  go_wp2_with fail
  go_ret2
  exact .bad HQ.out.1 HQ.out.2 (B2.out.trans ((Below.refl _ _).alloc B2.out.size _))
 | arg h1 h2 b2=>
  have HQ:=hid (And.intro h1 h2)
  have B2:=hid (HB1.out.trans (b2.mono HB1.out.size))
  clear h1 h2 b2
  go_wp2_with fail
  go_ret2
  exact .arg HQ.out.1 HQ.out.2 (B2.out.trans ((Below.refl _ _).alloc B2.out.size _))
 | @good ln v1 v2 bs1 bs2 _ h1 h2 g1 g2 b2=>
  have HQ:=hid (And.intro h1 h2)
  have B2:=hid (HB1.out.trans (b2.mono HB1.out.size))
  rw[Bool.and_eq_true] at h2
  obtain⟨i,rfl,hi⟩:=place_nat h2.1
  obtain⟨j,rfl,hj⟩:=place_nat h2.2
  simp only[Int.toNat_natCast]
  obtain⟨o2,c2,rfl,_⟩:=SlOf.uni g2.sl
  obtain⟨aa,c,M,m,ms,hv,hal,ca,sa,hma,hla,hfa⟩:=g1.at_ hi
  subst hv
  have bA:∀ C,Below w2.heap.size w2 (w2.alloc C):=fun C=>(Below.refl _ _).alloc (Nat.le_refl _) _
  have hba:(aa.add i).block < w2.heap.size:=by rw[addBlock];exact hal
  have cA:∀ C,(w2.alloc C).cell? (aa.add i)=some (.map (some M)):=fun C=>((bA C).cell hba).trans ca
  have hbb:(aa.add i).block < w2.heap.size+1:=by omega
  have hi0:(0:Int)≤(i:Int):=by omega
  have hi1:(i:Int) < (p.decls.length:Int):=by omega
  have HA:=hid (fun C=>hasG_c M m j ms (w2.alloc C) (sa.below (bA C) sa.lt) (by omega))
  have BA:=hid (fun C=>B2.out.trans ((bA C).mono B2.out.size))
  have Hf:Hid (hasB ms j=edgeB (edgesG p) i j):=hid (hasB_eq (by unfold edgeB;rw[hfa j,decide_eq_true_iff]))
  clear h1 h2 g1 g2 b2 bA ca sa hla hfa hma hal
  go_wp2_with fail
  refine (HA.out _).mono ?_
  rintro e3 w3 ⟨rfl,b3⟩
  have B3:=hid ((BA.out _).trans (b3.mono (BA.out _).size))
  rw[Hf.out]
  clear b3
  go_wp2_with fail
  go_ret2
  exact .good HQ.out.1 HQ.out.2 B3.out
set_option maxRecDepth 100000 in
set_option maxHeartbeats 8000000 in
theorem place7_c (L:List (List Int)) (v:Value) (a:Int) (i0:Nat) (g0:List Int) (w:World) (h:SlOf w w.heap.size 1 (IntsC w w.heap.size) L v) (hL:L.length≤100000) (hS:∀ g ∈ L,g.length≤100000) (hi:L[i0]?=some g0) (ha:a ∈ g0) (hn:∀ j g',j < i0→L[j]?=some g'→a ∉ g') :
  Calls Tryz.prog 20 #[v,.int .i64 a] w fun e w'=>e=.returned (.int .i64 (i0:Int))∧Below w.heap.size w w':=by
 have HS0:=hid h
 have HSl:=hid hS
 have HI:=hid hi
 have HA:=hid ha
 have HN:=hid hn
 have hil:=(List.getElem?_eq_some_iff.1 hi).1
 obtain⟨o,c,rfl,_⟩:=SlOf.uni h
 clear h hS hi ha hn
 go_enter Tryz.func20,Tryz.ntmps20
 go_wp2
 go_loopw [5] (fun iv wr=>∃ i:Nat,i≤i0∧iv=.int .i64 (i:Int)∧Hid (Below w.heap.size w wr)) (fun iv _=>L.length - (intOf iv).toNat)
 case atStart=>exact⟨0,Nat.zero_le _,rfl,hid (Below.refl _ _)⟩
 case round=>
  obtain⟨i,hi,rfl,HB⟩:=hrel
  have hlt:i < L.length:=by omega
  have hlt':(i:Int) < (L.length:Int):=by omega
  have hi0:(0:Int)≤(i:Int):=by omega
  obtain⟨g,hg⟩:∃ g,L[i]?=some g:=⟨_,List.getElem?_eq_getElem hlt⟩
  obtain⟨p,c',og,kg,hv,hp,hc,hs⟩:=ints_at HS0.out hg
  simp only[Value.slice.injEq,true_and] at hv
  obtain⟨rfl,rfl⟩:=hv
  have hgl:=HSl.out g (List.mem_of_getElem? hg)
  obtain⟨og',kg',eg,_,_,SG⟩:=SlOf.open hs
  cases eg
  have HC:=hid hc
  have HG:=hid hg
  have hpl:(p.add i).block < w.heap.size:=by rw[addBlock];exact hp
  clear hc hg hs
  go_wp2
  go_loopw [6] (fun kv wq=>∃ k:Nat,k≤g.length∧kv=.int .i64 (k:Int)∧Hid (∀ x ∈ g.take k,x≠a)∧Hid (Below w.heap.size w wq)) (fun kv _=>g.length - (intOf kv).toNat)
  case atStart=>exact⟨0,Nat.zero_le _,rfl,hid (fun x hx=>by simp at hx),HB⟩
  case round=>
   obtain⟨k,hk,rfl,HT,HBq⟩:=hrel
   have hc:=(HBq.out.cell hpl).trans HC.out
   have hpq:=Nat.lt_of_lt_of_le hpl HBq.out.size
   have hk0:(0:Int)≤(k:Int):=by omega
   by_cases hkl:k < g.length
   ·have hkl':(k:Int) < (g.length:Int):=by omega
    obtain⟨x,hx⟩:∃ x,g[k]?=some x:=⟨_,List.getElem?_eq_getElem hkl⟩
    obtain⟨q,rfl,hq,_,d0⟩:=int_at SG HBq.out hx
    have hql:(q.add k).block < wr.heap.size:=by rw[addBlock];have:=HBq.out.size;omega
    by_cases hxa:x=a
    ·have hii:i=i0:=by
      rcases Nat.lt_or_ge i i0 with h | h
      ·exact absurd (by rw[← hxa];exact List.mem_of_getElem? hx) (HN.out i g h HG.out)
      ·omega
     have Hii:=hid hii
     have hxa':(x == a)=true:=by simp[hxa]
     clear hx hii
     subst hxa
     go_wp2
     go_ret
     exact⟨by rw[Hii.out];rfl,HBq.out⟩
    ·have hxa':(x == a)=false:=by simp[hxa]
     have HT2:Hid (∀ y ∈ g.take (k+1),y≠a):=hid (fun y hy=>by
      rw[List.take_add_one,hx] at hy
      rcases List.mem_append.1 hy with hy | hy
      ·exact HT.out y hy
      ·rw[show y=x by simpa using hy]
       exact hxa)
     clear hx
     go_wp2
     go_roundw
     case rel=>exact⟨k+1,hkl,by go_num,HT2,HBq⟩
     case measure=>simp[intOf];omega
   ·have hkl':¬ (k:Int) < (g.length:Int):=by omega
    have hii:i+1≤i0:=by
     rcases Nat.lt_or_ge i i0 with h | h
     ·omega
     ·exfalso
      obtain rfl:i=i0:=by omega
      have e:=HG.out.symm.trans HI.out
      cases e
      exact HT.out a (by rw[List.take_of_length_le (by omega)];exact HA.out) rfl
    go_wp2
    go_roundw
    case rel=>exact⟨i+1,hii,by go_num,HBq⟩
    case measure=>simp[intOf];omega
def metL (N:List Nat) (m t:Nat):List Value:=(List.range m).map fun j=>.bool (decide (j ∈ N.take t))
theorem met_zero (N:List Nat) (m:Nat):metL N m 0=List.replicate m (.bool false):=by
 unfold metL
 refine List.ext_getElem? fun j=>?_
 rw[List.getElem?_map,List.getElem?_replicate]
 by_cases hj:j < m
 ·rw[List.getElem?_range hj,if_pos hj];simp
 ·rw[List.getElem?_eq_none (by simpa using hj),if_neg hj];rfl
theorem met_at {N:List Nat} {m i x:Nat} (hx:x < m) (hn:x ∉ N.take i):(metL N m i)[x]?=some (.bool false):=by
 unfold metL
 rw[List.getElem?_map,List.getElem?_range hx]
 simp[hn]
theorem met_set {N:List Nat} {m i x:Nat} (h:N[i]?=some x):(metL N m i).set x (.bool true)=metL N m (i+1):=by
 refine List.ext_getElem? fun j=>?_
 unfold metL
 rw[List.getElem?_set,List.getElem?_map,List.getElem?_map,List.take_add_one,h,List.length_map,List.length_range]
 by_cases hj:j < m
 ·rw[List.getElem?_range hj]
  by_cases hx:x=j
  ·subst hx
   simp[hj]
  ·rw[if_neg hx]
   simp[Ne.symm hx]
 ·have h0:(List.range m)[j]?=none:=List.getElem?_eq_none (by simpa using hj)
  rw[h0]
  by_cases hx:x=j
  ·subst hx
   simp[hj]
  ·rw[if_neg hx]
   rfl
theorem fresh_at {N:List Nat} (hn:N.Nodup) {i x:Nat} (h:N[i]?=some x):x ∉ N.take i:=by
 intro hm
 obtain⟨j,hj⟩:=List.mem_iff_getElem?.1 hm
 rw[List.getElem?_take] at hj
 split at hj
 ·rename_i hji
  obtain⟨hl,_⟩:=List.getElem?_eq_some_iff.1 hj
  have:=(List.getElem?_inj hl hn).1 (hj.trans h.symm)
  omega
 ·cases hj
def offG (L:List (List Nat)) (i:Nat):Nat:=(L.take i).flatten.length
theorem offG_zero (L:List (List Nat)):offG L 0=0:=rfl
theorem offG_succ {L:List (List Nat)} {i:Nat} {g:List Nat} (h:L[i]?=some g):offG L (i+1)=offG L i+g.length:=by
 unfold offG
 rw[List.take_add_one,h]
 simp
theorem offG_all (L:List (List Nat)):offG L L.length=L.flatten.length:=by unfold offG;rw[List.take_length]
theorem flat_at7:∀ {L:List (List Nat)} {i k:Nat} {g:List Nat} {x:Nat},L[i]?=some g→g[k]?=some x→L.flatten[offG L i+k]?=some x
 | [],_,_,_,_,h,_=>by simp at h
 | K::L,0,k,g,x,h,hx=>by
  obtain rfl:K=g:=by simpa using h
  rw[offG_zero,Nat.zero_add,List.flatten_cons,List.getElem?_append_left (List.getElem?_eq_some_iff.1 hx).1]
  exact hx
 | K::L,i+1,k,g,x,h,hx=>by
  have:=flat_at7 (L:=L) (i:=i) (by simpa using h) hx
  have e:offG (K::L) (i+1)=K.length+offG L i:=by unfold offG;simp
  rw[e,List.flatten_cons,List.getElem?_append_right (by omega),show K.length+offG L i+k - K.length=offG L i+k by omega]
  exact this
theorem nI_len (g:List Nat):(nI g).length=g.length:=List.length_map ..
theorem nI_mem {g:List Nat} {a:Nat}:(a:Int) ∈ nI g ↔ a ∈ g:=by
 unfold nI
 rw[List.mem_map]
 exact⟨fun ⟨x,h1,h2⟩=>by rwa [show a=x by omega],fun h=>⟨a,h,rfl⟩⟩
theorem info_bl:(Tryz.prog.info? 4).map (fun i=>(i.zero,i.size,i.bytes))=some (some (.bool false),1,1):=by kernel_rfl
theorem gra_dsc {p:Pg} {L:List (List Nat)} {ln:Int} (h:GrA (ChA p) p L ln 0):∃ ln,DsC (ChA p) p.rules ln 0:=by
 generalize hz:(0:Int)=z at h
 cases h with
 | chk _ h=>exact absurd hz.symm h
 | lay _ _ _ h=>exact absurd hz.symm h
 | ok h=>exact⟨_,h⟩
set_option maxRecDepth 100000 in
set_option maxHeartbeats 32000000 in
theorem dgraphOnce_c (p:Pg) (a b:Int) (e1 e2 e3 e4 e5 x y:Addr) (w:World) (cs:List Value) (hp:PgC w w.heap.size p cs) (_:-9223372036854775808≤a) (_:a≤9223372036854775807) (_:-9223372036854775808≤b) (_:b≤9223372036854775807) (E:EnvC e1 e2 e3 e4 e5 x y w) :
  Calls Tryz.prog 5 #[.agg cs.toArray,.int .i64 a,.int .i64 b] w fun e w'=>e=.returned (.bool true)∧Below w.heap.size w w':=by
 have HP:=hid hp
 have HE:=hid E
 have hb0:∀ C:Obj,Below w.heap.size w (w.alloc C):=fun C=>(Below.refl _ _).alloc (Nat.le_refl _) _
 have HB0:=hid hb0
 have HH:=hid (fun (W:World) (hb:Below w.heap.size w W)=>shown7_c e1 e2 e3 e4 e5 x y W (E.below hb))
 have HS:=hid (fun (W:World) (hb:Below w.heap.size w W)=>small_c p W cs ((hp.below hb).more hb.size))
 obtain⟨p1,q1,r1,s1,rfl,_,_⟩:=hp.look
 obtain⟨y0,hy,hy0,hy1,hy2⟩:=info_parts info_bl
 clear hp E hb0
 go_enter Tryz.func5,Tryz.ntmps5
 go_wp2_with fail
 refine (HH.out _ (HB0.out _)).mono ?_
 rintro e1 w1 ⟨rfl,b1⟩
 have R1:=hid ((b1.block w.heap.size (by simp)).trans (World.alloc_heap_new w _))
 have B1:=hid ((HB0.out _).trans (b1.mono (by simp)))
 have x0:=row_cells R1.out 0
 have x1:=row_cells R1.out 1
 simp at x0 x1
 have hz1:w.heap.size < w1.heap.size:=heap_lt R1.out
 clear b1
 go_wp2_with fail
 refine (HS.out _ B1.out).mono ?_
 rintro e2 w2 ⟨rfl,b2⟩
 have R2:=hid ((b2.block w.heap.size hz1).trans R1.out)
 have B2:=hid (B1.out.trans (b2.mono B1.out.size))
 have z0:=row_cells R2.out 0
 have z1:=row_cells R2.out 1
 simp at z0 z1
 have hz2:w.heap.size < w2.heap.size:=heap_lt R2.out
 clear b2 x0 x1
 unfold smallI
 cases hs:smallP p with
 | false=>
  clear hs
  go_wp2
  go_ret
  exact⟨rfl,B2.out⟩
 | true=>
 have HL:=hid (lil_small hs)
 have HM:=hid (fun (i j:Int) (W:World) (hb:Below w.heap.size w W)=>mutual_c p _ i j _ _ _ _ _ _ _ W ((HP.out.below hb).more hb.size) HL.out.few HL.out.rule (HE.out.below hb) HL.out.n HL.out.e)
 have HHg:=hid (fun (i j:Int) (W:World) (hb:Below w.heap.size w W)=>hangs_c p _ i j _ _ _ _ _ _ _ W ((HP.out.below hb).more hb.size) HL.out.few HL.out.rule (HE.out.below hb) HL.out.n HL.out.e)
 have HG:=hid (fun (W:World) (hb:Below w.heap.size w W)=>groups7_c p _ _ _ _ _ _ _ _ W ((HP.out.below hb).more hb.size) HL.out.few HL.out.rule (HE.out.below hb) HL.out.n HL.out.e)
 clear hs
 go_wp2_with fail
 refine (HG.out _ B2.out).mono ?_
 intro e3 w3 hR
 obtain⟨hA,b3⟩:=gsR_one HL.out.n hR
 obtain⟨hGA,hsl⟩:=hA
 rename_i ln k L gv
 have R3:=hid ((b3.block w.heap.size hz2).trans R2.out)
 have B3:=hid (B2.out.trans (b3.mono B2.out.size))
 have HGA:=hid hGA
 have HSl:=hid hsl
 obtain⟨og,cg,rfl,hcl,hcm,_⟩:=SlOf.uni hsl
 unfold maxLen at hcm
 rw[List.length_map] at hcl HSl ⊢
 clear hR hGA hsl b3 z0 z1
 have z0:=row_cells R3.out 0
 have z1:=row_cells R3.out 1
 simp at z0 z1
 have hz3:w.heap.size < w3.heap.size:=heap_lt R3.out
 by_cases hk:k=0
 ·subst hk
  have hok:=gra_ok HGA.out
  have HO:=hid (oncG_of edgesG_lt hok.2.2)
  obtain⟨m,hm⟩:∃ m,p.decls.length=m:=⟨_,rfl⟩
  have hm2:m≤1000:=by rw[← hm];exact HL.out.n
  have hLm:L.length≤m:=by rw[← hm];exact HO.out.few
  have Hm:=hid hm
  have HD0:Hid (∃ ln,DsC (ChA p) p.rules ln 0):=hid (gra_dsc HGA.out)
  have Kb:Hid (y0.bytes * m≤281474976710656):=hid (by rw[hy2];omega)
  have Km:Hid (m≤maxLen):=hid (by unfold maxLen;omega)
  obtain⟨B,hBe⟩:∃ B,w3.heap.size=B:=⟨_,rfl⟩
  have HBe:=hid hBe
  rw[hm] at z0
  obtain⟨N,hN⟩:∃ N,L.flatten=N:=⟨_,rfl⟩
  have HN:=hid hN
  have HNl:Hid (N.length=m):=hid (by rw[← hN,HO.out.len,hm])
  have HNn:Hid N.Nodup:=hid (by rw[← hN];exact HO.out.nd)
  have HNm:Hid (∀ a ∈ N,a < m):=hid (fun a ha=>by rw[← hm];exact (HO.out.mem a).1 (by rw[hN];exact ha))
  clear hok hm hN hy2
  go_wp2_with (first | (at_make;refine wpList_make_full _ rfl _ _ 38 rfl B 4 y0 _ 1 Tryz.underlying38 hy hy0 hy1 .i64 .i64 _ _ m rfl rfl rfl rfl Kb.out Km.out (by rw[hBe];exact Nat.le_refl _) ?_;rw[hBe];intro w4 hown4 hg4;have O4:=hid hown4;have G4:=hid hg4;clear hown4 hg4))
  have HS4:Hid (w4.ownsRow B 4 1 (.slice (some ⟨B,0,none⟩) m m) m (metL N m 0)):=hid (by
   have h1:=O4.out
   rw[Nat.mul_one] at h1
   have h2:(madeCells (Value.bool false).cells m).toList=metL N m 0:=by
    rw[met_zero]
    exact toList_madeCells_one _ _
   rw[h2] at h1
   exact h1)
  have hb4:Below B w3 w4:=(Below.refl _ _).grown G4.out (by rw[hBe];exact Nat.le_refl _) (fun q hq=>by cases hq)
  have hB4:B≤w4.heap.size:=by have:=hb4.size;omega
  have Hb4:=hid hb4
  have hwB:w.heap.size < B:=by omega
  have HK:Hid (∀ W,Below B w4 W→Below w.heap.size w W):=hid fun W hb=>B3.out.trans ((Hb4.out.trans hb).mono (by omega))
  have HR4:Hid (∀ W,Below B w4 W→W.heap[w.heap.size]?=some (.cells #[.slice p1 p.decls.length q1,.slice r1 p.rules.length s1] 25 (0,0))):=hid fun W hb=>(((Hb4.out.trans hb).block _ hwB).trans R3.out)
  have HS3B:Hid (∀ W,Below B w4 W→Below w3.heap.size w3 W):=hid fun W hb=>by rw[HBe.out];exact Hb4.out.trans hb
  clear hb4 hBe O4 G4 z0 z1
  go_loopw [12,13] (fun nv iv wr=>∃ i t:Nat,i≤L.length∧iv=.int .i64 (i:Int)∧nv=.int .i64 (t:Int)∧t≤m∧Hid (t=offG L i)∧Hid (wr.ownsRow B 4 1 (.slice (some ⟨B,0,none⟩) m m) m (metL N m t))∧Hid (Below B w4 wr)) (fun _ iv _=>L.length - (intOf iv).toNat)
  case atStart=>exact⟨0,0,Nat.zero_le _,rfl,rfl,Nat.zero_le _,hid rfl,HS4,hid (Below.refl _ _)⟩
  case round=>
   obtain⟨i,t,hi,rfl,rfl,htm,HT,HOw,HB⟩:=hrel
   by_cases hlt:i < L.length
   ·have hlt':(i:Int) < (L.length:Int):=by omega
    have hi0:(0:Int)≤(i:Int):=by omega
    obtain⟨g,hg⟩:∃ g,L[i]?=some g:=⟨_,List.getElem?_eq_getElem hlt⟩
    obtain⟨pg,c',og',kg,hv,hpg,hc,hs⟩:=ints_at HSl.out (i:=i) (g:=nI g) (by rw[List.getElem?_map,hg];rfl)
    rw[List.length_map,Value.slice.injEq] at hv
    obtain⟨hv1,_,hv2⟩:=hv
    subst hv1
    subst hv2
    rw[nI_len] at hc hs
    have HSG:=hid hs
    have hgm:g.length≤m:=by rw[← Hm.out];exact HO.out.small g (List.mem_of_getElem? hg)
    have HGr:=hid (HO.out.rise g (List.mem_of_getElem? hg))
    have HC:=hid hc
    have HGi:=hid hg
    have hpl:(pg.add i).block < w3.heap.size:=by rw[addBlock];exact hpg
    clear hc hs hg
    have hcc:=((HS3B.out _ HB.out).cell hpl).trans HC.out
    have hpw:=Nat.lt_of_lt_of_le hpl (HS3B.out _ HB.out).size
    go_wp2
    clear hcc hpw
    go_loopw [12,14] (fun nv kv wq=>∃ k t:Nat,k≤g.length∧kv=.int .i64 (k:Int)∧nv=.int .i64 (t:Int)∧t≤m∧Hid (t=offG L i+k)∧Hid (wq.ownsRow B 4 1 (.slice (some ⟨B,0,none⟩) m m) m (metL N m t))∧Hid (Below B w4 wq)) (fun _ kv _=>g.length - (intOf kv).toNat)
    case atStart=>exact⟨0,t,Nat.zero_le _,rfl,rfl,htm,HT,HOw,HB⟩
    case round=>
     clear HT HOw HB htm
     obtain⟨k,t,hk,rfl,rfl,htm,HT,HOw,HB⟩:=hrel
     have hcc:=((HS3B.out _ HB.out).cell hpl).trans HC.out
     have hpw:=Nat.lt_of_lt_of_le hpl (HS3B.out _ HB.out).size
     have hk0:(0:Int)≤(k:Int):=by omega
     by_cases hkl:k < g.length
     ·have hkl':(k:Int) < (g.length:Int):=by omega
      obtain⟨c,hc⟩:∃ x,g[k]?=some x:=⟨_,List.getElem?_eq_getElem hkl⟩
      obtain⟨o9,k9,e9,_,_,SG⟩:=SlOf.open HSG.out
      rw[nI_len] at e9
      cases e9
      obtain⟨q,rfl,hq,_,d0⟩:=int_at SG (HS3B.out _ HB.out) (k:=k) (t:=(c:Int)) (by unfold nI;rw[List.getElem?_map,hc];rfl)
      have hql:(q.add k).block < wr.heap.size:=by rw[addBlock];have:=(HS3B.out _ HB.out).size;omega
      have hNt:N[t]?=some c:=by rw[HT.out,← HN.out];exact flat_at7 HGi.out hc
      have hcm:c < m:=HNm.out c (List.mem_of_getElem? hNt)
      have htl:t < m:=by have:=(List.getElem?_eq_some_iff.1 hNt).1;have:=HNl.out;omega
      obtain⟨hca,hfz,hgw,_⟩:=own_at HOw.out
      have cm:=hca c _ (met_at hcm (fresh_at HNn.out hNt))
      have fm:=hfz c
      have hst:=HOw.out.stored c (.bool true)
      rw[met_set hNt] at hst
      have HO5:=hid hst.1
      have HB5:Hid (Below B w4 (wr.setCell ⟨B,c,none⟩ (.bool true))):=hid (HB.out.setCell (p:=⟨B,c,none⟩) (Nat.le_refl _) _)
      have hc0:¬ (c:Int) < 0:=by omega
      have hc00:(0:Int)≤(c:Int):=by omega
      have hcm1:(c:Int) < (m:Int):=by omega
      have hcm3:¬ (c:Int) ≥ (m:Int):=by omega
      have HT2:Hid (t+1=offG L i+(k+1)):=hid (by have:=HT.out;omega)
      by_cases hk1:k=0
      ·subst hk1
       have e0:q.add 0=q:=by unfold Addr.add;rw[if_pos rfl]
       rw[e0] at d0 hql
       clear hc hca hfz hst hNt HT e0
       go_wp2
       go_roundw
       case rel=>exact⟨1,t+1,hkl,by first | rfl | go_num,by go_num,htl,HT2,HO5,HB5⟩
       case measure=>simp[intOf];omega
      ·obtain⟨k1,hkk⟩:∃ k1,k1+1=k:=⟨k - 1,by omega⟩
       obtain⟨c1,hc1⟩:∃ x,g[k1]?=some x:=⟨_,List.getElem?_eq_getElem (by omega)⟩
       obtain⟨q',eq',_,_,d1⟩:=int_at SG (HS3B.out _ HB.out) (k:=k1) (t:=(c1:Int)) (by unfold nI;rw[List.getElem?_map,hc1];rfl)
       cases eq'
       have hql1:(q.add k1).block < wr.heap.size:=by rw[addBlock];have:=(HS3B.out _ HB.out).size;omega
       have hlt1:c1 < c:=by
        have:=List.pairwise_iff_getElem.1 HGr.out k1 k (by omega) hkl (by omega)
        rw[(List.getElem?_eq_some_iff.1 hc1).2,(List.getElem?_eq_some_iff.1 hc).2] at this
        exact this
       have hlt1':¬ (c1:Int) ≥ (c:Int):=by omega
       have hkp:(0:Int) < (k:Int):=by omega
       have hkp':(k:Int) > 0:=by omega
       have hkm:(k:Int) - 1=(k1:Int):=by omega
       have wk1:IntKind.i64.wrap (k1:Int)=(k1:Int):=by rw[IntKind.wrap_i64];omega
       have hk10:(0:Int)≤(k1:Int):=by omega
       have hk1l:(k1:Int) < (g.length:Int):=by omega
       clear hc hc1 hca hfz hst hNt HT hkk hk1
       go_wp2
       go_roundw
       case rel=>exact⟨k+1,t+1,hkl,by go_num,by go_num,htl,HT2,HO5,HB5⟩
       case measure=>simp[intOf];omega
     ·have hkl':¬ (k:Int) < (g.length:Int):=by omega
      have HT2:Hid (t=offG L (i+1)):=hid (by rw[offG_succ HGi.out,HT.out];omega)
      go_wp2
      go_roundw
      case rel=>exact⟨i+1,t,hlt,by go_num,rfl,htm,HT2,HOw,HB⟩
      case measure=>simp[intOf];omega
   ·have hlt':¬ (i:Int) < (L.length:Int):=by omega
    obtain rfl:i=L.length:=by omega
    have htm':t=m:=by rw[HT.out,offG_all,HN.out];exact HNl.out
    subst htm'
    have hrr:=HR4.out _ HB.out
    have x0:=row_cells hrr 0
    have x1:=row_cells hrr 1
    simp at x0 x1
    have hzr:=heap_lt hrr
    have Br:=hid (HK.out _ HB.out)
    clear HT HOw hrr
    go_wp2_with fail
    refine (HHg.out a b _ Br.out).mono ?_
    intro e5 w5 hR
    obtain⟨ln5,k5,hd5,rfl,b5⟩:=plR_one hR
    obtain⟨ln0,hD0⟩:=HD0.out
    obtain⟨_,rfl⟩:=ch_same hD0 hd5
    have B5w:Hid (Below B w4 w5):=hid (HB.out.trans (b5.mono (by have:=HB.out.size;omega)))
    have hrr:=HR4.out _ B5w.out
    have y0':=row_cells hrr 0
    have y1':=row_cells hrr 1
    simp at y0' y1'
    have hzr5:=heap_lt hrr
    have B5:=hid (HK.out _ B5w.out)
    obtain⟨X,hX⟩:∃ X,plF p.decls.length 0 a b (edgeB (edgesG p) a.toNat b.toNat)=X:=⟨_,rfl⟩
    obtain⟨n1,hn1⟩:∃ n1,plE p.decls.length 0 a b=n1:=⟨_,rfl⟩
    have HX:=hid hX
    have HN1:=hid hn1
    rw[hX,hn1]
    clear hR hd5 b5 hX hn1 hrr x0 x1 hzr
    go_wp2_with fail
    refine (HM.out a b _ B5.out).mono ?_
    intro e6 w6 hR
    obtain⟨ln6,k6,hd6,rfl,b6⟩:=plR_one hR
    obtain⟨_,rfl⟩:=ch_same hD0 hd6
    have B6w:Hid (Below B w4 w6):=hid (B5w.out.trans (b6.mono (by have:=B5w.out.size;omega)))
    have B6:=hid (HK.out _ B6w.out)
    obtain⟨Y,hY⟩:∃ X,plF p.decls.length 0 a b (mutB (edgesG p) a.toNat b.toNat)=X:=⟨_,rfl⟩
    have HY:=hid hY
    rw[hY,HN1.out]
    clear hR hd6 b6 hY y0' y1' hzr5
    by_cases hpl:(placeB a p.decls.length && placeB b p.decls.length)=true
    ·have hpl2:=hpl
     rw[Bool.and_eq_true] at hpl2
     obtain⟨ia,rfl,hia⟩:=place_nat hpl2.1
     obtain⟨ib,rfl,hib⟩:=place_nat hpl2.2
     have hn1:n1=0:=by rw[← HN1.out];unfold plE;rw[if_pos rfl,if_pos hpl]
     subst hn1
     have hXe:X=edgeB (edgesG p) ia ib:=by rw[← HX.out];unfold plF;rw[hpl];simp
     have hYe:Y=mutB (edgesG p) ia ib:=by rw[← HY.out];unfold plF;rw[hpl];simp
     obtain⟨ga,hga1,hga2,hga3⟩:=HO.out.place hia
     obtain⟨gb,hgb1,hgb2,hgb3⟩:=HO.out.place hib
     have hnot:∀ {c i0:Nat},(∀ j g',j < i0→L[j]?=some g'→c ∉ g')→∀ j g',j < i0→(L.map nI)[j]?=some g'→(c:Int) ∉ g':=by
      intro c i0 h j g' hj hg'
      rw[List.getElem?_map] at hg'
      obtain⟨g,hg,rfl⟩:=Option.map_eq_some_iff.1 hg'
      rw[nI_mem]
      exact h j g hj hg
     have hsm:∀ g ∈ L.map nI,g.length≤100000:=by
      intro g hg
      obtain⟨g',hg',rfl⟩:=List.mem_map.1 hg
      rw[nI_len]
      have:=HO.out.small g' hg'
      have:=HL.out.n
      omega
     have HPa:=hid (fun (W:World) (hb:Below B w4 W)=>place7_c (L.map nI) _ (ia:Int) (inG L ia) (nI ga) W (SlOf.ints HSl.out (HS3B.out W hb)) (by rw[List.length_map];omega) hsm (by rw[List.getElem?_map,hga1];rfl) (nI_mem.2 hga2) (hnot hga3))
     have HPb:=hid (fun (W:World) (hb:Below B w4 W)=>place7_c (L.map nI) _ (ib:Int) (inG L ib) (nI gb) W (SlOf.ints HSl.out (HS3B.out W hb)) (by rw[List.length_map];omega) hsm (by rw[List.getElem?_map,hgb1];rfl) (nI_mem.2 hgb2) (hnot hgb3))
     have hXle:X=true→inG L ib≤inG L ia:=fun h=>HO.out.hang ia ib hia hib (Rch.one (by rw[hXe] at h;unfold edgeB at h;exact of_decide_eq_true h))
     have hYeq:Y=decide (inG L ia=inG L ib):=by
      rw[hYe]
      refine Bool.eq_iff_iff.2 ?_
      rw[mutB_iff,decide_eq_true_eq]
      exact HO.out.same ia ib hia hib
     obtain⟨na,hna⟩:∃ n,inG L ia=n:=⟨_,rfl⟩
     obtain⟨nb,hnb⟩:∃ n,inG L ib=n:=⟨_,rfl⟩
     rw[hna] at HPa hXle hYeq
     rw[hnb] at HPb hXle hYeq
     have g1:¬ (ia:Int) < 0:=by omega
     have g2:¬ (ib:Int) < 0:=by omega
     rw[Hm.out] at hia hib
     have g3:¬ (ia:Int) ≥ (t:Int):=by omega
     have g4:¬ (ib:Int) ≥ (t:Int):=by omega
     clear hpl hpl2 hXe hYe hga1 hga2 hga3 hgb1 hgb2 hgb3 hnot hsm hna hnb HX HY HN1
     have HYq:=hid hYeq
     have HXq:=hid hXle
     clear hYeq hXle
     cases X with
     | false=>
      go_wp2_with fail
      refine (HPa.out _ B6w.out).mono ?_
      rintro e7 w7 ⟨rfl,b7⟩
      have B7w:Hid (Below B w4 w7):=hid (B6w.out.trans (b7.mono (by have:=B6w.out.size;omega)))
      clear b7
      go_wp2_with fail
      refine (HPb.out _ B7w.out).mono ?_
      rintro e8 w8 ⟨rfl,b8⟩
      have B8w:Hid (Below B w4 w8):=hid (B7w.out.trans (b8.mono (by have:=B7w.out.size;omega)))
      clear b8
      by_cases hab:na=nb
      ·subst hab
       have hY1:Y=true:=by rw[HYq.out];simp
       subst hY1
       go_wp2
       go_ret
       exact⟨rfl,HK.out _ B8w.out⟩
      ·have hY1:Y=false:=by rw[HYq.out];simp[hab]
       have hn2:((na:Int) == (nb:Int))=false:=by rw[beq_eq_false_iff_ne];omega
       have hn3:¬ (na:Int)=(nb:Int):=by omega
       subst hY1
       go_wp2
       go_ret
       exact⟨rfl,HK.out _ B8w.out⟩
     | true=>
      have hle:(nb:Int)≤(na:Int):=by have:=HXq.out rfl;omega
      go_wp2_with fail
      refine (HPb.out _ B6w.out).mono ?_
      rintro e7 w7 ⟨rfl,b7⟩
      have B7w:Hid (Below B w4 w7):=hid (B6w.out.trans (b7.mono (by have:=B6w.out.size;omega)))
      clear b7
      go_wp2_with fail
      refine (HPa.out _ B7w.out).mono ?_
      rintro e8 w8 ⟨rfl,b8⟩
      have B8w:Hid (Below B w4 w8):=hid (B7w.out.trans (b8.mono (by have:=B7w.out.size;omega)))
      clear b8
      go_wp2_with fail
      refine (HPa.out _ B8w.out).mono ?_
      rintro e9 w9 ⟨rfl,b9⟩
      have B9w:Hid (Below B w4 w9):=hid (B8w.out.trans (b9.mono (by have:=B8w.out.size;omega)))
      clear b9
      go_wp2_with fail
      refine (HPb.out _ B9w.out).mono ?_
      rintro e10 w10 ⟨rfl,b10⟩
      have B10w:Hid (Below B w4 w10):=hid (B9w.out.trans (b10.mono (by have:=B9w.out.size;omega)))
      clear b10
      by_cases hab:na=nb
      ·subst hab
       have hY1:Y=true:=by rw[HYq.out];simp
       subst hY1
       go_wp2
       go_ret
       exact⟨rfl,HK.out _ B10w.out⟩
      ·have hY1:Y=false:=by rw[HYq.out];simp[hab]
       have hn2:((na:Int) == (nb:Int))=false:=by rw[beq_eq_false_iff_ne];omega
       have hn3:¬ (na:Int)=(nb:Int):=by omega
       subst hY1
       go_wp2
       go_ret
       exact⟨rfl,HK.out _ B10w.out⟩
    ·have hn1:n1=2:=by rw[← HN1.out];unfold plE;rw[if_pos rfl,if_neg hpl]
     subst hn1
     have hcase:a < 0∨b < 0∨(t:Int)≤a∨(t:Int)≤b:=by
      refine Classical.byContradiction fun h=>hpl ?_
      have e:=Hm.out
      unfold placeB
      simp only[Bool.and_eq_true,decide_eq_true_eq]
      omega
     clear hpl HX HY HN1
     by_cases h1:a < 0
     ·go_wp2
      go_ret
      exact⟨rfl,HK.out _ B6w.out⟩
     ·by_cases h2:b < 0
      ·go_wp2
       go_ret
       exact⟨rfl,HK.out _ B6w.out⟩
      ·by_cases h3:a ≥ (t:Int)
       ·go_wp2
        go_ret
        exact⟨rfl,HK.out _ B6w.out⟩
       ·have h4:b ≥ (t:Int):=by omega
        go_wp2
        go_ret
        exact⟨rfl,HK.out _ B6w.out⟩
 ·have hk':(k != 0)=true:=by simpa using hk
  have hL0:=gra_no HGA.out hk
  subst hL0
  go_wp2
  go_ret
  exact⟨rfl,B3.out⟩
end Go.Proofs.YtakpgcmfjlbcgaaGreatDoor
