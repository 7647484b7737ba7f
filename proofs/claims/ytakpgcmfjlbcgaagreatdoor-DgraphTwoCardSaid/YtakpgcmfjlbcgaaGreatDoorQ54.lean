/- Gtw0@0, Gtw@0 -/
import Derived.Test.YtakpgcmfjlbcgaaGreatDoorQ50
import Derived.Test.YtakpgcmfjlbcgaaGreatDoorQ49
set_option linter.unusedSimpArgs false
set_option linter.unusedVariables false
namespace Go.Proofs.YtakpgcmfjlbcgaaGreatDoor
open Lib(hid)
theorem plE_swap (n:Nat) (k a b:Int):plE n k a b=plE n k b a:=by
 unfold plE
 rw[Bool.and_comm]
theorem mutB_comm (E:Ed) (a b:Nat):mutB E a b=mutB E b a:=by
 refine Bool.eq_iff_iff.2 ?_
 rw[mutB_iff,mutB_iff]
 exact⟨Mut.symm,Mut.symm⟩
noncomputable def muF (p:Pg) (k a b:Int):Bool:=plF p.decls.length k a b (mutB (edgesG p) a.toNat b.toNat)
theorem muF_swap (p:Pg) (k a b:Int):muF p k a b=muF p k b a:=by
 unfold muF plF
 rw[mutB_comm,Bool.and_comm (placeB a _)]
theorem muF_trans {p:Pg} {k a b c:Int} (h:muF p k a b=true) (h':muF p k b c=true):muF p k a c=true:=by
 unfold muF plF at *
 simp only[Bool.and_eq_true,decide_eq_true_eq,mutB_iff] at *
 exact⟨⟨h.1.1,h.1.2.1,h'.1.2.2⟩,h.2.trans h'.2⟩
theorem muF_self {p:Pg} {k a:Int} (h:plE p.decls.length k a a=0):muF p k a a=true:=by
 unfold muF plF
 unfold plE at h
 split at h
 ·rename_i hk
  split at h
  ·rename_i hp
   rw[hp,decide_eq_true hk]
   exact mutB_iff.2 (Mut.refl _ _)
  ·cases h
 ·rename_i hk;exact absurd h hk
theorem muF_bad {p:Pg} {k a b:Int} (h:plE p.decls.length k a b≠0):muF p k a b=false:=by
 unfold muF plF
 unfold plE at h
 split at h
 ·rename_i hk
  split at h
  ·exact absurd rfl h
  ·rename_i hp
   rw[Bool.eq_false_iff.2 hp]
   simp
 ·rename_i hk
  rw[decide_eq_false hk]
  rfl
open Go.RowKit
theorem mu_one {n0:Nat} {w w':World} {p:Pg} {a b:Int} {e:Ending} (h:PlR n0 w p a b (mutB (edgesG p) a.toNat b.toNat) e w'):∃ ln k,DsC (ChA p) p.rules ln k∧e=.returned (.tuple #[.bool (muF p k a b),.int .i64 (plE p.decls.length k a b)])∧Below n0 w w':=plR_one h
theorem mu_next {n0:Nat} {w w':World} {p:Pg} {a b:Int} {e:Ending} {ln k:Int} (hd:DsC (ChA p) p.rules ln k) (h:PlR n0 w p a b (mutB (edgesG p) a.toNat b.toNat) e w'):e=.returned (.tuple #[.bool (muF p k a b),.int .i64 (plE p.decls.length k a b)])∧Below n0 w w':=by
 obtain⟨ln',k',h1,h2,h3⟩:=mu_one h
 obtain⟨_,rfl⟩:=ch_same hd h1
 exact⟨h2,h3⟩
set_option maxRecDepth 100000 in
set_option maxHeartbeats 16000000 in
theorem dgraphTwo_c (p:Pg) (a b c:Int) (e1 e2 e3 e4 e5 x y:Addr) (w:World) (cs:List Value) (hp:PgC w w.heap.size p cs) (_:-9223372036854775808≤a) (_:a≤9223372036854775807) (_:-9223372036854775808≤b) (_:b≤9223372036854775807) (_:-9223372036854775808≤c) (_:c≤9223372036854775807) (E:EnvC e1 e2 e3 e4 e5 x y w) :
  Calls Tryz.prog 7 #[.agg cs.toArray,.int .i64 a,.int .i64 b,.int .i64 c] w fun e w'=>e=.returned (.bool true)∧Below w.heap.size w w':=by
 have HP:=hid hp
 have HE:=hid E
 have hb0:∀ C:Obj,Below w.heap.size w (w.alloc C):=fun C=>(Below.refl _ _).alloc (Nat.le_refl _) _
 have HB0:=hid hb0
 have HH:=hid (fun (W:World) (hb:Below w.heap.size w W)=>shown7_c e1 e2 e3 e4 e5 x y W (E.below hb))
 have HS:=hid (fun (W:World) (hb:Below w.heap.size w W)=>small_c p W cs ((hp.below hb).more hb.size))
 obtain⟨p1,q1,r1,s1,rfl,_,_⟩:=hp.look
 clear hp E hb0
 go_enter Tryz.func7,Tryz.ntmps7
 go_wp2_with fail
 refine (HH.out _ (HB0.out _)).mono ?_
 rintro e1 w1 ⟨rfl,b1⟩
 have R1:=hid ((b1.block w.heap.size (by simp)).trans (World.alloc_heap_new w _))
 have B1:=hid ((HB0.out _).trans (b1.mono (by simp)))
 have x0:=row_cells R1.out 0
 have x1:=row_cells R1.out 1
 simp at x0 x1
 have hz1:w.heap.size < w1.heap.size:=heap_lt R1.out
 clear b1
 go_wp2_with fail
 refine (HS.out _ B1.out).mono ?_
 rintro e2 w2 ⟨rfl,b2⟩
 have R2:=hid ((b2.block w.heap.size hz1).trans R1.out)
 have B2:=hid (B1.out.trans (b2.mono B1.out.size))
 have y0:=row_cells R2.out 0
 have y1:=row_cells R2.out 1
 simp at y0 y1
 have hz2:w.heap.size < w2.heap.size:=heap_lt R2.out
 clear b2 x0 x1
 unfold smallI
 cases hs:smallP p with
 | false=>
  clear hs
  go_wp2
  go_ret
  exact⟨rfl,B2.out⟩
 | true=>
 have HL:=hid (lil_small hs)
 have HM:=hid (fun (i j:Int) (W:World) (hb:Below w.heap.size w W)=>mutual_c p _ i j _ _ _ _ _ _ _ W ((HP.out.below hb).more hb.size) HL.out.few HL.out.rule (HE.out.below hb) HL.out.n HL.out.e)
 clear hs
 go_wp2_with fail
 refine (HM.out a b _ B2.out).mono ?_
 intro e3 w3 hR
 obtain⟨ln,k,hd,rfl,b3⟩:=mu_one hR
 have HD:=hid hd
 have R3:=hid ((b3.block w.heap.size hz2).trans R2.out)
 have B3:=hid (B2.out.trans (b3.mono B2.out.size))
 have z0:=row_cells R3.out 0
 have z1:=row_cells R3.out 1
 simp at z0 z1
 have hz3:w.heap.size < w3.heap.size:=heap_lt R3.out
 obtain⟨X,hX⟩:∃ X,muF p k a b=X:=⟨_,rfl⟩
 obtain⟨n1,hn1⟩:∃ n1,plE p.decls.length k a b=n1:=⟨_,rfl⟩
 have HX:=hid hX
 have HN1:=hid hn1
 rw[hX,hn1]
 clear b3 y0 y1 hd hR hX hn1
 go_wp2_with fail
 refine (HM.out b a _ B3.out).mono ?_
 intro e4 w4 hR
 obtain⟨rfl,b4⟩:=mu_next HD.out hR
 rw[← muF_swap,← plE_swap,HX.out,HN1.out]
 have R4:=hid ((b4.block w.heap.size hz3).trans R3.out)
 have B4:=hid (B3.out.trans (b4.mono B3.out.size))
 clear b4 z0 z1 hR
 have z0:=row_cells R4.out 0
 have z1:=row_cells R4.out 1
 simp at z0 z1
 have hz4:w.heap.size < w4.heap.size:=heap_lt R4.out
 go_wp2_with fail
 refine (HM.out b c _ B4.out).mono ?_
 intro e5 w5 hR
 obtain⟨rfl,b5⟩:=mu_next HD.out hR
 have R5:=hid ((b5.block w.heap.size hz4).trans R4.out)
 have B5:=hid (B4.out.trans (b5.mono B4.out.size))
 obtain⟨Z,hZ⟩:∃ X,muF p k b c=X:=⟨_,rfl⟩
 obtain⟨n3,hn3⟩:∃ n1,plE p.decls.length k b c=n1:=⟨_,rfl⟩
 have HZ:=hid hZ
 have HN3:=hid hn3
 rw[hZ,hn3]
 clear b5 z0 z1 hR hZ hn3
 have z0:=row_cells R5.out 0
 have z1:=row_cells R5.out 1
 simp at z0 z1
 have hz5:w.heap.size < w5.heap.size:=heap_lt R5.out
 go_wp2_with fail
 refine (HM.out a c _ B5.out).mono ?_
 intro e6 w6 hR
 obtain⟨rfl,b6⟩:=mu_next HD.out hR
 have R6:=hid ((b6.block w.heap.size hz5).trans R5.out)
 have B6:=hid (B5.out.trans (b6.mono B5.out.size))
 obtain⟨U,hU⟩:∃ X,muF p k a c=X:=⟨_,rfl⟩
 obtain⟨n4,hn4⟩:∃ n1,plE p.decls.length k a c=n1:=⟨_,rfl⟩
 have HU:=hid hU
 have HN4:=hid hn4
 rw[hU,hn4]
 clear b6 z0 z1 hR hU hn4
 have z0:=row_cells R6.out 0
 have z1:=row_cells R6.out 1
 simp at z0 z1
 have hz6:w.heap.size < w6.heap.size:=heap_lt R6.out
 go_wp2_with fail
 refine (HM.out a a _ B6.out).mono ?_
 intro e7 w7 hR
 obtain⟨rfl,b7⟩:=mu_next HD.out hR
 have B7:=hid (B6.out.trans (b7.mono B6.out.size))
 obtain⟨S,hS⟩:∃ X,muF p k a a=X:=⟨_,rfl⟩
 obtain⟨n5,hn5⟩:∃ n1,plE p.decls.length k a a=n1:=⟨_,rfl⟩
 have h1:X=true→Z=true→U=true:=fun h h'=>by rw[← HU.out];exact muF_trans (HX.out.trans h) (HZ.out.trans h')
 have h2:n5=0→S=true:=fun h=>by rw[← hS];exact muF_self (hn5.trans h)
 have h3:n3≠0→Z=false:=fun h=>by rw[← HZ.out];exact muF_bad (by rw[HN3.out];exact h)
 have h4:n4≠0→U=false:=fun h=>by rw[← HU.out];exact muF_bad (by rw[HN4.out];exact h)
 rw[hS,hn5]
 have e11:(n1 != n1)=false:=by simp
 have e12:(X == X)=true:=by simp
 clear b7 z0 z1 hR hS hn5
 cases X <;> cases Z <;> cases U
 all_goals first
  | exact absurd (h1 rfl rfl) (by decide)
  | skip
 all_goals cases S
 all_goals by_cases hn5:n5=0
 all_goals first
  | exact absurd (h2 hn5) (by decide)
  | skip
 all_goals by_cases hn3:n3=0
 all_goals first
  | exact absurd (h3 hn3) (by decide)
  | skip
 all_goals by_cases hn4:n4=0
 all_goals first
  | exact absurd (h4 hn4) (by decide)
  | skip
 all_goals (
  clear h1 h2 h3 h4
  have f5:(n5 != 0)=!decide (n5=0):=by by_cases h:n5=0 <;> simp[h]
  have f3:(n3 == 0)=decide (n3=0):=by by_cases h:n3=0 <;> simp[h]
  have f4:(n4 == 0)=decide (n4=0):=by by_cases h:n4=0 <;> simp[h]
  simp only[hn5,decide_true,decide_false,Bool.not_true,Bool.not_false] at f5
  simp only[hn3,decide_true,decide_false] at f3
  simp only[hn4,decide_true,decide_false] at f4
  go_wp2
  go_ret
  exact⟨rfl,B7.out⟩)
end Go.Proofs.YtakpgcmfjlbcgaaGreatDoor
