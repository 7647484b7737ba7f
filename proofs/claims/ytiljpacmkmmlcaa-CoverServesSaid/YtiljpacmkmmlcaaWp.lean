/- cover.orderOf. -/
import Derived.Test.YtiljpacmkmmlcaaWo
import Derived.Test.YtiljpacmkmmlcaaCv6
set_option linter.unusedSimpArgs false
set_option linter.unusedVariables false
namespace Go.Proofs.Ytiljpacmkmmlcaa
open Go.RowKit

theorem infoI : (Try.prog.info? 3).map (fun i => (i.zero, i.size, i.bytes)) = some (some (.int .i64 0), 1, 8) := by kernel_rfl
/-- The columns of s below k that are not in o, behind it. -/
def partF (s k : Nat) (o : List Int) : List Int := o ++ ((List.range k).filter fun j => s.testBit j && !o.contains (j : Int)).map fun j : Nat => (j : Int)
theorem partF_zero (s : Nat) (o : List Int) : partF s 0 o = o := by simp [partF]
theorem partF_full (c s : Nat) (o : List Int) : partF s c o = stepF c o s := rfl
theorem partF_skip {s k : Nat} {o : List Int} (h : (s.testBit k && !o.contains (k : Int)) = false) : partF s (k + 1) o = partF s k o := by
  unfold partF
  rw [List.range_succ, List.filter_append]
  simp only [List.filter_cons, h, List.filter_nil, List.append_nil]
  simp
theorem partF_put {s k : Nat} {o : List Int} (h : (s.testBit k && !o.contains (k : Int)) = true) : partF s (k + 1) o = partF s k o ++ [(k : Int)] := by
  unfold partF
  rw [List.range_succ, List.filter_append]
  simp only [List.filter_cons, h, List.filter_nil, if_true, List.map_append, List.map_cons, List.map_nil, List.append_assoc]
theorem partF_mem {s k : Nat} {o : List Int} : (k : Int) ∈ partF s k o ↔ (k : Int) ∈ o := by
  unfold partF
  rw [List.mem_append, List.mem_map]
  constructor
  · rintro (h | ⟨j, hj, e⟩)
    · exact h
    · have := List.mem_range.1 (List.mem_filter.1 hj).1
      omega
  · exact .inl
/-- So far an order. -/
structure OrF (c : Nat) (o : List Int) : Prop where
  le : o.length ≤ c
  in_ : ∀ x ∈ o, 0 ≤ x ∧ x < (c : Int)
theorem okc {c : Nat} {o : List Int} (hn : o.Nodup) (h : ∀ x ∈ o, ∃ j : Nat, x = j ∧ j < c) : OrF c o := by
  refine ⟨?_, fun x hx => by obtain ⟨j, rfl, hj⟩ := h x hx; omega⟩
  have h1 := ilen_le (m := (List.range c).map fun j : Nat => (j : Int)) hn fun x hx => by
    obtain ⟨j, rfl, hj⟩ := h x hx
    exact List.mem_map.2 ⟨j, List.mem_range.2 hj, rfl⟩
  rwa [List.length_map, List.length_range] at h1
structure NdC (c : Nat) (o : List Int) : Prop where
  nd : o.Nodup
  lt : ∀ x ∈ o, ∃ j : Nat, x = j ∧ j < c
theorem NdC.part {c : Nat} {o : List Int} (h : NdC c o) (s k : Nat) (hk : k ≤ c) : NdC c (partF s k o) := by
  constructor
  · unfold partF
    refine List.nodup_append.2 ⟨h.nd, ?_, fun a ha b hb e => ?_⟩
    · rw [List.nodup_iff_pairwise_ne, List.pairwise_map]
      exact List.Pairwise.imp (fun hab e => hab (by omega)) (List.nodup_iff_pairwise_ne.1 (nfilt_nodup (p := fun j => s.testBit j && !o.contains (j : Int)) (List.nodup_range (n := k))))
    · obtain ⟨j, hj, rfl⟩ := List.mem_map.1 hb
      have h1 := (List.mem_filter.1 hj).2
      subst e
      simp [ha] at h1
  · intro x hx
    unfold partF at hx
    rcases List.mem_append.1 hx with hx | hx
    · exact h.lt x hx
    · obtain ⟨j, hj, rfl⟩ := List.mem_map.1 hx
      have := List.mem_range.1 (List.mem_filter.1 hj).1
      exact ⟨j, rfl, by omega⟩
/-- What stands while an order is laid. -/
structure OrI (N : Nat) (w : World) (vb : Option Nat) (u : Value) (ts : List Nat) (ov : Value) (o : List Int) (wr : World) : Prop where
  own : wr.ownsRow w.heap.size 3 1 ov o.length (ivL o)
  ch : wr.ownsRow N 54 1 u ts.length (mvL ts)
  g : w.grownBy wr vb
theorem own_apart {W : World} {b1 b2 z1 z2 n1 n2 : Nat} {e1 e2 : TypeId} {v u : Value} {xs ys : List Value} (h : W.ownsRow b1 e1 z1 v n1 xs) (k : W.ownsRow b2 e2 z2 u n2 ys) (hne : e1 ≠ e2) : v.ownBlock = none ∨ v.ownBlock ≠ u.ownBlock := by
  cases hv : v.ownBlock with
  | none => exact .inl rfl
  | some j =>
    refine .inr fun e => ?_
    obtain ⟨c1, q1⟩ := own_type h j hv
    obtain ⟨c2, q2⟩ := own_type k j e.symm
    rw [q1] at q2
    cases q2
    exact hne rfl
theorem OrI.put {N : Nat} {w wr w3 : World} {vb : Option Nat} {u ov ov' : Value} {ts : List Nat} {o : List Int} {x : Int} (h : OrI N w vb u ts ov o wr) (hg : wr.grownBy w3 ov.ownBlock) (ho : w3.ownsRow w.heap.size 3 1 ov' (o.length + 1) (ivL o ++ [.int .i64 x])) : OrI N w vb u ts ov' (o ++ [x]) w3 :=
  ⟨by rw [List.length_append, ivL_snoc]; exact ho, h.ch.kept hg (own_apart h.ch h.own (by decide)), grown_then h.g hg fun j hj => .inl (h.own.lt j hj).1⟩
theorem OrI.below {N : Nat} {w wr w3 : World} {vb : Option Nat} {u ov : Value} {ts : List Nat} {o : List Int} (h : OrI N w vb u ts ov o wr) (hb : Below wr.heap.size wr w3) : OrI N w vb u ts ov o w3 :=
  ⟨own_past h.own hb, own_past h.ch hb, grown_then h.g (grown_below hb none) fun j hj => by cases hj⟩
set_option linter.unusedVariables false in
set_option maxRecDepth 100000 in
set_option maxHeartbeats 8000000 in
theorem orderOf_c (c N : Nat) (ch : List Nat) (v : Value) (w : World) (hc1 : 1 ≤ c) (hc8 : c ≤ 8) (hl : ch.length ≤ 1000) (hm : ∀ m ∈ ch, m < 256) (hN : N ≤ w.heap.size) (h : w.ownsRow N 54 1 v ch.length (mvL ch)) :
    Calls Try.prog 28 #[.int .i64 (c : Int), v] w fun e w' => (∃ r, e = .returned r ∧ w'.ownsRow w.heap.size 3 1 r (orderF c ch).length (ivL (orderF c ch))) ∧ w.grownBy w' v.ownBlock := by
  obtain ⟨i0, hi, hz0, hz1, hz2⟩ := info_parts infoU
  obtain ⟨i1, hi1, hy0, hy1, hy2⟩ := info_parts infoI
  have hK1 : i1.bytes * c ≤ 281474976710656 := by rw [hy2]; omega
  have HK1 := Lib.hid hK1
  have HK2 : Hid (c ≤ maxLen) := Lib.hid (by unfold maxLen; omega)
  have HOw := Lib.hid h
  have hsh : IntKind.u64.wrap (2 ^ c) = ((2 ^ c : Nat) : Int) := by
    have e : (2 : Int) ^ c = ((2 ^ c : Nat) : Int) := by simp
    rw [e]
    have : 2 ^ c ≤ 2 ^ 8 := Nat.pow_le_pow_right (by decide) hc8
    exact u64_small (by omega)
  obtain ⟨F, hF⟩ : ∃ F, 2 ^ c = F := ⟨_, rfl⟩
  have hF1 : 1 ≤ F := by rw [← hF]; exact Nat.one_le_two_pow
  have hF2 : F ≤ 256 := by rw [← hF]; exact Nat.pow_le_pow_right (n := 2) (by decide) hc8
  rw [hF] at hsh
  have hsub : IntKind.u64.wrap ((F : Int) - 1) = ((F - 1 : Nat) : Int) := by
    have e : (F : Int) - 1 = ((F - 1 : Nat) : Int) := by omega
    rw [e]
    exact u64_small (by omega)
  obtain ⟨T, hT⟩ : ∃ T, F - 1 = T := ⟨_, rfl⟩
  rw [hT] at hsub
  have HT : Hid (T = 2 ^ c - 1) := Lib.hid (by omega)
  have hT256 : T < 256 := by omega
  have Hm := Lib.hid hm
  clear h hm hK1 hT hF
  go_enter Try.func28, Try.ntmps28
  go_wp2_with (first
    | (at_make; refine wpList_make_own _ rfl _ _ 23 rfl w.heap.size 3 i1 _ 1 Try.underlying23 hi1 hy0 hy1 .i64 .i64 _ c rfl rfl (by first | omega | rfl) HK1.out HK2.out (Nat.le_refl _) ?_; intro w1 hown1 hg1; have O1 := Lib.hid hown1; have G1 := Lib.hid hg1; have HOw1 := Lib.hid (HOw.out.kept hg1 (by cases hvb : v.ownBlock with | none => exact .inl rfl | some j => exact .inr (by simp))); clear hown1 hg1)
    | (at_builtin; refine wpList_append_own _ rfl (.tmp 11) (.tmp 15) 44 rfl N 54 i0 _ 1 8 Try.underlying44 hi hz0 hz1 hz2 rfl (by decide) v ch.length _ rfl (HOw1.out.alloc _) _ 1 1 [.int .u64 (T : Int)] rfl rfl (news_new _ _ _ _ rfl) (one_u64 _) (by unfold maxLen; omega) (by omega) (by have := G1.out.size; simp; omega) ?_; intro v' w3 hown' hgrow _; obtain ⟨g', cap', rfl, hgb⟩ := own_form hown' (Nat.succ_pos _); have HG3 := Lib.hid (grown_viaC hgrow); have HO3 := Lib.hid hown'; clear hgrow hown'))
  have hall : ∀ m ∈ ch ++ [T], m < 256 := fun m hm => by
    rcases List.mem_append.1 hm with hm | hm
    · exact Hm.out m hm
    · rw [List.mem_singleton.1 hm]; exact hT256
  obtain ⟨ts, hts⟩ : ∃ ts, ch ++ [T] = ts := ⟨_, rfl⟩
  have hlen : ts.length = ch.length + 1 := by rw [← hts]; simp
  have HI0 : Hid (OrI N w v.ownBlock (.slice (some ⟨g', 0, none⟩) (ch.length + 1) cap') ts (.slice (some ⟨w.heap.size, 0, none⟩) 0 c) [] w3) := Lib.hid (by
    refine ⟨O1.out.kept HG3.out (.inr fun e => ?_), ?_, grown_then (World.grownBy.but G1.out _) HG3.out fun j hj => .inr hj⟩
    · exact Nat.lt_irrefl _ (HOw.out.lt w.heap.size e.symm).2
    · rw [hlen, ← hts, mvL_snoc]
      exact HO3.out)
  have Hts := Lib.hid hts
  rw [hts] at hall
  have Hall := Lib.hid hall
  clear hts hall
  go_loopw [5, 18] (fun av iv wr => ∃ (k : Nat) (ov : Value), k ≤ ts.length ∧ iv = .int .i64 (k : Int) ∧ ov = av ∧ Hid (OrI N w v.ownBlock (.slice (some ⟨g', 0, none⟩) (ch.length + 1) cap') ts ov ((ts.take k).foldl (stepF c) []) wr) ∧ Hid (NdC c ((ts.take k).foldl (stepF c) []))) (fun _ iv _ => ts.length - (intOf iv).toNat)
  case atStart => exact ⟨0, _, Nat.zero_le _, rfl, rfl, HI0, Lib.hid ⟨List.nodup_nil, fun x hx => by simp at hx⟩⟩
  case round =>
    obtain ⟨k, ov, hk, rfl, rfl, HI, HNd⟩ := hrel
    by_cases hlt : k < ts.length
    · have hlt' : (k : Int) < (ts.length : Int) := by omega
      have hltc : (k : Int) < (ch.length : Int) + 1 := by omega
      have hk0 : (0 : Int) ≤ (k : Int) := by omega
      obtain ⟨s, hs⟩ : ∃ s, ts[k]? = some s := ⟨ts[k], List.getElem?_eq_getElem hlt⟩
      have hs256 := Hall.out s (List.mem_of_getElem? hs)
      have c0 : wr.cell? ⟨g', k, none⟩ = some (.int .u64 (s : Int)) := by
        have := HI.out.ch.cells (g := g') rfl k _ (mvL_at hs)
        rw [add_none, Nat.zero_add] at this
        exact this
      have hgl := World.block_lt_of_cell? _ _ c0
      obtain ⟨o, ho⟩ : ∃ o, (ts.take k).foldl (stepF c) [] = o := ⟨_, rfl⟩
      have HST : Hid ((ts.take (k + 1)).foldl (stepF c) [] = stepF c o s) := Lib.hid (by rw [List.take_add_one, hs, List.foldl_append, ho]; rfl)
      rw [ho] at HI HNd
      clear hs ho
      go_wp2
      go_loopw [5, 23] (fun av iv wr => ∃ (q : Nat) (ov : Value), q ≤ c ∧ iv = .int .i64 (q : Int) ∧ ov = av ∧ Hid (OrI N w v.ownBlock (.slice (some ⟨g', 0, none⟩) (ch.length + 1) cap') ts ov (partF s q o) wr)) (fun _ iv _ => c - (intOf iv).toNat)
      case atStart => exact ⟨0, _, Nat.zero_le _, rfl, rfl, by rw [partF_zero]; exact HI⟩
      case round =>
        obtain ⟨q, ov2, hq, rfl, rfl, HIq⟩ := hrel
        by_cases hqc : q < c
        · have hqc' : (q : Int) < (c : Int) := by omega
          have hNp := HNd.out.part s q hq
          have hOf := okc hNp.nd hNp.lt
          have HH := Lib.hid (has_c s q wr (by omega))
          have HC := Lib.hid (containsI_c (partF s q o) (q : Int) ov2 wr (is_of_own HIq.out.own fun n hn => by have := hOf.in_ n hn; unfold I64; omega))
          have hle := hOf.le
          clear hNp hOf
          cases hb : s.testBit q with
          | false =>
            rw [hb] at HH
            have HN : Hid (OrI N w v.ownBlock (.slice (some ⟨g', 0, none⟩) (ch.length + 1) cap') ts ov2 (partF s (q + 1) o) wr) := Lib.hid (by rw [partF_skip (by rw [hb]; rfl)]; exact HIq.out)
            clear hb
            go_wp2_with fail
            refine HH.out.mono ?_
            rintro e w2 ⟨rfl, rfl⟩
            go_wp2
            go_roundw
            case rel => exact ⟨q + 1, _, hqc, by go_num, rfl, HN⟩
            case measure => simp [intOf]; omega
          | true =>
            rw [hb] at HH
            cases hin : inIs (partF s q o) (q : Int) with
            | true =>
              rw [hin] at HC
              have HN : Hid (OrI N w v.ownBlock (.slice (some ⟨g', 0, none⟩) (ch.length + 1) cap') ts ov2 (partF s (q + 1) o) wr) := Lib.hid (by
                rw [partF_skip (by
                  have h1 : (q : Int) ∈ o := partF_mem.1 (of_decide_eq_true hin)
                  simp [h1])]
                exact HIq.out)
              clear hb hin
              go_wp2_with fail
              refine HH.out.mono ?_
              rintro e w2 ⟨rfl, rfl⟩
              go_wp2_with fail
              refine HC.out.mono ?_
              rintro e w2 ⟨rfl, rfl⟩
              go_wp2
              go_roundw
              case rel => exact ⟨q + 1, _, hqc, by go_num, rfl, HN⟩
              case measure => simp [intOf]; omega
            | false =>
              rw [hin] at HC
              have HPt : Hid (partF s (q + 1) o = partF s q o ++ [(q : Int)]) := Lib.hid (partF_put (by
                have h1 : ¬ (q : Int) ∈ o := fun h => (of_decide_eq_false hin) (partF_mem.2 h)
                simp [h1, hb]))
              have HOq : Hid (wr.ownsRow w.heap.size 3 1 ov2 (partF s q o).length (ivL (partF s q o))) := Lib.hid HIq.out.own
              have HS3 := Lib.hid HIq.out.g.size
              have HS1 : Hid ((partF s q o).length + 1 ≤ maxLen) := Lib.hid (by unfold maxLen; omega)
              have HS2 : Hid (((partF s q o).length + 1) * 8 ≤ 140737488355328) := Lib.hid (by omega)
              obtain ⟨pq, hpq⟩ : ∃ pq, partF s q o = pq := ⟨_, rfl⟩
              rw [hpq] at HIq HPt HOq HS1 HS2
              clear hb hin hpq
              go_wp2_with fail
              refine HH.out.mono ?_
              rintro e w2 ⟨rfl, rfl⟩
              go_wp2_with fail
              refine HC.out.mono ?_
              rintro e w2 ⟨rfl, rfl⟩
              go_wp2_with (at_builtin; refine wpList_append_own _ rfl (.tmp 35) (.tmp 37) 23 rfl w.heap.size 3 i1 _ 1 8 Try.underlying23 hi1 hy0 hy1 hy2 rfl (by decide) ov2 pq.length _ rfl (HOq.out.alloc _) _ 1 1 [.int .i64 (q : Int)] rfl rfl (news_new _ _ _ _ rfl) (fun u hu => by simp at hu; subst hu; rfl) HS1.out HS2.out (by have := HS3.out; simp; omega) ?_; intro v5 w5 hown' hgrow _; have HG5 := Lib.hid (grown_viaC hgrow); have HO5 := Lib.hid hown'; clear hgrow hown')
              have HN : Hid (OrI N w v.ownBlock (.slice (some ⟨g', 0, none⟩) (ch.length + 1) cap') ts v5 (partF s (q + 1) o) w5) := Lib.hid (by rw [HPt.out]; exact HIq.out.put HG5.out HO5.out)
              go_roundw
              case rel => exact ⟨q + 1, _, hqc, by go_num, rfl, HN⟩
              case measure => simp [intOf]; omega
        · have hqc' : ¬ (q : Int) < (c : Int) := by omega
          obtain rfl : q = c := by omega
          have HN : Hid (OrI N w v.ownBlock (.slice (some ⟨g', 0, none⟩) (ch.length + 1) cap') ts ov2 ((ts.take (k + 1)).foldl (stepF q) []) wr) := Lib.hid (by rw [HST.out, ← partF_full]; exact HIq.out)
          have HN2 : Hid (NdC q ((ts.take (k + 1)).foldl (stepF q) [])) := Lib.hid (by rw [HST.out, ← partF_full]; exact HNd.out.part s q (Nat.le_refl _))
          go_wp2
          go_roundw
          case rel => exact ⟨k + 1, _, hlt, by go_num, rfl, HN, HN2⟩
          case measure => simp [intOf]; omega
    · have hlt' : ¬ (k : Int) < (ts.length : Int) := by omega
      have hltc : ¬ (k : Int) < (ch.length : Int) + 1 := by omega
      obtain rfl : k = ts.length := by omega
      have hltd : ¬ (ts.length : Int) < (ch.length : Int) + 1 := by omega
      have HE : Hid (orderF c ch = (ts.take ts.length).foldl (stepF c) []) := Lib.hid (by unfold orderF; rw [List.take_length, ← Hts.out, HT.out])
      go_wp2
      go_ret
      exact ⟨⟨_, rfl, by rw [HE.out]; exact HI.out.own⟩, HI.out.g⟩
end Go.Proofs.Ytiljpacmkmmlcaa
