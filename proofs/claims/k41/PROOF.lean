import PyProof.Rows.All
import Wide.All
import OpenK.AllK
import Wide.FinOn
import HandS.ForMost
import HandS.Evl
import HandS.TupAny
import HandS.Style
import HandS.Conv
import HandS.Walk
import HandS.Lambda
import HandS.EndTab
import HandS.ExcInit
import KE.KExcInit
import KE.KTryMore
import HandS.TryOnly
import HandS.ExcIs
import HandS.ExcField
import HandS.IsInst
import KE.GoesEnum
import KE.GoesMore
import HandS.OwnEq
import HandS.Strs
import HandS.WordsExc
import HandS.ExcOwn
import HandS.TupMul
import HandS.Star
import HandS.ExcValue
import KE.KDflt
import KE.KeyNested
import HandS.Flow
import HandS.DictComp
import HandS.Deep
import KE.KDictList
import HandS.Dict
import HandS.Iter
import PyProof.DictTable
import PyProof.DictDisplay
import KE.LtSeq
import HandS.NamedTupSort
import KE.KSortTup
import KE.KSortAsk
import HandS.DictTup
import KE.SortCalls
import KE.SortKeyed
import KE.SortData
import KE.DataCmp
import HandS.GenList
import HandS.Codes
import HandS.Comp
import PyProof.ZipIter
import HandS.Zip0
import HandS.ClsMeth
import HandS.Zip
import HandS.FStr
import PySem.Challenge.RW_faceabout_k41_rows_listed
set_option Elab.async false
set_option linter.all false
set_option maxRecDepth 100000
set_option maxHeartbeats 4000000
namespace Fab
open PySem L2
theorem peI {X : Cx} {e : Expr} {t t' : TE} (he : PE X e t) (h : ∀ σ H Q, t' σ H Q → t σ H Q) : PE X e t' := ⟨fun pins s σ H Q I q => he.run pins s σ H Q I (h σ H Q q)⟩
theorem psI {X : Cx} {e : Stmt} {t t' : TS} (he : PS X e t) (h : ∀ D σ H, t' D σ H → t D σ H) : PS X e t' := ⟨fun pins s σ H D I q => he.run pins s σ H D I (h D σ H q)⟩
theorem opI' {X : Cx} {f : Value → Value → Sem Value} {r r' : R2} (ho : OpR X f r) (h : ∀ x y H Q, r' x y H Q → r x y H Q) : OpR X f r' := fun pins s σ H x y v u Q I rx ry q => ho pins s σ H x y v u Q I rx ry (h x y H Q q)
theorem clI {X : Cx} {f : Value} {r r' : List V → Hp → VK → Prop} (ho : CallR X f r) (h : ∀ xs H Q, r' xs H Q → r xs H Q) : CallR X f r' := fun pins s σ H xs us Q I rx q => ho pins s σ H xs us Q I rx (h xs H Q q)
theorem ixI {X : Cx} {r r' : R2} (ho : IxR X r) (h : ∀ x y H Q, r' x y H Q → r x y H Q) : IxR X r' := fun value slice pins s σ H x y v u Q I rx ry q => ho value slice pins s σ H x y v u Q I rx ry (h x y H Q q)
theorem slI {X : Cx} {r r' : V → Option Int → Option Int → Hp → VK → Prop} (ho : SlR X r) (h : ∀ x lo hi H Q, r' x lo hi H Q → r x lo hi H Q) : SlR X r' := fun pins s σ H x v vl vu lo hi sl Q I rx hs pl pu q => ho pins s σ H x v vl vu lo hi sl Q I rx hs pl pu (h x lo hi H Q q)
def newAt (H : Hp) (o : HO) (k : Addr → Hp → Prop) : Prop := ∀ p, H p = none → k p (upd H p o)
def setAt (H : Hp) (a : Addr) (o : HO) (k : Hp → Prop) : Prop := k (upd H a o)
/-- a tuple, new or one that stands -/
def newTup (H : Hp) (xs : List V) (k : Addr → Hp → Prop) : Prop := ∀ p H', (H' = H ∨ (H p = none ∧ H' = upd H p (.tup xs))) → H' p = some (.tup xs) → k p H'
theorem newTup.mk {H : Hp} {xs : List V} {k : Addr → Hp → Prop} (h : newTup H xs k) : ∀ p, H p = none → k p (upd H p (.tup xs)) := fun p hp => h p _ (.inr ⟨hp, rfl⟩) upd_same
theorem newTup.old {H : Hp} {xs : List V} {k : Addr → Hp → Prop} (h : newTup H xs k) {p : Addr} (hp : H p = some (.tup xs)) : k p H := h p _ (.inl rfl) hp
/-- the items of a list, of a tuple -/
def sq : HO → Option (List V)
  | .lst xs => some xs
  | .tup xs => some xs
  | .frz _ (.lst xs) => some xs
  | _ => none
theorem sq_or {K : PySem.W.Frag} {H : Hp} {p : Addr} {o : HO} {xs : List V} (h : H p = some o) (hs : sq o = some xs) : SqL K H p xs ∨ SqT K H p xs := by
  cases o with
  | lst ys =>
    cases hs
    exact .inl (SqL.of h)
  | tup ys =>
    cases hs
    exact .inr (SqT.of h)
  | frz ob u =>
    cases u with
    | lst ys =>
      cases hs
      exact .inl (.inl (.inr ⟨_, h⟩))
    | _ => cases hs
  | _ => cases hs
structure VW (H0 H : Hp) (L : List (Addr × HO)) (T : List (Addr × List V)) : Prop where
  at_ : ∀ p ∈ L, H p.1 = some p.2
  nd : (L.map (·.1)).Nodup
  own : ∀ p ∈ L, H0 p.1 = none
  fr : ∀ a o, H0 a = some o → H a = some o
  tu : ∀ p ∈ T, H p.1 = some (.tup p.2)
section
variable {H0 H H' : Hp} {L : List (Addr × HO)} {T : List (Addr × List V)} {o : HO} {a : Addr} {xs : List V}
theorem VW.start : VW H H [] [] := ⟨(fun _ h => nomatch h), List.nodup_nil, (fun _ h => nomatch h), (fun _ _ h => h), (fun _ h => nomatch h)⟩
theorem VW.push (v : VW H0 H L T) {p : Addr} (hp : H p = none) : VW H0 (upd H p o) ((p, o) :: L) T := by
  have n0 : H0 p = none := by
    cases e : H0 p with
    | none => rfl
    | some u =>
      have := v.fr p u e
      rw [hp] at this
      cases this
  have nl : ∀ q ∈ L, q.1 ≠ p := fun q hq z => by
    have := v.at_ q hq
    rw [z, hp] at this
    cases this
  refine ⟨fun q hq => ?_, ?_, fun q hq => ?_, fun b u hb => ?_, fun q hq => ?_⟩
  · rcases List.mem_cons.mp hq with rfl | hq
    · exact upd_same
    · rw [upd_ne (nl q hq)]
      exact v.at_ q hq
  · rw [List.map_cons, List.nodup_cons]
    refine ⟨fun hm => ?_, v.nd⟩
    obtain ⟨q, hq, e⟩ := List.mem_map.mp hm
    exact nl q hq e
  · rcases List.mem_cons.mp hq with rfl | hq
    · exact n0
    · exact v.own q hq
  · rw [upd_ne (ne_of_none hb n0)]
    exact v.fr b u hb
  · have h := v.tu q hq
    rw [upd_ne (ne_of_none h hp)]
    exact h
theorem VW.tuple (v : VW H0 H L T) {p : Addr} (h : H' = H ∨ (H p = none ∧ H' = upd H p (.tup xs))) (hp : H' p = some (.tup xs)) : VW H0 H' L ((p, xs) :: T) := by
  rcases h with rfl | ⟨hn, rfl⟩
  · exact ⟨v.at_, v.nd, v.own, v.fr, fun q hq => by
      rcases List.mem_cons.mp hq with rfl | hq
      · exact hp
      · exact v.tu q hq⟩
  · have w := v.push (o := .tup xs) hn
    exact ⟨fun q hq => w.at_ q (List.mem_cons_of_mem _ hq), v.nd, v.own, w.fr, fun q hq => by
      rcases List.mem_cons.mp hq with rfl | hq
      · exact hp
      · exact w.tu q hq⟩
def noTup : HO → Bool
  | .tup _ => false
  | _ => true
theorem VW.put (v : VW H0 H L T) (i : Nat) {o0 : HO} (hi : L[i]? = some (a, o0)) (hn : noTup o0 = true) : VW H0 (upd H a o) (L.set i (a, o)) T := by
  have hm : (a, o0) ∈ L := List.mem_of_getElem? hi
  have h0 := v.at_ _ hm
  have hlt : i < L.length := (List.getElem?_eq_some_iff.mp hi).1
  have hmap : (L.set i (a, o)).map (·.1) = L.map (·.1) := by
    apply List.ext_getElem?
    intro j
    rw [List.map_set]
    by_cases hj : i = j
    · subst hj
      rw [List.getElem?_set_self (by simpa using hlt), List.getElem?_map, hi]
      rfl
    · rw [List.getElem?_set_ne hj]
  have hnd : ((L.set i (a, o)).map (·.1)).Nodup := by rw [hmap]; exact v.nd
  refine ⟨fun q hq => ?_, hnd, fun q hq => ?_, fun b u hb => ?_, fun q hq => ?_⟩
  · obtain ⟨j, hj⟩ := List.getElem?_of_mem hq
    by_cases e : i = j
    · subst e
      rw [List.getElem?_set_self hlt] at hj
      cases hj
      exact upd_same
    · rw [List.getElem?_set_ne e] at hj
      have hq' := List.mem_of_getElem? hj
      have ne : q.1 ≠ a := fun z => by
        have n1 : (L.map (·.1))[i]? = some a := by rw [List.getElem?_map, hi]; rfl
        have n2 : (L.map (·.1))[j]? = some a := by rw [List.getElem?_map, hj, ← z]; rfl
        obtain ⟨l1, e1⟩ := List.getElem?_eq_some_iff.mp n1
        obtain ⟨l2, e2⟩ := List.getElem?_eq_some_iff.mp n2
        exact e ((List.getElem_inj v.nd).mp (e1.trans e2.symm))
      rw [upd_ne ne]
      exact v.at_ q hq'
  · have : q.1 ∈ (L.set i (a, o)).map (·.1) := List.mem_map_of_mem hq
    rw [hmap] at this
    obtain ⟨r, hr, e⟩ := List.mem_map.mp this
    rw [← e]
    exact v.own r hr
  · rw [upd_ne (ne_of_none hb (v.own _ hm))]
    exact v.fr b u hb
  · have h := v.tu q hq
    have ne : q.1 ≠ a := fun z => by
      rw [z, h0] at h
      have := Option.some.inj h
      subst this
      cases hn
    rw [upd_ne ne]
    exact h
theorem VW.drop (v : VW H0 H L T) {L' : List (Addr × HO)} {T' : List (Addr × List V)} (hL : L'.Sublist L) (hT : ∀ p ∈ T', p ∈ T) : VW H0 H L' T' :=
  ⟨fun p hp => v.at_ p (hL.subset hp), (hL.map _).nodup v.nd, fun p hp => v.own p (hL.subset hp), v.fr, fun p hp => v.tu p (hT p hp)⟩
/-- what is known, in one row -/
def factsT (H : Hp) : List (Addr × List V) → Prop
  | [] => True
  | p :: T => H p.1 = some (.tup p.2) ∧ factsT H T
def facts (H : Hp) (T : List (Addr × List V)) : List (Addr × HO) → Prop
  | [] => factsT H T
  | p :: L => H p.1 = some p.2 ∧ facts H T L
theorem factsT_of (H : Hp) : ∀ (T : List (Addr × List V)), (∀ p ∈ T, H p.1 = some (.tup p.2)) → factsT H T
  | [], _ => True.intro
  | p :: T, h => ⟨h p List.mem_cons_self, factsT_of H T (fun q hq => h q (List.mem_cons_of_mem _ hq))⟩
theorem facts_of (H : Hp) (T : List (Addr × List V)) (hT : ∀ p ∈ T, H p.1 = some (.tup p.2)) : ∀ (L : List (Addr × HO)), (∀ p ∈ L, H p.1 = some p.2) → facts H T L
  | [], _ => factsT_of H T hT
  | p :: L, h => ⟨h p List.mem_cons_self, facts_of H T hT L (fun q hq => h q (List.mem_cons_of_mem _ hq))⟩
theorem VW.facts (v : VW H0 H L T) : facts H T L := facts_of H T v.tu L v.at_
theorem view_new {k : Addr → Hp → Prop} (v : VW H0 H L T) (h : ∀ p H', VW H0 H' ((p, o) :: L) T → k p H') : newAt H o k := fun p hp => h p _ (v.push hp)
theorem view_set {k : Hp → Prop} (v : VW H0 H L T) (i : Nat) {o0 : HO} (hi : L[i]? = some (a, o0)) (hn : noTup o0 = true) (h : ∀ H', VW H0 H' (L.set i (a, o)) T → k H') : setAt H a o k := h _ (v.put i hi hn)
theorem view_tup {k : Addr → Hp → Prop} (v : VW H0 H L T) (h : ∀ p H', VW H0 H' L ((p, xs) :: T) → k p H') : newTup H xs k := fun p _ e hp => h p _ (v.tuple e hp)
end
section
variable {X : Cx}
def rIxF : R2 := fun x y H Q => ∃ p i, x = .ref p ∧ y = .int i ∧ ∃ o, H p = some o ∧ ∃ xs, sq o = some xs ∧ ∃ v, atI xs i = some v ∧ Q v H
theorem ixF : IxR X rIxF := ixI ix_seq fun x y H Q ⟨p, i, hx, hy, o, ho, xs, hs, v, hv, q⟩ => by
  rcases sq_or (K := X.K) ho hs with h | h
  · exact .inl ⟨p, xs, i, v, hx, hy, h, hv, q⟩
  · exact .inr (.inl ⟨p, xs, i, v, hx, hy, h, hv, q⟩)
def rLenF : List V → Hp → VK → Prop := fun vs H Q => ∃ p, vs = [.ref p] ∧ ∃ o, H p = some o ∧ ∃ xs, sq o = some xs ∧ Q (.int (xs.length : Int)) H
theorem lenF : CallR X (.builtin "len") rLenF := clI call_len_seq fun vs H Q ⟨p, e, o, ho, xs, hs, q⟩ => ⟨p, xs, e, sq_or ho hs, q⟩
def rIntF : List V → Hp → VK → Prop := fun vs H Q => ∃ i, vs = [.int i] ∧ Q (.int i) H
theorem intF : CallR X (.type "int") rIntF := clI call_int1 fun vs H Q ⟨i, e, q⟩ => .inl ⟨i, e, q⟩
def rListF : List V → Hp → VK → Prop := fun vs H Q => ∃ p, vs = [.ref p] ∧ ∃ o, H p = some o ∧ ∃ xs, sq o = some xs ∧ newAt H (.lst xs) fun l H' => Q (.ref l) H'
def rTupF : List V → Hp → VK → Prop := fun vs H Q => ∃ p, vs = [.ref p] ∧ ∃ o, H p = some o ∧ ∃ xs, sq o = some xs ∧ newTup H xs fun l H' => Q (.ref l) H'
theorem tupF : CallR X (.type "tuple") rTupF := clI call_tuple_of fun vs H Q ⟨p, e, o, ho, xs, hs, q⟩ => by
  refine ⟨p, xs, e, ?_⟩
  cases o with
  | lst ys =>
    cases hs
    exact .inl ⟨SqL.of ho, q.mk⟩
  | tup ys =>
    cases hs
    exact .inr ⟨SqT.of ho, q.old ho⟩
  | frz ob u =>
    cases u with
    | lst ys =>
      cases hs
      exact .inl ⟨.inl (.inr ⟨_, ho⟩), q.mk⟩
    | _ => cases hs
  | _ => cases hs
def rSlF : V → Option Int → Option Int → Hp → VK → Prop := fun x lo hi H Q => ∃ a, x = .ref a ∧ ∃ xs, H a = some (.lst xs) ∧ newAt H (.lst (cutV xs lo hi)) fun p H' => Q (.ref p) H'
theorem cut_whole {xs : List V} {lo hi : Option Int} (h : HT.sIx xs.length 0 lo = 0 ∧ HT.sIx xs.length xs.length hi = xs.length) : cutV xs lo hi = xs := by
  unfold cutV
  rw [h.1, h.2]
  simp
def rSlTF : V → Option Int → Option Int → Hp → VK → Prop := fun x lo hi H Q => ∃ a, x = .ref a ∧ ∃ xs, H a = some (.tup xs) ∧ newTup H (cutV xs lo hi) fun p H' => Q (.ref p) H'
theorem slTF : SlR X rSlTF := slI sl_tupA fun x lo hi H Q ⟨a, e, xs, h, q⟩ => ⟨a, xs, e, SqT.of h, fun hw => q.old (by rw [cut_whole hw]; exact h), fun _ => q.mk⟩
def rCatF : R2 := fun x y H Q => ∃ l b, x = .ref l ∧ y = .ref b ∧ ∃ xs, H l = some (.lst xs) ∧ ∃ zs, H b = some (.lst zs) ∧ xs.length + zs.length ≤ sizeLine ∧ newAt H (.lst (xs ++ zs)) fun p H' => Q (.ref p) H'
theorem catF : OpR X (binaryOp .Add) rCatF := opI' op_cat fun x y H Q ⟨l, b, e1, e2, xs, h1, zs, h2, hz, q⟩ => ⟨l, b, xs, zs, e1, e2, h1, h2, hz, q⟩
def rCatTF : R2 := fun x y H Q => ∃ l b, x = .ref l ∧ y = .ref b ∧ ∃ xs, H l = some (.tup xs) ∧ ∃ zs, H b = some (.tup zs) ∧ xs.length + zs.length ≤ sizeLine ∧ newTup H (xs ++ zs) fun p H' => Q (.ref p) H'
theorem catTF : OpR X (binaryOp .Add) rCatTF := opI' op_catA fun x y H Q ⟨l, b, e1, e2, xs, h1, zs, h2, hz, q⟩ => ⟨l, b, xs, zs, e1, e2, SqT.of h1, SqT.of h2, hz,
  fun e => q.old (by rw [e]; exact h2), fun _ e => q.old (by rw [e, List.append_nil]; exact h1), fun _ _ => q.mk⟩
def rInF : R2 := fun x y H Q => ∃ p, y = .ref p ∧ ∃ o, H p = some o ∧ ∃ xs, sq o = some xs ∧ flatV x = true ∧ xs.all flatV = true ∧ Q (.bl (inV x xs)) H
theorem inF : OpR X (compareOp .In) rInF := opI' op_in_seq fun x y H Q ⟨p, e, o, ho, xs, hs, h1, h2, q⟩ => ⟨p, xs, e, sq_or ho hs, h1, h2, q⟩
def rNotInF : R2 := fun x y H Q => ∃ p, y = .ref p ∧ ∃ o, H p = some o ∧ ∃ xs, sq o = some xs ∧ flatV x = true ∧ xs.all flatV = true ∧ Q (.bl (!inV x xs)) H
theorem notInF : OpR X (compareOp .NotIn) rNotInF := opI' op_notIn_seq fun x y H Q ⟨p, e, o, ho, xs, hs, h1, h2, q⟩ => ⟨p, xs, e, sq_or ho hs, h1, h2, q⟩
/-- a reading, what is wanted behind it weakened -/
def mon (t : TE) : TE := fun σ H Q => ∃ Q0 : VK, t σ H Q0 ∧ ∀ v H', Q0 v H' → Q v H'
theorem pe_mon {e : Expr} {t : TE} (h : PE X e t) : PE X e (mon t) := ⟨fun pins s σ H Q I ⟨Q0, q, k⟩ => thn (h.run pins s σ H Q0 I q) fun _ _ ⟨v, H', I', r, q'⟩ => ⟨v, H', I', r, k v H' q'⟩⟩
def monA (t : TA) : TA := fun σ H Q => ∃ Q0 : List V → Hp → Prop, t σ H Q0 ∧ ∀ v H', Q0 v H' → Q v H'
theorem pa_mon {es : List Expr} {t : TA} (h : PA X es t) : PA X es (monA t) := ⟨fun pos pins s σ H Q I ⟨Q0, q, k⟩ => thn (h.run pos pins s σ H Q0 I q) fun _ _ ⟨v, H', I', r, q'⟩ => ⟨v, H', I', r, k v H' q'⟩⟩
theorem mon_of {t : TE} {σ : St} {H : Hp} {Q Q' : VK} (q : t σ H Q) (k : ∀ v H', Q v H' → Q' v H') : mon t σ H Q' := ⟨Q, q, k⟩
theorem monA_of {t : TA} {σ : St} {H : Hp} {Q Q' : List V → Hp → Prop} (q : t σ H Q) (k : ∀ v H', Q v H' → Q' v H') : monA t σ H Q' := ⟨Q, q, k⟩
def tTupF (t : TA) : TE := fun σ H Q => t σ H fun xs H1 => xs.length ≤ sizeLine ∧ newTup H1 xs fun p H' => Q (.ref p) H'
def tLstF (t : TA) : TE := fun σ H Q => t σ H fun xs H1 => xs.length ≤ sizeLine ∧ newAt H1 (.lst xs) fun p H' => Q (.ref p) H'
theorem pe_lstF {es : List Expr} {pos : Pos} {t : TA} (h : PA X es t) : PE X (.List es pos) (tLstF t) := peI (pe_lst (pa_mon h)) fun _ _ _ q => monA_of q fun _ _ q => q
theorem pe_tupF {es : List Expr} {x1} {pos : Pos} {t : TA} (h : PA X es t) : PE X (.Tuple es x1 pos) (tTupF t) := peI (pe_tup (pa_mon h)) fun _ _ _ q => monA_of q fun _ _ ⟨z, q⟩ => ⟨z, q.mk⟩
def tRevF (te : TE) : TE := fun σ H Q => te σ H fun x H1 => ∃ a, x = .ref a ∧ ∃ xs, H1 a = some (.lst xs) ∧ newAt H1 (.lst xs.reverse) fun p H' => Q (.ref p) H'
/-- a method of a list -/
def tLM (r : V → List V → Hp → VK → Prop) (to : TE) (t : TA) : TE := fun σ H Q => to σ H fun x H1 => ∃ p, x = .ref p ∧ ∃ xs, H1 p = some (.lst xs) ∧ t σ H1 fun vs H2 => r x vs H2 Q
def rAppF : V → List V → Hp → VK → Prop := fun x vs H Q => ∃ l y, x = .ref l ∧ vs = [y] ∧ ∃ xs, H l = some (.lst xs) ∧ xs.length < sizeLine ∧ setAt H l (.lst (xs ++ [y])) fun H' => Q .non H'
theorem appF : MtR X "list.append" rAppF := fun pins s σ H x xs v us Q I rx rxs ⟨l, y, e1, e2, zs, h, hz, q⟩ => mt_append pins s σ H x xs v us Q I rx rxs ⟨l, zs, y, e1, e2, h, hz, q⟩
def rPopF : V → List V → Hp → VK → Prop := fun x vs H Q => ∃ l i, x = .ref l ∧ vs = [.int i] ∧ ∃ xs, H l = some (.lst xs) ∧ -(2 ^ 63) ≤ i ∧ i < 2 ^ 63 ∧ ∃ k, seqIndex? i xs.length = some k ∧ ∃ y, xs[k]? = some y ∧ setAt H l (.lst (xs.eraseIdx k)) fun H' => Q y H'
theorem tLM_of {K : PySem.W.Frag} {r : V → List V → Hp → VK → Prop} {to : TE} {t : TA} {σ : St} {H : Hp} {Q : VK} (q : tLM r to t σ H Q) : tBM K "list" r (mon to) t σ H Q :=
  mon_of q fun _ _ ⟨_, e, xs, h, q⟩ => by
    subst e
    exact ⟨.inl ⟨rfl, xs, SqL.of h⟩, q⟩
def keyOf : V → Option Key
  | .int i => some (Sum.inl i)
  | .str x => some (Sum.inr x)
  | _ => none
theorem keyOf_kV {y : V} {k : Key} (h : keyOf y = some k) : y = kV k := by
  cases y <;> cases h <;> rfl
def tDGetF (td ty : TE) : TE := fun σ H Q => td σ H fun x H1 => ty σ H1 fun y H2 => ∃ a, x = .ref a ∧ ∃ kvs, H2 a = some (.dK kvs) ∧ ∃ k, keyOf y = some k ∧ ∃ v, valV kvs k = some v ∧ Q v H2
theorem pe_dgetF {o i : Expr} {pos : Pos} {td ty : TE} (hu : X.A.units + 1 < cLine) (ho : PE X o td) (hi : PE X i ty) (hs : NoSl i) : PE X (.Subscript o i pos) (tDGetF td ty) :=
  peI (pe_dget hu (pe_mon ho) (pe_mon hi) hs) fun _ _ _ q => mon_of q fun _ _ q => mon_of q fun _ _ ⟨a, e, kvs, hk, k, hy, v, hv, q⟩ => ⟨a, v, e, .inl ⟨kvs, k, .inl hk, keyOf_kV hy, hv.symm⟩, q⟩
def sDPutF (td ty tv : TE) : TS := fun D σ H => tv σ H fun v H1 => td σ H1 fun x H2 => ty σ H2 fun y H3 => ∃ a, x = .ref a ∧ ∃ kvs, H3 a = some (.dK kvs) ∧ ∃ k, keyOf y = some k ∧ kvs.length < sizeLine ∧ setAt H3 a (.dK (putK kvs k v)) fun H4 => D.nx σ H4
theorem ps_dputF {o i value : Expr} {pos pos' : Pos} {td ty tv : TE} (hu : X.A.units + 1 < cLine) (ho : PE X o td) (hi : PE X i ty) (hv : PE X value tv) (hs : swapsWith value (some (.Subscript o i pos')) pos.line X.env = pure false := by rfl) :
    PS X (.Assign [.Subscript o i pos'] value pos) (sDPutF td ty tv) :=
  psI (ps_dput hu (pe_mon ho) (pe_mon hi) (pe_mon hv) hs) fun _ _ _ q => mon_of q fun _ _ q => mon_of q fun _ _ q => mon_of q fun _ _ ⟨a, e, kvs, hk, k, hy, hl, q⟩ => ⟨a, _, e, .inl ⟨kvs, k, hk, keyOf_kV hy, hl, rfl⟩, q⟩
def keysOf : List (V × V) → Option (List (Key × V))
  | [] => some []
  | (x, v) :: r => (keyOf x).bind fun k => (keysOf r).map fun l => (k, v) :: l
theorem keysOf_is : ∀ {ps : List (V × V)} {kvs : List (Key × V)}, keysOf ps = some kvs → ps = kvs.map (fun kv => (kV kv.1, kv.2))
  | [], kvs, h => by
    cases h
    rfl
  | (x, v) :: r, kvs, h => by
    unfold keysOf at h
    cases e : keyOf x with
    | none => rw [e] at h; cases h
    | some k =>
      cases e2 : keysOf r with
      | none => rw [e, e2] at h; cases h
      | some l =>
        rw [e, e2] at h
        cases h
        rw [keyOf_kV e, keysOf_is e2]
        rfl
theorem tPairs_mon : ∀ {trs : List (TE × TE)} {σ : St} {H : Hp} {Q Q' : List (V × V) → Hp → Prop}, tPairs trs σ H Q → (∀ v H', Q v H' → Q' v H') → tPairs (trs.map fun p => (mon p.1, mon p.2)) σ H Q'
  | [], _, _, _, _, q, k => k _ _ q
  | (a, b) :: r, _, _, _, _, q, k => mon_of q fun _ _ q => mon_of q fun _ _ q => tPairs_mon q fun _ _ q => k _ _ q
def tDispF (trs : List (TE × TE)) : TE := fun σ H Q => newAt H (.dK []) fun p H1 => tPairs trs σ H1 fun ps H2 => H2 p = some (.dK []) ∧ ∃ kvs, keysOf ps = some kvs ∧ kvs.length ≤ 15 ∧ setAt H2 p (.dK (mergeK [] kvs)) fun H3 => Q (.ref p) H3
inductive PPm (X : Cx) (pos : Pos) : List (Option Expr) → List Expr → List (TE × TE) → Prop
  | nil : PPm X pos [] [] []
  | cons {k v : Expr} {ks : List (Option Expr)} {vs : List Expr} {tk tv : TE} {trs : List (TE × TE)} (hk : PE X k tk) (hv : PE X v tv) (hr : PPm X pos ks vs trs) : PPm X pos (some k :: ks) (v :: vs) ((tk, tv) :: trs)
theorem PPm.to {pos : Pos} {ks : List (Option Expr)} {vs : List Expr} {trs : List (TE × TE)} (h : PPm X pos ks vs trs) : PPs X pos ks vs (trs.map fun p => (mon p.1, mon p.2)) := by
  induction h with
  | nil => exact pps_nil
  | cons hk hv _ ih => exact pps_cons (pe_mon hk) (pe_mon hv) ih
theorem pe_dispF {pos : Pos} {keys : List (Option Expr)} {values : List Expr} {trs : List (TE × TE)} (h : PPm X pos keys values trs) (hall : keys.all (·.isSome) = true) (hl : keys.length = values.length) (h0 : keys ≠ []) (h15 : keys.length ≤ 15) : PE X (.Dict keys values pos) (tDispF trs) :=
  peI (pe_disp h.to hall hl h0 h15) fun _ _ _ q p hp => tPairs_mon (q p hp) fun _ _ ⟨h1, kvs, h2, h3, q⟩ => ⟨h1, kvs, keysOf_is h2, h3, q⟩
def sFldF (K : PySem.W.Frag) (ta tv : TE) (f : Str) : TS := fun D σ H => tv σ H fun y H1 => ta σ H1 fun x H2 => ∃ a, x = .ref a ∧ ∃ C dx fs, H2 a = some (.ins C dx fs) ∧ Cls K C ∧ NoAttr K C f ∧ fs.length < 1000 ∧ setAt H2 a (.ins C dx (putF f y fs)) fun H3 => D.nx σ H3
theorem ps_fldF {o value : Expr} {f : Str} {pos pos' : Pos} {ta tv : TE} (ha : PE X o ta) (hv : PE X value tv) (hs : swapsWith value (some (.Attribute o f pos')) pos.line X.env = pure false := by rfl) : PS X (.Assign [.Attribute o f pos'] value pos) (sFldF X.K ta tv f) :=
  psI (ps_fld (pe_mon ha) (pe_mon hv) hs) fun _ _ _ q => mon_of q fun _ _ q => mon_of q fun _ _ ⟨a, e, C, dx, fs, h, h1, h2, h3, q⟩ => ⟨a, C, dx, fs, e, h, h1, h2, h3, q⟩
def tFldF (K : PySem.W.Frag) (ta : TE) (f : Str) : TE := fun σ H Q => ta σ H fun x H1 => ∃ a, x = .ref a ∧ ∃ C dx fs, H1 a = some (.ins C dx fs) ∧ Cls K C ∧ NoAttr K C f ∧ ∃ v, fs.lookup f = some v ∧ Q v H1
theorem pe_fldF {e : Expr} {f : Str} {pos : Pos} {ta : TE} (he : PE X e ta) (hb : attributeBase e f X.env (eval e X.env) = eval e X.env := by rfl) : PE X (.Attribute e f pos) (tFldF X.K ta f) :=
  peI (pe_fld (pe_mon he) hb) fun _ _ _ q => mon_of q fun _ _ ⟨a, e, C, dx, fs, h, h1, h2, v, hv, q⟩ => ⟨a, C, dx, fs, v, e, h, h1, h2, hv, q⟩
/-- xs[i] = e -/
def rSetF : TSet := fun o i v H Q => ∃ p k, o = .ref p ∧ i = .int k ∧ ∃ xs, H p = some (.lst xs) ∧ ∃ j, ixN xs.length k = some j ∧ setAt H p (.lst (xs.set j v)) Q
theorem setF : PSet X rSetF := fun pins s σ H o i v ov iv u Q I ro ri rv ⟨p, k, e1, e2, xs, h, j, hj, q⟩ => set_list pins s σ H o i v ov iv u Q I ro ri rv ⟨p, xs, k, j, e1, e2, h, hj, q⟩
end
theorem sz_le {n : Nat} (h : n ≤ 16777216) : n ≤ sizeLine := by rw [sizeLine_eq]; exact h
theorem sz_lt {n : Nat} (h : n < 16777216) : n < sizeLine := by rw [sizeLine_eq]; exact h
end Fab
set_option maxHeartbeats 4000000
namespace Fab
open PySem L2
def top (i : Nat) : Stmt := PySem.Challenge.pw_faceabout_k41_rows_listed.main.body.getD i (.Pass ⟨0, 0, 0, 0⟩)
abbrev sMixed : Stmt := top 24
abbrev sFolded : Stmt := top 25
abbrev sDraw : Stmt := top 26
abbrev sBegun : Stmt := top 27
/-- built-in names that stand as the boot leaves them -/
structure Blt (mg : Str → Option Value) : Prop where
  int : mg "int" = none
  len : mg "len" = none
  range : mg "range" = none
  enumerate : mg "enumerate" = none
  list : mg "list" = none
  tuple : mg "tuple" = none
  isinstance : mg "isinstance" = none
  valueError : mg "ValueError" = none
  zip : mg "zip" = none
  abs : mg "abs" = none
  repr : mg "repr" = none
  set : mg "set" = none
  max : mg "max" = none
  bool : mg "bool" = none
  overflowError : mg "OverflowError" = none
  all : mg "all" = none
  str : mg "str" = none
  sorted : mg "sorted" = none
  sum : mg "sum" = none
  min : mg "min" = none
/-- a def of the text, with its promise -/
structure Dn (P : Program) (w : World) (K : PySem.W.Frag) (mg : Str → Option Value) (base : Heap) (k : Nat) (x : Str) (f : Addr) (fd : FuncData) (ps : List Str) (sp : Sp) : Prop where
  ok : FnOk P w K mg base CX0 k f fd ps sp
  mgf : mg x = some (.ref f)
  kp : PySem.W.keepIn K (.ref f) = true
  bi : Binds K fd ps []
theorem sq_lst {xs : List V} : sq (.lst xs) = some xs := rfl
theorem sq_tup {xs : List V} : sq (.tup xs) = some xs := rfl
local macro_rules | `(tactic| walk_at "s") => `(tactic| simp [tSeq, tAsg, tOp, tUn, tVar, tC, gName, tCons, tNil, tCB, tCall, rI, rI0, rU, tRet, tDrop, tIfS, tNext, tIf, tTest, tB, L2.start, CMul, CDiv, tDGetF, sDPutF, keyOf, rIxF, rLenF, rIntF, sq_lst, sq_tup, tLstF, rSetF, gSub, tDispF, tPairs, keysOf])
def dm (c g : Addr) (n : Nat) : HO := .dK [(Sum.inr "cells", .ref c), (Sum.inr "great", .ref g), (Sum.inr "spot", .int (n : Int))]
/-- the state from which numbers are drawn -/
def drs (m c g : Addr) (cs gs : List Int) (n : Nat) : List (Addr × HO) := [(m, dm c g n), (c, .lst (cs.map V.int)), (g, .lst (gs.map V.int))]
theorem dm_cells {c g : Addr} {z : V} : valV [((Sum.inr "cells" : Key), V.ref c), (Sum.inr "great", .ref g), (Sum.inr "spot", z)] (Sum.inr "cells") = some (.ref c) := by kernel_rfl
theorem dm_great {c g : Addr} {z : V} : valV [((Sum.inr "cells" : Key), V.ref c), (Sum.inr "great", .ref g), (Sum.inr "spot", z)] (Sum.inr "great") = some (.ref g) := by kernel_rfl
theorem dm_spot {c g : Addr} {z : V} : valV [((Sum.inr "cells" : Key), V.ref c), (Sum.inr "great", .ref g), (Sum.inr "spot", z)] (Sum.inr "spot") = some z := by kernel_rfl
theorem dm_put {c g : Addr} {z y : V} : putK [((Sum.inr "cells" : Key), V.ref c), (Sum.inr "great", .ref g), (Sum.inr "spot", z)] (Sum.inr "spot") y = [((Sum.inr "cells" : Key), V.ref c), (Sum.inr "great", .ref g), (Sum.inr "spot", y)] := by kernel_rfl
theorem dm_put2 {c g y : Addr} {z : V} : putK [((Sum.inr "cells" : Key), V.ref c), (Sum.inr "great", .ref g), (Sum.inr "spot", z)] (Sum.inr "great") (.ref y) = [((Sum.inr "cells" : Key), V.ref c), (Sum.inr "great", .ref y), (Sum.inr "spot", z)] := by kernel_rfl
theorem atI_ints {ns : List Int} {i : Int} (h0 : 0 ≤ i) (h1 : i < ns.length) : ∃ z, z ∈ ns ∧ atI (ns.map V.int) i = some (.int z) := by
  have hl : i.toNat < ns.length := by omega
  refine ⟨ns[i.toNat], List.getElem_mem hl, ?_⟩
  unfold atI ixN
  rw [if_pos h0, if_pos (by rw [List.length_map]; exact h1)]
  simp [List.getElem?_eq_getElem hl]
theorem ixN_ints {n : Nat} {i : Int} (h0 : 0 ≤ i) (h1 : i < n) : ixN n i = some i.toNat := by
  unfold ixN
  rw [if_pos h0, if_pos h1]
theorem dp_ints {K : PySem.W.Frag} {H : Hp} : ∀ (ns : List Int), DpAll K H (ns.map V.int) (ns.map PyData.int)
  | [] => .nil
  | n :: r => .cons (.int n) (dp_ints r)
theorem shaped_ints (ns : List Int) : SeqAt.shaped (.list (ns.map PyData.int)) = true := PySem.W.ke_shaped_ints ns
section
variable {P : Program} {w : World} {K : PySem.W.Frag} {mg : Str → Option Value} {base : Heap}
def spMixed : Sp := fun vs H Q _ => ∃ (c : Int) (n : Nat), vs = [.int c, .int (n : Int)] ∧ n < 2 ^ 41 ∧ ∀ r : Int, Q (.int r) H
theorem scMixed : FnScope ["cell", "n", "blend"] ["cell", "n"] (defScope sMixed) := ⟨rfl, rfl, rfl, by decide +kernel, rfl, by decide +kernel, by decide +kernel⟩
theorem ok_mixed {f : Addr} {fd : FuncData} (F : Fun K "_law_mixed" "_law_mixed" sMixed f fd) (B : Blt mg) : FnOk P w K mg base CX0 1 f fd ["cell", "n"] spMixed := by
  refine F.ok scMixed (fun vs H Q E h => ?_) (fun cdv A outer s H vs Q E hr h => ?_)
  · obtain ⟨c, n, rfl, _⟩ := h
    rfl
  · obtain ⟨c, n, rfl, hn, k⟩ := h
    have hu := hu_of hr
    refine ⟨_, (pss_cons (ps_set (i := 2) scMixed.nd rfl (by first | exact Or.inl rfl | exact Or.inr rfl) (pe_op op_add (pe_op op_add (pe_op op_mod (pe_callTy intF (by rfl) B.int (by decide +kernel) (pa_cons (pe_op op_mul (pe_op op_mul (pv 0) (pe_op op_add pe_int (pe_op op_mul pe_int (pv 1)))) pe_int) pa_nil)) pe_int) (pe_op op_mul (pe_op op_mul pe_int (pv 1)) (pv 1))) (pe_op op_mul pe_int (pv 1))))
      (pss_one (ps_ret (pe_op op_fdiv (pe_op op_mod (pe_callTy intF (by rfl) B.int (by decide +kernel) (pa_cons (pe_op op_mul (pv 2) pe_int) pa_nil)) pe_int) pe_int)))), ?_⟩
    walk_at "s"
    exact ⟨.inr ⟨by omega, by omega⟩, .inr ⟨by omega, by omega⟩, k _⟩
/-- a number below lim, another state -/
def spDraw : Sp := fun vs H Q _ => ∃ (m : Addr) (lim : Int) (c g : Addr) (cs gs : List Int) (n : Nat), vs = [.ref m, .int lim] ∧ 0 < lim ∧ lim < 1000000000 ∧ H m = some (dm c g n) ∧ H c = some (.lst (cs.map V.int)) ∧ H g = some (.lst (gs.map V.int)) ∧ c ≠ g ∧ cs.length = 64 ∧ n < 2 ^ 40 ∧
  ∀ (r : Int) (gs' : List Int) (H' : Hp), 0 ≤ r → r < lim → H' m = some (dm c g (n + 1)) → H' c = some (.lst (cs.map V.int)) → H' g = some (.lst (gs'.map V.int)) → (∀ a o, H a = some o → a ≠ m → a ≠ g → H' a = some o) → Q (.int r) H'
theorem scDraw : FnScope ["m", "limit", "n", "lot", "here", "cell"] ["m", "limit"] (defScope sDraw) := ⟨rfl, rfl, rfl, by decide +kernel, rfl, by decide +kernel, by decide +kernel⟩
theorem ok_draw {f fM : Addr} {fd fdM : FuncData} (F : Fun K "_law_draw" "_law_draw" sDraw f fd) (B : Blt mg) (cMixed : Dn P w K mg base 1 "_law_mixed" fM fdM ["cell", "n"] spMixed) : FnOk P w K mg base CX0 2 f fd ["m", "limit"] spDraw := by
  refine F.ok scDraw (fun vs H Q E h => ?_) (fun cdv A outer s H vs Q E hr h => ?_)
  · obtain ⟨m, lim, c, g, cs, gs, n, rfl, _⟩ := h
    rfl
  · obtain ⟨m, lim, c, g, cs, gs, n, rfl, h0, h1, hm, hc, hg, hcg, hcs, hn, k⟩ := h
    have hu := hu_of hr
    refine ⟨_, (pss_cons (ps_set (i := 2) scDraw.nd rfl (by first | exact Or.inl rfl | exact Or.inr rfl) (pe_dgetF hu (pv 0) pe_str (fun _ _ => rfl)))
      (pss_cons (ps_dputF hu (pv 0) pe_str (pe_op op_add (pv 2) pe_int))
      (pss_cons (ps_if (pt_cmpR (op_neD hr.units) (pe_dgetF hu (pv 0) pe_str (fun _ _ => rfl)) (pe_lstF pa_nil) (nomark _)) (pss_cons (ps_set (i := 3) scDraw.nd rfl (by first | exact Or.inl rfl | exact Or.inr rfl) (pe_dgetF hu (pv 0) pe_str (fun _ _ => rfl)))
      (pss_cons (ps_set (i := 4) scDraw.nd rfl (by first | exact Or.inl rfl | exact Or.inr rfl) (pe_op op_mod (pe_callTy intF (by rfl) B.int (by decide +kernel) (pa_cons (pv 2) pa_nil)) (pe_callB lenF (by rfl) B.len (by decide +kernel) (pa_cons (pv 3) pa_nil))))
      (pss_cons (ps_set (i := 5) scDraw.nd rfl (by first | exact Or.inl rfl | exact Or.inr rfl) (pe_ix ixF (pv 3) (pv 4) (fun _ _ => rfl)))
      (pss_one (ps_if (pt_cmpR op_gt (pv 5) pe_int (nomark _)) (pss_cons (ps_asg (pe_op op_fdiv (pv 5) (pv 1)) (pg_sub (pv 3) (pv 4) setF))
      (pss_one (ps_ret (pe_op op_mod (pe_callTy intF (by rfl) B.int (by decide +kernel) (pa_cons (pv 5) pa_nil)) (pv 1))))) pss_nil))))) pss_nil)
      (pss_cons (ps_set (i := 3) scDraw.nd rfl (by first | exact Or.inl rfl | exact Or.inr rfl) (pe_dgetF hu (pv 0) pe_str (fun _ _ => rfl)))
      (pss_one (ps_ret (pe_op op_mod (pe_callTy intF (by rfl) B.int (by decide +kernel) (pa_cons (pe_call cMixed.ok (hr.mono (by decide)) rfl cMixed.mgf cMixed.kp cMixed.bi .nil pass0 (pa_cons (pe_call cMixed.ok (hr.mono (by decide)) rfl cMixed.mgf cMixed.kp cMixed.bi .nil pass0 (pa_cons (pe_op op_add (pe_ix ixF (pv 3) (pe_op op_mod (pe_callTy intF (by rfl) B.int (by decide +kernel) (pa_cons (pv 2) pa_nil)) pe_int) (fun _ _ => rfl)) (pe_op op_mul pe_int (pe_op op_fdiv (pv 2) pe_int))) (pa_cons (pv 2) pa_nil))) (pa_cons (pe_op op_add (pv 2) pe_int) pa_nil))) pa_nil)) (pv 1)))))))), ?_⟩
    walk_at "s"
    have mc : c ≠ m := (ne_of hm hc (by unfold dm; intro z; cases z)).symm
    have mg_ : m ≠ g := ne_of hm hg (by unfold dm; intro z; cases z)
    obtain ⟨H0, e0⟩ : ∃ H0 : Hp, H0 = fun a => if a = m ∨ a = g then none else H a := ⟨_, rfl⟩
    have h0c : H0 c = some (.lst (cs.map V.int)) := by rw [e0]; simp [mc, hcg, hc]
    have h0k : ∀ a o, H a = some o → a ≠ m → a ≠ g → H0 a = some o := fun a o h n1 n2 => by rw [e0]; simp [n1, n2, h]
    have v0 : VW H0 H [(m, dm c g n), (g, .lst (gs.map V.int))] [] :=
      ⟨by simp [hm, hg], by simp [mg_], by simp [e0], (fun a o h => by
        rw [e0] at h
        by_cases z : a = m ∨ a = g
        · simp [z] at h
        · simpa [z] using h), (fun _ h => nomatch h)⟩
    have fin : ∀ (r : Int) (gs' : List Int) (H' : Hp) (L : List (Addr × HO)), VW H0 H' L [] → (m, dm c g (n + 1)) ∈ L → (g, HO.lst (gs'.map V.int)) ∈ L → 0 ≤ r → r < lim → Q (.int r) H' := fun r gs' H' L v i1 i2 r0 r1 =>
      k r gs' H' r0 r1 (v.at_ _ i1) (v.fr _ _ h0c) (v.at_ _ i2) fun a o h n1 n2 => v.fr _ _ (h0k a o h n1 n2)
    refine ⟨_, hm, _, dm_spot, _, rfl, _, hm, sz_lt (by simp), ?_⟩
    rw [dm_put]
    refine view_set v0 0 rfl rfl fun H1 v1 => ?_
    obtain ⟨a1, a2, _⟩ := v1.facts
    refine ⟨_, a1, _, dm_great, view_new v1 fun p H2 v2 => ?_⟩
    obtain ⟨b0, b1, b2, _⟩ := v2.facts
    refine ⟨.list (gs.map PyData.int), .list [], .lst (SqL.of b2) (dp_ints gs), .lst (SqL.of b0) .nil, shaped_ints gs, by decide, ?_⟩
    have hb : (!(PyData.eqv (.list (gs.map PyData.int)) (.list []))) = !gs.isEmpty := by cases gs <;> rfl
    rw [hb]
    -- the way on: a cell, mixed
    have cell : ∀ (H' : Hp) (gs' : List Int) (L : List (Addr × HO)), VW H0 H' L [] → (m, dm c g (n + 1)) ∈ L → (g, HO.lst (gs'.map V.int)) ∈ L → ∃ v, atI (cs.map V.int) ((n : Int) % 64) = some v ∧ ∃ j, V.int n = V.int j ∧ ∃ i, v = V.int i ∧
        spMixed [V.int (i + 31 * (j / 64)), V.int n] H' (fun x H1 => ∃ i, V.int n = V.int i ∧ spMixed [x, V.int (i + 7)] H1 (fun x H1 => ∃ i, x = V.int i ∧ 0 < lim ∧ Q (V.int (i % lim)) H1) E0) E0 := fun H' gs' L v i1 i2 => by
      obtain ⟨z, _, hz⟩ := atI_ints (ns := cs) (i := (n : Int) % 64) (by omega) (by omega)
      refine ⟨_, hz, _, rfl, z, rfl, _, n, rfl, by omega, fun r => ⟨_, rfl, r, n + 7, rfl, by omega, fun r2 => ⟨_, rfl, h0, ?_⟩⟩⟩
      exact fin _ gs' H' L v i1 i2 (Int.emod_nonneg _ (by omega)) (Int.emod_lt_of_pos _ h0)
    cases gs with
    | nil => exact .inl ⟨rfl, _, b1, _, dm_cells, _, rfl, c, rfl, _, v2.fr _ _ h0c, _, sq_lst, cell H2 [] _ v2 (by simp [dm]) (by simp)⟩
    | cons y ys =>
      have hl : ((((y :: ys).map V.int).length : Nat) : Int) = ((y :: ys).length : Nat) := by rw [List.length_map]
      have q0 : 0 ≤ (n : Int) % (((y :: ys).map V.int).length : Nat) := Int.emod_nonneg _ (by rw [hl, List.length_cons]; omega)
      have q1 : (n : Int) % (((y :: ys).map V.int).length : Nat) < ((y :: ys).length : Nat) := by rw [hl]; exact Int.emod_lt_of_pos _ (by simp)
      have q2 : (n : Int) % (((y :: ys).map V.int).length : Nat) < (((y :: ys).map V.int).length : Nat) := Int.emod_lt_of_pos _ (by rw [hl, List.length_cons]; omega)
      obtain ⟨z, _, hz⟩ := atI_ints (ns := y :: ys) q0 q1
      refine .inr ⟨rfl, _, b1, _, dm_great, _, rfl, g, rfl, _, b2, _, sq_lst, by simp, _, rfl, _, b2, _, sq_lst, _, hz, z, rfl, ?_⟩
      refine ite2 (fun hp => ?_) (fun hp => ?_)
      · refine ⟨_, rfl, ⟨h0, by omega⟩, _, rfl, _, b2, _, ixN_ints q0 q2, ?_⟩
        refine view_set v2 2 rfl rfl fun H3 v3 => ?_
        refine ⟨_, rfl, h0, ?_⟩
        rw [show ((y :: ys).map V.int).set ((n : Int) % (((y :: ys).map V.int).length : Nat)).toNat (V.int (z / lim)) = ((y :: ys).set ((n : Int) % (((y :: ys).map V.int).length : Nat)).toNat (z / lim)).map V.int from List.map_set.symm] at v3
        exact fin _ ((y :: ys).set ((n : Int) % (((y :: ys).map V.int).length : Nat)).toNat (z / lim)) _ _ v3 (by simp [dm]) (by simp) (Int.emod_nonneg _ (by omega)) (Int.emod_lt_of_pos _ h0)
      · exact ⟨_, b1, _, dm_cells, _, rfl, c, rfl, _, v2.fr _ _ h0c, _, sq_lst, cell H2 (y :: ys) _ v2 (by simp [dm]) (by simp)⟩
/-- sixty-four numbers -/
def spFolded (K : PySem.W.Frag) : Sp := fun vs H Q _ => ∃ (a : Addr) (ns : List Int), vs = [.ref a] ∧ SqL K H a (ns.map V.int) ∧ ns.length ≤ 63 ∧ ∀ (p : Addr) (cs : List Int) (H' : Hp), H p = none → (∀ b o, H b = some o → H' b = some o) → H' p = some (.lst (cs.map V.int)) → cs.length = 64 → Q (.ref p) H'
theorem scFolded : FnScope ["script", "found", "n", "cell"] ["script"] (defScope sFolded) := ⟨rfl, rfl, rfl, by decide +kernel, rfl, by decide +kernel, by decide +kernel⟩
theorem set_ints {cs : List Int} {j : Nat} {z : Int} : (cs.map V.int).set j (.int z) = (cs.set j z).map V.int := List.map_set.symm
theorem ok_folded {f : Addr} {fd : FuncData} (F : Fun K "_law_folded" "_law_folded" sFolded f fd) (B : Blt mg) : FnOk P w K mg base CX0 1 f fd ["script"] (spFolded K) := by
  refine F.ok scFolded (fun vs H Q E h => ?_) (fun cdv A outer s H vs Q E hr h => ?_)
  · obtain ⟨a, ns, rfl, _⟩ := h
    rfl
  · obtain ⟨a, ns, rfl, hS, hlen, k⟩ := h
    have hu := hu_of hr
    refine ⟨_, (pss_cons (ps_setLc (i := 1) (own := [("n", 2)]) (tt := tYes) rfl scFolded.nd rfl rfl (sw_true rfl rfl rfl (by decide +kernel)) (pi_range1 (by rfl) B.range (pa_cons pe_int pa_nil)) (blkOk_by (own := [("n", 2)]) (N := ["script", "found", "n", "cell"]) (sc := defScope sFolded) (by decide +kernel)) (fun _ _ _ _ _ => (pg_name (i := 2) scFolded.nd rfl (by first | exact Or.inl rfl | exact Or.inr rfl))) (fun _ _ _ _ _ => pts_nil) (fun _ _ _ _ _ => (pe_op op_add pe_int (pv 2))))
      (pss_cons (ps_for PassesOwn.never rfl (pi_enum (by rfl) B.enumerate (pa_cons (pv 0) pa_nil)) (pg_tup (by rfl) (pgs_cons (pg_name (i := 2) scFolded.nd rfl (by first | exact Or.inl rfl | exact Or.inr rfl)) (pgs_cons (pg_name (i := 3) scFolded.nd rfl (by first | exact Or.inl rfl | exact Or.inr rfl)) pgs_nil))) (pss_one (ps_asg (pe_op op_mod (pe_callTy intF (by rfl) B.int (by decide +kernel) (pa_cons (pe_op op_add (pe_op op_mul (pe_ix ixF (pv 1) (pe_op op_mod (pe_callTy intF (by rfl) B.int (by decide +kernel) (pa_cons (pv 2) pa_nil)) pe_int) (fun _ _ => rfl)) pe_int) (pv 3)) pa_nil)) pe_int) (pg_sub (pv 1) (pe_op op_mod (pe_callTy intF (by rfl) B.int (by decide +kernel) (pa_cons (pv 2) pa_nil)) pe_int) setF))))
      (pss_cons (ps_for PassesOwn.never rfl (pi_range2 (by rfl) B.range (pa_cons pe_int (pa_cons pe_int pa_nil))) (pg_name (i := 2) scFolded.nd rfl (by first | exact Or.inl rfl | exact Or.inr rfl)) (pss_one (ps_asg (pe_op op_mod (pe_callTy intF (by rfl) B.int (by decide +kernel) (pa_cons (pe_op op_add (pe_ix ixF (pv 1) (pv 2) (fun _ _ => rfl)) (pe_op op_mul (pe_ix ixF (pv 1) (pe_op op_sub (pv 2) pe_int) (fun _ _ => rfl)) pe_int)) pa_nil)) pe_int) (pg_sub (pv 1) (pv 2) setF))))
      (pss_one (ps_ret (pv 1)))))), ?_⟩
    -- found = [17 + n for n in range(64)]
    refine ⟨64, rfl, by decide, by decide, fun D hD => lc_range (lo := 0) (n := 64) (fun i H' => ∃ cs : List Int, cs.length = i ∧ VW H H' [(D, .lst (cs.map V.int))] []) ⟨[], rfl, VW.start.push hD⟩ ?_ ?_⟩
    · rintro i H' hi ⟨cs, hc, v⟩
      refine ⟨rfl, _, rfl, _, _, rfl, rfl, cs.map V.int, (v.facts).1, sz_lt (by rw [List.length_map]; omega), ?_⟩
      exact ⟨cs ++ [17 + (0 + (i : Int))], by simp [hc], by
        have := v.put (o := .lst ((cs ++ [17 + (0 + (i : Int))]).map V.int)) 0 rfl rfl
        simpa using this⟩
    · rintro H1 ⟨cs0, hc0, v0⟩
      -- for n, cell in enumerate(script)
      have inv : ∀ (i : Nat) (σ : L2.St) (H' : Hp), (∃ (cs : List Int) (u1 u2 : Option V), cs.length = 64 ∧ σ = [some (.ref a), some (.ref D), u1, u2] ∧ VW H H' [(D, .lst (cs.map V.int))] []) → SqL K H' a (ns.map V.int) := fun i σ H' ⟨cs, _, _, _, _, v⟩ => Same.seq (fun b o e => v.fr b o e) hS
      refine ⟨_, rfl, a, ns.map V.int, rfl, Same.seq (fun b o e => v0.fr b o e) hS, for_it (walk_enum (K := K) (a := a) (xs := ns.map V.int)) (fun i σ H' => ∃ (cs : List Int) (u1 u2 : Option V), cs.length = 64 ∧ σ = [some (.ref a), some (.ref D), u1, u2] ∧ VW H H' [(D, .lst (cs.map V.int))] [])
        ⟨cs0, none, none, hc0, rfl, v0⟩ (fun i σ H' _ h => inv i σ H' h) ?_ ?_⟩
      · rintro i x σ H' H2 hi ⟨cs, u1, u2, hc, rfl, v⟩ ⟨T, y1, y2, rfl, hT, rfl, e1, e2⟩
        cases e1
        rw [List.length_map] at hi
        dsimp only at e2
        rw [List.getElem?_map, List.getElem?_eq_getElem hi] at e2
        cases e2
        have v' := (v.push (o := .tup [.int (i : Nat), .int ns[i]]) hT)
        obtain ⟨f0, f1, _⟩ := v'.facts
        obtain ⟨z, _, hz⟩ := atI_ints (ns := cs) (i := (i : Int) % 64) (by omega) (by omega)
        refine ⟨T, _, rfl, SqT.of f0, rfl, _, _, rfl, _, _, rfl, rfl, ?_⟩
        simp [tAsg, tOp, tVar, tC, gName, tCons, tNil, tCB, rI, rI0, rIntF, rIxF, gSub, CMul, rSetF]
        refine ⟨_, f1, _, sq_lst, _, hz, _, rfl, _, f1, _, ixN_ints (by omega) (by rw [List.length_map]; omega), ?_⟩
        refine view_set v' 1 rfl rfl fun H3 v3 => ?_
        refine ⟨cs.set ((i : Int) % 64).toNat ((z * 48271 + ns[i]) % 2147483647), by rw [List.length_set]; exact hc, ?_⟩
        rw [← set_ints]
        exact v3.drop (List.Sublist.cons _ (List.Sublist.refl _)) (fun _ h => h)
      · rintro σ H1 ⟨cs, u1, u2, hc, rfl, v⟩
        -- for n in range(1, 64)
        refine ⟨1, 64, rfl, ⟨by decide, by decide, by decide, by decide⟩, for_it (walk_range (lo := 1) (n := 63)) (fun i σ H' => ∃ (cs : List Int) (u1 : Option V), cs.length = 64 ∧ σ = [some (.ref a), some (.ref D), u1, u2] ∧ VW H H' [(D, .lst (cs.map V.int))] [])
          ⟨cs, u1, hc, rfl, v⟩ (fun _ _ _ _ _ => True.intro) ?_ ?_⟩
        · rintro i x σ H' H2 hi ⟨cs, u1, hc, rfl, v⟩ ⟨rfl, rfl⟩
          obtain ⟨f1, _⟩ := v.facts
          obtain ⟨z, _, hz⟩ := atI_ints (ns := cs) (i := 1 + (i : Int)) (by omega) (by omega)
          obtain ⟨y, _, hy⟩ := atI_ints (ns := cs) (i := 1 + (i : Int) - 1) (by omega) (by omega)
          simp [tAsg, tOp, tVar, tC, gName, tCons, tNil, tCB, rI, rI0, rIntF, rIxF, gSub, CMul, rSetF]
          refine ⟨_, f1, _, sq_lst, _, hz, _, f1, _, sq_lst, _, hy, _, rfl, _, rfl, _, f1, _, ixN_ints (by omega) (by rw [List.length_map]; omega), ?_⟩
          refine view_set v 0 rfl rfl fun H3 v3 => ?_
          refine ⟨cs.set (1 + (i : Int)).toNat ((z + y * 16807) % 2147483647), by rw [List.length_set]; exact hc, ?_⟩
          rw [← set_ints]
          exact v3
        · rintro σ H1 ⟨cs, u1, hc, rfl, v⟩
          refine ⟨_, rfl, ?_⟩
          have nD : H D = none := v.own _ List.mem_cons_self
          exact k D cs H1 nD v.fr v.facts.1 hc
/-- the state, begun -/
def spBegun (K : PySem.W.Frag) : Sp := fun vs H Q _ => ∃ (a : Addr) (ns : List Int), vs = [.ref a] ∧ SqL K H a (ns.map V.int) ∧ ns.length ≤ 63 ∧ ∀ (m c g : Addr) (cs gs : List Int) (H' : Hp), VW H H' (drs m c g cs gs 0) [] → cs.length = 64 → Q (.ref m) H'
theorem scBegun : FnScope ["script", "m", "cell"] ["script"] (defScope sBegun) := ⟨rfl, rfl, rfl, by decide +kernel, rfl, by decide +kernel, by decide +kernel⟩
theorem ok_begun {f fF : Addr} {fd fdF : FuncData} (F : Fun K "_law_begun" "_law_begun" sBegun f fd) (B : Blt mg) (cFolded : Dn P w K mg base 1 "_law_folded" fF fdF ["script"] (spFolded K)) : FnOk P w K mg base CX0 2 f fd ["script"] (spBegun K) := by
  refine F.ok scBegun (fun vs H Q E h => ?_) (fun cdv A outer s H vs Q E hr h => ?_)
  · obtain ⟨a, ns, rfl, _⟩ := h
    rfl
  · obtain ⟨a, ns, rfl, hS, hlen, k⟩ := h
    have hu := hu_of hr
    refine ⟨_, (pss_cons (ps_set (i := 1) scBegun.nd rfl (by first | exact Or.inl rfl | exact Or.inr rfl) (pe_dispF (.cons pe_str (pe_call cFolded.ok (hr.mono (by decide)) rfl cFolded.mgf cFolded.kp cFolded.bi .nil pass0 (pa_cons (pv 0) pa_nil)) (.cons pe_str (pe_lstF pa_nil) (.cons pe_str pe_int .nil))) (by rfl) (by rfl) (fun z => by cases z) (by decide)))
      (pss_cons (ps_dputF hu (pv 1) pe_str (pe_lc (own := [("cell", 2)]) (tt := tYes) rfl scBegun.nd (pi_list (pv 0)) (blkOk_by (own := [("cell", 2)]) (N := ["script", "m", "cell"]) (sc := defScope sBegun) (by decide +kernel)) (fun _ _ _ _ _ => (pg_name (i := 2) scBegun.nd rfl (by first | exact Or.inl rfl | exact Or.inr rfl))) (fun _ _ _ _ _ => pts_nil) (fun _ _ _ _ _ => (pe_ifExp (pt_cmpR op_ge (pv 2) (pe_op op_pow pe_int pe_int) (nomark _)) (pv 2) pe_int))))
      (pss_one (ps_ret (pv 1))))), ?_⟩
    unfold tSeq tAsg tDispF
    refine view_new (VW.start (H := H)) fun m H1 v1 => ?_
    refine ⟨_, rfl, a, ns, rfl, Same.seq (fun b o e => v1.fr b o e) hS, hlen, fun c cs H2 hc hk hcs hl => ?_⟩
    have v2 : VW H H2 [(m, .dK []), (c, .lst (cs.map V.int))] [] := by
      have mc : m ≠ c := fun z => by rw [← z, v1.facts.1] at hc; cases hc
      refine ⟨by simp [hcs, hk m _ v1.facts.1], by simp [mc], ?_, (fun b o e => hk b o (v1.fr b o e)), (fun _ h => nomatch h)⟩
      intro p hp
      simp only [List.mem_cons, List.not_mem_nil, or_false] at hp
      rcases hp with rfl | rfl
      · exact v1.own _ List.mem_cons_self
      · cases e : H c with
        | none => rfl
        | some o => rw [v1.fr c o e] at hc; cases hc
    refine ⟨Nat.zero_le _, view_new v2 fun g0 H3 v3 => ?_⟩
    obtain ⟨f0, f1, f2, _⟩ := v3.facts
    refine ⟨f1, [(Sum.inr "cells", .ref c), (Sum.inr "great", .ref g0), (Sum.inr "spot", .int 0)], by kernel_rfl, by simp, ?_⟩
    refine view_set v3 1 rfl rfl fun H4 v4 => ?_
    rw [show mergeK [] [((Sum.inr "cells" : Key), V.ref c), (Sum.inr "great", .ref g0), (Sum.inr "spot", .int 0)] = [((Sum.inr "cells" : Key), V.ref c), (Sum.inr "great", .ref g0), (Sum.inr "spot", .int 0)] by kernel_rfl] at v4
    -- m['great'] = [cell if cell >= 10 ** 18 else 0 for cell in script]
    refine ⟨_, rfl, a, rfl, ⟨_, Same.seq (fun b o e => v4.fr b o e) hS⟩, fun D hD => lc_it (walk_list (K := K) (a := a) (xs := ns.map V.int)) (fun i H' => ∃ gs : List Int, gs.length = i ∧ VW H H' ((D, .lst (gs.map V.int)) :: [(g0, HO.lst []), (m, _), (c, .lst (cs.map V.int))]) []) ⟨[], rfl, v4.push hD⟩
      (fun i H' _ ⟨gs, _, v⟩ => Same.seq (fun b o e => v.fr b o e) hS) ?_ ?_⟩
    · rintro i x H' H2' hi ⟨gs, hg, v⟩ ⟨rfl, hx⟩
      rw [List.length_map] at hi
      rw [List.getElem?_map, List.getElem?_eq_getElem hi] at hx
      cases hx
      have fin : ∀ z : Int, ∃ acc, H2' D = some (.lst acc) ∧ acc.length < sizeLine ∧ ∃ gs : List Int, gs.length = i + 1 ∧ VW H (upd H2' D (.lst (acc ++ [V.int z]))) ((D, .lst (gs.map V.int)) :: [(g0, HO.lst []), (m, _), (c, .lst (cs.map V.int))]) [] := fun z => by
        refine ⟨_, v.facts.1, sz_lt (by rw [List.length_map]; omega), gs ++ [z], by simp [hg], ?_⟩
        have := v.put (o := .lst (gs.map V.int ++ [V.int z])) 0 rfl rfl
        simpa using this
      refine ⟨rfl, ?_⟩
      simp [tYes, tIf, tTest, tOp, tVar, tC, rI, rI0, wipe, gName, L2.start]
      refine ⟨⟨by decide, by decide⟩, ?_⟩
      refine ite2 (fun _ => fin _) (fun _ => fin 0)
    · rintro H5 ⟨gs, hg, v5⟩
      obtain ⟨e0, e1, e2, e3, _⟩ := v5.facts
      refine ⟨_, rfl, m, rfl, _, e2, _, rfl, sz_lt (by simp), ?_⟩
      rw [dm_put2]
      refine view_set v5 2 rfl rfl fun H6 v6 => ?_
      refine ⟨_, rfl, k m c D cs gs H6 ?_ hl⟩
      have n := v6.nd
      refine ⟨fun p hp => v6.at_ p ?_, ?_, fun p hp => v6.own p ?_, v6.fr, v6.tu⟩
      · simp [drs, dm] at hp ⊢
        rcases hp with rfl | rfl | rfl <;> simp
      · simp [drs] at n ⊢
        grind
      · simp [drs, dm] at hp ⊢
        rcases hp with rfl | rfl | rfl <;> simp
end
end Fab
set_option maxHeartbeats 4000000
namespace Fab
open PySem L2
open PyProof.Rows (envOfC)
theorem guards_deeper {A : Around} {env : Env} : (A.deeper env).guards = A.guards := by
  first | rfl | (unfold Around.deeper; rfl) | (cases A; simp [Around.deeper])
theorem guards_caller : callerA.guards = some [] := by first | rfl | decide | simp [callerA]
/-- a def keeps its promise where nothing is being told by repr -/
structure FnG (P : Program) (w : World) (K : PySem.W.Frag) (mg : Str → Option Value) (base : Heap) (CX : CXT) (k : Nat) (f : Addr) (fd : FuncData) (ps : List Str) (sp : Sp) : Prop where
  len : ∀ vs H Q E, sp vs H Q E → vs.length = ps.length
  run : ∀ (A : Around) (outer : List Env) (s : Shared) (H : Hp) (args : Args) (us : List Value) (vs : List V) (Q : VK) (E : XK), A.guards = some [] → Room k A → Env0 P w K mg base A outer s H → BindsTo s fd args (ps.zip us) → Vals vs us → sp vs H Q E →
    codeAny (model P w) A (.call (.ref f) args) (CR CX outer P w H s Q E) s
section
variable {P : Program} {w : World} {K : PySem.W.Frag} {mg : Str → Option Value} {base : Heap} {CX : CXT} {k : Nat} {f : Addr} {fd : FuncData} {ps : List Str} {sp : Sp}
theorem FnG.of (F : FnOk P w K mg base CX k f fd ps sp) : FnG P w K mg base CX k f fd ps sp := ⟨F.len, fun A outer s H args us vs Q E _ hr e hb hv h => F.run A outer s H args us vs Q E hr e hb hv h⟩
theorem FnG.mono {j : Nat} (F : FnG P w K mg base CX j f fd ps sp) (h : j ≤ k) : FnG P w K mg base CX k f fd ps sp := ⟨F.len, fun A outer s H args us vs Q E hg hr => F.run A outer s H args us vs Q E hg (hr.mono h)⟩
end
section
variable {X : Cx}
def rRepr (K : PySem.W.Frag) : List V → Hp → VK → Prop := fun xs H Q => ∃ x d, xs = [x] ∧ Dp K H x d ∧ d.showable = true ∧ d.hasDict = false ∧ d.depth ≤ 60 ∧ d.shown.length ≤ sizeLine ∧ Q (.str d.shown) H
theorem call_repr (hg : X.A.guards = some []) (hu : X.A.units + 64 < cLine) : CallR X (.builtin "repr") (rRepr X.K) := by
  intro pins s σ H xs us Q I r h
  obtain ⟨x, d, rfl, hd, hs, hn, hdp, hz, q⟩ := h
  obtain ⟨u, rfl, rx⟩ := vals1 r
  obtain ⟨as, rd⟩ := Dp.reads I d x u hd rx
  have key : wpAny (model X.prog X.w) X.A (call (.builtin "repr") [u]) (EP X pins σ Q) X.xe s := by
    cases hd with
    | non => cases rx; exact PySem.P.repr_of_none ⟨.str _, H, I.tok _, ⟨_, rfl⟩, q⟩
    | bl b => cases rx; exact PySem.P.repr_of_bool ⟨.str _, H, I.tok _, ⟨_, rfl⟩, q⟩
    | int i =>
      obtain ⟨t, rfl⟩ := rx
      exact PySem.P.repr_of_int (of_decide_eq_true hs) ⟨.str _, H, I.tok _, ⟨_, rfl⟩, q⟩
    | str y =>
      obtain ⟨t, rfl⟩ := rx
      exact PySem.P.repr_of_str ⟨.str _, H, I.tok _, ⟨_, rfl⟩, q⟩ hz
    | lst a b =>
      cases rx
      exact repr_of_reads' rd hs (PyData.noDict_hsm hn) hg (by omega) (fun _ _ z => z) (fun h' t tk kp => ⟨.str _, H, I.kept kp, ⟨_, rfl⟩, q⟩) hz
    | tup a b =>
      cases rx
      exact repr_of_reads' rd hs (PyData.noDict_hsm hn) hg (by omega) (fun _ _ z => z) (fun h' t tk kp => ⟨.str _, H, I.kept kp, ⟨_, rfl⟩, q⟩) hz
  exact key
end
end Fab
set_option maxHeartbeats 4000000
namespace Fab
open PySem L2
theorem pe_lm {X : Cx} {o e : Expr} {es : List Expr} {to : TE} {t : TA} {name : Str} {apos cpos : Pos} {id : String} {r : V → List V → Hp → VK → Prop} (slot : Slot "list" name id) (hty : typeOf (.builtin id) = pure (.type "method_descriptor")) (hm : MtR X id r) (ho : PE X o to) (ha : PA X (e :: es) t)
    (hbase : attributeBase o name X.env (eval o X.env) = eval o X.env := by rfl)
    (hfew : ((backTo cpos (starEach (e :: es) X.env)).all (fun x => !x.1) && (backToKw cpos (keywordEach [] X.env)).all (fun x => x.1.isSome)
      && decide ((e :: es).length + ([] : List Keyword).length + (if ([] : List Keyword).isEmpty then 0 else 1) < 30)) = true := by rfl)
    (hline : (apos.endLine == cpos.line) = true := by rfl) (hs : starEach (e :: es) X.env = (false, eval e X.env) :: starEach es X.env := by rfl) (hplain : (backTo cpos (starEach es X.env)).any (·.1) = false := by rfl) :
    PE X (.Call (.Attribute o name apos) (e :: es) [] cpos) (tLM r to t) := peI (pe_bm PySem.F.plainAttrs_list slot hty hm (pe_mon ho) ha hbase hfew hline hs hplain) fun _ _ _ q => tLM_of q
def tLstRgF (te : St → Hp → (Int → Int → Hp → Prop) → Prop) : TE := fun σ H Q => te σ H fun a b H1 => RgOk a b ∧ newAt H1 (.lst (rgV a b)) fun q H2 => Q (.ref q) H2
local macro_rules | `(tactic| walk_at "s") => `(tactic| simp [tSeq, tAsg, tOp, tUn, tVar, tC, gName, tCons, tNil, tCB, tCall, rI, rI0, rU, tRet, tDrop, tIfS, tNext, tIf, tTest, tB, L2.start, CMul, CDiv, rIxF, rLenF, rIntF, sq_lst, sq_tup, tLstF, rSetF, gSub, rEq, rNe, tSl, rSlF, rCatF, tRevF, rListF, tLM, rAppF, rPopF])
section
variable {P : Program} {w : World} {K : PySem.W.Frag} {mg : Str → Option Value} {base : Heap}
def turnL (ws : List Int) (i j : Nat) : List Int := ws.take i ++ (((ws.drop i).take (j + 1 - i)).map fun z => 0 - z).reverse ++ ws.drop (j + 1)
theorem cut_a {ws : List V} {i j : Nat} (h : i ≤ j) (hj : j < ws.length) : cutV ws (some (i : Int)) (some ((j : Int) + 1)) = (ws.drop i).take (j + 1 - i) := by
  unfold cutV
  rw [HT.sIx_nat, show ((j : Int) + 1) = ((j + 1 : Nat) : Int) by omega, HT.sIx_nat, Nat.min_eq_left (by omega), Nat.min_eq_left (by omega)]
theorem cut_b {ws : List V} {i : Nat} (hi : i ≤ ws.length) : cutV ws none (some (i : Int)) = ws.take i := by
  unfold cutV
  rw [HT.sIx_nat, HT.sIx_none, Nat.min_eq_left hi]
  simp
theorem cut_c {ws : List V} {j : Nat} (hj : j < ws.length) : cutV ws (some ((j : Int) + 1)) none = ws.drop (j + 1) := by
  unfold cutV
  rw [HT.sIx_none, show ((j : Int) + 1) = ((j + 1 : Nat) : Int) by omega, HT.sIx_nat, Nat.min_eq_left (by omega)]
  exact List.take_of_length_le (by simp)
end
def IsRow (ws : List Int) (n : Nat) : Prop := (ws.map Int.natAbs).Perm (List.range' 1 n)
theorem IsRow.len {ws : List Int} {n : Nat} (h : IsRow ws n) : ws.length = n := by
  have := h.length_eq
  simpa using this
theorem abs_neg_map (l : List Int) : (l.map fun z => 0 - z).map Int.natAbs = l.map Int.natAbs := by
  rw [List.map_map]
  exact List.map_congr_left fun z _ => by simp
def firstI (n : Nat) : List Int := (List.range n).map fun i => (1 : Int) + (i : Nat)
theorem firstI_len (n : Nat) : (firstI n).length = n := by simp [firstI]
theorem isRow_first (n : Nat) : IsRow (firstI n) n := by
  have e : (firstI n).map Int.natAbs = List.range' 1 n := by
    unfold firstI
    rw [List.map_map, List.range'_eq_map_range]
    exact List.map_congr_left fun i _ => by simp; omega
  unfold IsRow
  rw [e]
theorem rg_ints (n : Nat) : rgV 1 ((n : Int) + 1) = (firstI n).map V.int := by
  unfold rgV firstI
  rw [show ((n : Int) + 1 - 1).toNat = n by omega, List.map_map]
  rfl
theorem IsRow.turn {ws : List Int} {n i j : Nat} (h : IsRow ws n) (hij : i ≤ j) : IsRow (turnL ws i j) n := by
  refine List.Perm.trans ?_ h
  unfold turnL
  rw [List.map_append, List.map_append, List.map_reverse, abs_neg_map]
  have e : ws = ws.take i ++ ((ws.drop i).take (j + 1 - i) ++ ws.drop (j + 1)) := by
    rw [show ws.drop (j + 1) = (ws.drop i).drop (j + 1 - i) by rw [List.drop_drop]; congr 1; omega, List.take_append_drop, List.take_append_drop]
  conv => rhs; rw [e, List.map_append, List.map_append]
  rw [List.append_assoc]
  exact List.Perm.append_left _ (List.Perm.append_right _ (List.reverse_perm _))
section
variable {H0 H H1 H2 : Hp} {L : List (Addr × HO)} {T : List (Addr × List V)} {m c g : Addr} {cs gs gs' : List Int} {n : Nat} {lim : Int}
theorem VW.drawn (v : VW H0 H1 ((m, dm c g n) :: (g, .lst (gs.map V.int)) :: L) T) (hm : H2 m = some (dm c g (n + 1))) (hg : H2 g = some (.lst (gs'.map V.int))) (hk : ∀ a o, H1 a = some o → a ≠ m → a ≠ g → H2 a = some o) :
    VW H0 H2 ((m, dm c g (n + 1)) :: (g, .lst (gs'.map V.int)) :: L) T := by
  obtain ⟨f1, f2, _⟩ := v.facts
  have nd := v.nd
  refine ⟨fun p hp => ?_, nd, fun p hp => ?_, fun a o h => ?_, fun p hp => ?_⟩
  · rcases List.mem_cons.mp hp with rfl | hp
    · exact hm
    · rcases List.mem_cons.mp hp with rfl | hp
      · exact hg
      · have q : p.1 ∈ L.map (·.1) := List.mem_map_of_mem hp
        simp only [List.map_cons, List.nodup_cons, List.mem_cons, not_or] at nd
        exact hk _ _ (v.at_ p (List.mem_cons_of_mem _ (List.mem_cons_of_mem _ hp))) (fun z => nd.1.2 (z ▸ q)) (fun z => nd.2.1 (z ▸ q))
  · rcases List.mem_cons.mp hp with rfl | hp
    · exact v.own (m, dm c g n) List.mem_cons_self
    · rcases List.mem_cons.mp hp with rfl | hp
      · exact v.own (g, .lst (gs.map V.int)) (List.mem_cons_of_mem _ List.mem_cons_self)
      · exact v.own p (List.mem_cons_of_mem _ (List.mem_cons_of_mem _ hp))
  · refine hk a o (v.fr a o h) (fun z => ?_) (fun z => ?_)
    · have := v.own (m, dm c g n) List.mem_cons_self
      rw [z] at h
      rw [h] at this
      cases this
    · have := v.own (g, .lst (gs.map V.int)) (List.mem_cons_of_mem _ List.mem_cons_self)
      rw [z] at h
      rw [h] at this
      cases this
  · have q := v.tu p hp
    refine hk _ _ q (fun z => ?_) (fun z => ?_)
    · rw [z, f1] at q
      unfold dm at q
      cases q
    · rw [z, f2] at q
      cases q
end
section
variable {K : PySem.W.Frag} {H0 H1 : Hp} {L : List (Addr × HO)} {m c g fp rp : Addr} {cs gs ws : List Int} {n many : Nat} {D : Ends}
theorem VW.trans {H0 H H' : Hp} {L L2 : List (Addr × HO)} {T T2 : List (Addr × List V)} (v : VW H0 H L T) (u : VW H H' L2 T2) : VW H0 H' (L2 ++ L) T := by
  refine ⟨fun p hp => ?_, ?_, fun p hp => ?_, fun a o h => u.fr a o (v.fr a o h), fun p hp => u.fr _ _ (v.tu p hp)⟩
  · rcases List.mem_append.mp hp with hp | hp
    · exact u.at_ p hp
    · exact u.fr _ _ (v.at_ p hp)
  · rw [List.map_append, List.nodup_append]
    refine ⟨u.nd, v.nd, fun a ha b hb z => ?_⟩
    obtain ⟨p, hp, rfl⟩ := List.mem_map.mp ha
    obtain ⟨q, hq, rfl⟩ := List.mem_map.mp hb
    have h1 := u.own p hp
    have h2 := v.at_ q hq
    rw [z, h2] at h1
    cases h1
  · rcases List.mem_append.mp hp with hp | hp
    · cases e : H0 p.1 with
      | none => rfl
      | some o =>
        have := u.own p hp
        rw [v.fr _ _ e] at this
        cases this
    · exact v.own p hp
end
end Fab
set_option maxHeartbeats 4000000
namespace Fab
open PySem L2
/-- the words whose bit is set -/
def fws (ws : List Str) (bs : List Bool) (n : Nat) : List V := (((ws.zip bs).take n).filter (·.2)).map fun q => V.str q.1
theorem fws_len {ws : List Str} {bs : List Bool} {n : Nat} : (fws ws bs n).length ≤ n := by
  unfold fws
  rw [List.length_map]
  exact Nat.le_trans (List.length_filter_le _ _) (by rw [List.length_take]; omega)
theorem fws_next {ws : List Str} {bs : List Bool} {n : Nat} {x : Str} {b : Bool} (hx : ws[n]? = some x) (hb : bs[n]? = some b) : fws ws bs (n + 1) = if b = true then fws ws bs n ++ [.str x] else fws ws bs n := by
  have e : (ws.zip bs)[n]? = some (x, b) := by simp [List.getElem?_zip_eq_some, hx, hb]
  unfold fws
  rw [List.take_succ, e]
  cases b <;> simp [List.filter_append]
end Fab
set_option maxHeartbeats 4000000
namespace PySem
namespace FabX
open PySem.W PySem.Calls PyProof.Rows PySem.HandSPX
open Builtin Builtin.ObjectAttr
/-- a built-in exception class below own ones -/
structure EBase (B newId initId : String) (bmB : List Value) : Prop where
  F : ExcBaseFacts B newId initId bmB
  S : StoreFacts B bmB "object.__setattr__" "object"
  ob : bmB.contains (.type "object") = true
  ne : bmB ≠ []
theorem EBase.nonempty {B newId initId : String} {bmB : List Value} (b : EBase B newId initId bmB) {l : List Value} (h : excTail bmB l = true) : l.isEmpty = false := by
  rcases excTail_cases l h with ⟨c, r, rfl, _⟩ | rfl
  · rfl
  · cases l with
    | nil => exact absurd rfl b.ne
    | cons _ _ => rfl
theorem eb_value : EBase "ValueError" "ValueError.__new__" "ValueError.__init__" [.type "ValueError", .type "Exception", .type "BaseException", .type "object"] := ⟨F.excBase_ValueError, F.store_ValueError, by decide, by decide⟩
theorem eb_over : EBase "OverflowError" "OverflowError.__new__" "OverflowError.__init__" [.type "OverflowError", .type "ArithmeticError", .type "Exception", .type "BaseException", .type "object"] := ⟨F.excBase_OverflowError, F.store_OverflowError, by decide, by decide⟩
section
variable {prog : Program} {w : World} {A : Around} {E : Value → Shared → Prop} {R : Result → Shared → Prop} {hp : Heap} {g : Array GenState} {d : Drawn} {t : Nat} {os : OsState} {B newId initId : String} {bmB : List Value}
/-- the first field of a fresh exception is set -/
theorem osa_first (b : EBase B newId initId bmB) {K : W.Frag} {name : Str} {tk : Tok} {v : Value} {x C : Addr} {fv : Array Value} {cd : ClassData} (X : K.In hp) (hx : hp.get? x = some { cls := .ref C, data := .fields fv }) (hcd : W.clsIn K C = some cd)
    (hm : excTail bmB cd.mro = true) (hh : cd.hasDict = true) (ha : W.findIn K (.ref C) name = some none)
    (hq : ∀ h' tk' dx, (∀ c o, c ≠ x → hp.get? c = some o → h'.get? c = some o) → hp.objs.size ≤ dx → dx ≠ x → h'.get? x = some { cls := .ref C, dict := some dx, data := .fields fv } → h'.Ns1 dx (fun y => if y = name then some v else none) →
      R (.ok (.ret .none)) ⟨h', g, d, tk', os⟩) : codeAny (model prog w) A (.call (.builtin "object.__setattr__") ⟨[.ref x, .str name tk, v], []⟩) R ⟨hp, g, d, t, os⟩ := by
  have I : W.InstAt hp x { cls := .ref C, data := .fields fv } C none := ⟨hx, rfl, rfl, trivial⟩
  have hnew : x ≠ hp.objs.size := Nat.ne_of_lt (Heap.lt_size hx)
  have hsub : W.Looks (model prog w) hp (isInstance (.ref x) (.type "object")) true := I.type.andThen (W.looks_mroIn X (by
    unfold W.mroIn
    rw [hcd, Option.bind_some, if_neg (by rw [b.nonempty hm]; decide), excTail_contains "object" _ hm, b.ob]))
  refine codeAny_call_builtin F.store_object.slot.plain F.store_object.entry (@W.check_slot (model prog w) _ _ ⟨hp, g, d, t, os⟩ "object.__setattr__" "object" "__setattr__" (.ref x) [.str name tk, v] [] _ F.store_object.kind F.store_object.split hsub
    (F.store_object.args (.ref x) (.str name tk) v) ?_)
  have hmro : W.Looks (model prog w) hp (mroOf (.ref C)) cd.mro := (W.looks_clsIn X hcd).andThen .now
  rw [W.osa_eq, refuse_eq]
  refine wpAny_bind (wpAny_bind (I.type.at (wpAny_bind (hmro.at ?_))))
  rw [excTail_pass (.ref x) (b.S.passes (.ref x)) cd.mro hm]
  refine wpAny_pure (wpAny_bind (I.type.at (wpAny_bind ((W.looks_findIn X ha).at (wpAny_bind ((show W.Looks (model prog w) hp (storeTaker? none) none from .now).at ?_))))))
  show wpAny _ _ (storeInOwnDict (.ref x) (.ref C) (.str name tk) name v false) _ _ _
  have hcl : W.Looks (model prog w) hp (classData C) cd := W.looks_clsIn X hcd
  obtain ⟨nm, bs, mro, ns, qn, hd, sn, sb, ab, col, del⟩ := cd
  obtain rfl : hd = true := hh
  unfold storeInOwnDict ownDictForStores
  repeat (first | with_reducible refine store_in_new ?_ ?_ | with_reducible refine wpAny_loadPart_at hx ?_ | with_reducible refine hcl.at ?_ | wp_step)
  · exact ⟨_, #[], _, (Heap.get?_update_ne _ _ _ _ hnew.symm).trans (Heap.get?_push_at rfl rfl), rfl, (fun e he => absurd he (by simp)), fun _ => rfl⟩
  · intro h' tk' hn hs
    refine hq h' tk' hp.objs.size (fun c o hc ho => ?_) (Nat.le_refl _) hnew.symm ?_ hn
    · rw [hs.2 c (Nat.ne_of_lt (Heap.lt_size ho)), Heap.get?_update_ne _ _ _ _ hc]
      exact Heap.get?_push_of_some _ ho
    · rw [hs.2 x hnew]
      exact Heap.get?_update_self _ (Heap.get?_push_of_some _ hx) rfl
end
end FabX
end PySem
namespace Fab
open PySem L2 PySem.Spec PyProof.Rows PySem.FabX
/-- what the written part says of an own exception class over B -/
structure XCls (newId : String) (bmB : List Value) (K : PySem.W.Frag) (C : Addr) : Prop where
  cls : ∃ nm q N bs bm sn sub ab col dd k0 k1 k2 k3 k5, K.lookup C = some (excClassObj nm q C N bs bm true sn sub ab col dd k0 k1 k2 k3 k5 newId) ∧ PySem.W.excTail bmB bm = true
  sa : PySem.W.findIn K (.ref C) "__setattr__" = some (some (.builtin "object.__setattr__"))
  exC : PySem.W.subIn K (.ref C) (.type "BaseException") = some true
  tyC : PySem.W.typeIn K (.ref C) = some (.type "type")
  kC : PySem.W.keepIn K (.ref C) = true
section
variable {X : Cx} {pins : List (Addr × Obj)} {σ : L2.St} {H : Hp} {s : Shared} {a C dx : Addr} {f : Str} {y : V} {u : Value} {B newId initId : String} {bmB : List Value}
theorem clsIn_of {K : PySem.W.Frag} {nm q : Str} {N : Addr} {bs bm : List Value} {sn : List Str} {sub : List Value} {ab : Bool} {col : Option Bool} {dd : Option Addr} {k0 k1 k2 k3 k5 : Option Value} (h : K.lookup C = some (excClassObj nm q C N bs bm true sn sub ab col dd k0 k1 k2 k3 k5 newId)) :
    PySem.W.clsIn K C = some { name := nm, bases := bs, mro := .ref C :: bm, ns := N, qualname := q, hasDict := true, slotNames := sn, subclasses := sub, abstract := ab, collection := col, hasDel := false } := by
  unfold PySem.W.clsIn
  rw [h]
  all_goals rfl
/-- self.f = y on a fresh exception -/
theorem xst_first (b : EBase B newId initId bmB) (T : XCls newId bmB X.K C) (I : Inv X pins σ H s) (e : H a = some (exo a C none)) (hno : PySem.W.findIn X.K (.ref C) f = some none) (ry : RelV y u) {Q : Unit → Shared → Prop} {E : Value → Shared → Prop} {A : Around}
    (h : ∀ dx s', H dx = none → dx ≠ a → Inv X pins σ (upd (upd H dx (exd dx [(f, y)])) a (exo a C (some dx))) s' → Q () s') : wpAny (model X.prog X.w) A (setAttr (.ref a) f u) Q E s := by
  obtain ⟨nm, q, N, bs, bm, sn, sub, ab, col, dd, k0, k1, k2, k3, k5, hC, hbm⟩ := T.cls
  obtain ⟨t1, ho⟩ := exo_at I.hok e
  obtain ⟨hp, g, d, t, os⟩ := s
  refine PySem.W.set_plain I.kIn (ox := { cls := .ref C, dict := none, data := .fields #[.ref t1, .none, .none, .none, .bool false, .none] }) (od := none) ⟨ho, rfl, rfl, trivial⟩ T.sa ?_
  refine osa_first b I.kIn ho (clsIn_of hC) (show PySem.W.excTail bmB (.ref C :: bm) = true from hbm) rfl hno fun h' tk' dx k dn dne hx hn => ?_
  have nH : H dx = none := I.hok.fresh dn
  have apart : ∀ {c : Addr} {o : Obj}, hp.get? c = some o → c ≠ dx := fun z => Nat.ne_of_lt (Nat.lt_of_lt_of_le (Heap.lt_size z) dn)
  have nota : ∀ {c : Addr}, H c = none → c ≠ a := fun n z => by
    rw [z, e] at n
    cases n
  have at_ : ∀ {c : Addr} {o : HO}, H c = some o → exo a C none ≠ o → upd (upd H dx (exd dx [(f, y)])) a (exo a C (some dx)) c = some o := fun {c o} z ne => by
    rw [upd_ne (at_ne e z ne), upd_ne (ne_of_none z nH)]
    exact z
  refine h dx _ nH dne (I.un (t' := tk') ⟨fun c o z n _ _ => k c o (nota n) z, fun c o z n _ _ => ⟨o.slots, k c o (nota n) z⟩, fun c o z n _ => by rw [upd_ne (nota n), upd_ne (apart z)]; exact n, fun c o z _ => ?_, fun c xs z => at_ z exo_tup, fun c o v z => at_ z exo_frz,
    fun c ps z => ⟨#[], by rw [at_ z exo_tbl]; simp⟩⟩ fun c o z => ?_)
  · by_cases hc : c = a
    · exact ⟨_, by rw [hc]; exact hx⟩
    · exact ⟨o, k c o hc z⟩
  · by_cases hc : c = a
    · subst hc
      rw [upd_same] at z
      cases z
      exact exo_ok hx
    · rw [upd_ne hc] at z
      by_cases hd : c = dx
      · subst hd
        rw [upd_same] at z
        cases z
        exact exd_ok hn (relO_put (fs := []) ry fun g => True.intro)
      · rw [upd_ne hd] at z
        refine (I.hok c o z).stay (fun b v hb w => k b v ?_ w) (fun b w => at_ w exo_own) (fun b xs w => at_ w exo_tup)
        rcases hb with rfl | hb
        · exact hc
        · exact at_ne e hb exo_own
/-- B.__init__(self, ..) -/
theorem xinit_ok (b : EBase B newId initId bmB) {us : List Value} {Q : Value → Shared → Prop} {E : Value → Shared → Prop} {A : Around} (T : XCls newId bmB X.K C) (I : Inv X pins σ H s) (e : H a = some (exo a C none)) (hl : us.length ≤ sizeLine) (h : ∀ s', Inv X pins σ H s' → Q .none s') :
    wpAny (model X.prog X.w) A (call (.builtin initId) (.ref a :: us)) Q E s := by
  obtain ⟨nm, q, N, bs, bm, sn, sub, ab, col, dd, k0, k1, k2, k3, k5, hC, hbm⟩ := T.cls
  obtain ⟨t1, ho⟩ := exo_at I.hok e
  obtain ⟨hp, g, d, t, os⟩ := s
  refine wpAny_call (PySem.HandSPX.init_base b.F (fun Y => PySem.W.excTail_contains Y bm hbm) (I.kIn _ _ hC) ho hl fun h' t2 k hx => h _ ?_)
  have J := I.write (t' := t) (x := a) (e := a) (o := exo a C none) (by rw [e]; exact True.intro) (.inl rfl) k ⟨_, hx⟩ (exo_ok hx)
  have same : upd H a (exo a C none) = H := by
    funext c
    by_cases hc : c = a
    · rw [hc, upd_same, e]
    · rw [upd_ne hc]
  rw [same] at J
  exact J
end
/-- BASE.__init__(self, ..) -/
def tXi (newId : String) (bmB : List Value) (K : PySem.W.Frag) (ta : TA) : TE := fun σ H Q => ta σ H fun vs H1 => ∃ (a C : Addr) (ws : List V), vs = .ref a :: ws ∧ ws.length ≤ 1000 ∧ XCls newId bmB K C ∧ H1 a = some (exo a C none) ∧ Q .non H1
/-- self.f = e -/
def tXst (newId : String) (bmB : List Value) (K : PySem.W.Frag) (f : Str) (to te : TE) : TS := fun D σ H => te σ H fun y H1 => to σ H1 fun x H2 => ∃ a C : Addr, x = .ref a ∧ XCls newId bmB K C ∧ PySem.W.findIn K (.ref C) f = some none ∧ H2 a = some (exo a C none) ∧
  ∀ dx, H2 dx = none → dx ≠ a → D.nx σ (upd (upd H2 dx (exd dx [(f, y)])) a (exo a C (some dx)))
section
variable {X : Cx} {o e : Expr} {es : List Expr} {to te : TE} {ta : TA} {f x : Str} {p p' p1 p2 pos : Pos} {B newId initId : String} {bmB : List Value} {CB : Addr}
/-- the base is an own class -/
theorem pe_xiC (b : EBase B newId initId bmB) {pl : Sem Bool} (hg : Gl X x) (hm : X.mg x = some (.ref CB)) (gi : PySem.W.specialIn X.K (.ref CB) "__getattribute__" = some (some (.builtin "type.__getattribute__"))) (rd : PySem.W.readsIn X.K CB (.type "type") = true)
    (fi : PySem.W.findCls X.K (.ref CB) (.type "type") "__init__" = some (.val (.builtin initId))) (hh : PySem.W.handedIn (.builtin initId) = true) (ha : PA X (e :: es) ta) (hc : eval (.Call (.Attribute (.Name x p1) "__init__" p2) (e :: es) [] pos) X.env = (do
      let ov ← eval (.Name x p1) X.env
      standAt p2.atName
      let (f, first) ← holding [ov] (getMethod ov "__init__" pl)
      callWith pos f first (backTo pos (starEach (e :: es) X.env)) (backToKw pos (keywordEach [] X.env))) := by rfl)
    (hdb : (x == ("__debug__" : Str)) = false := by decide) (he : starEach (e :: es) X.env = (false, eval e X.env) :: starEach es X.env := by rfl) (hpl : (backTo pos (starEach es X.env)).any (·.1) = false := by rfl) :
    PE X (.Call (.Attribute (.Name x p1) "__init__" p2) (e :: es) [] pos) (tXi newId bmB X.K ta) := by
  refine ⟨fun pins s σ H Q I h => PySem.W.methodCall_KW (ld_glob I hg hm ?_ hdb) hc⟩
  refine PySem.W.method_cls I.kIn gi (PySem.W.cls_value I.kIn rd fi hh ?_)
  refine PyProof.Rows.callWith_method1 (thn (ha.run pos pins _ σ H _ (I.tok _) h) fun us s1 ⟨vs, H1, I1, r1, a, C, ws, ev, hl, T, ea, q⟩ => ?_) he hpl
  subst ev
  cases r1 with
  | @cons _ u0 _ ur ra rw' =>
    obtain rfl : u0 = Value.ref a := ra
    exact xinit_ok b T I1 ea (by rw [← Paired.length rw', sizeLine_eq]; omega) fun s' J => ⟨.non, H1, J, rfl, q⟩
/-- the base is a built-in class -/
theorem pe_xiT (b : EBase B newId initId bmB) {pl : Sem Bool} (hg : Gl X x) (hm : X.mg x = none) (hv : bootBuiltins x = some (.type B)) (ht : typeOf (.type B) = pure (.type "type")) (hst : Manifest.isStub B = false)
    (fi : PySem.W.findCls X.K (.type B) (.type "type") "__init__" = some (.val (.builtin initId))) (hh : PySem.W.handedIn (.builtin initId) = true) (ha : PA X (e :: es) ta) (hc : eval (.Call (.Attribute (.Name x p1) "__init__" p2) (e :: es) [] pos) X.env = (do
      let ov ← eval (.Name x p1) X.env
      standAt p2.atName
      let (f, first) ← holding [ov] (getMethod ov "__init__" pl)
      callWith pos f first (backTo pos (starEach (e :: es) X.env)) (backToKw pos (keywordEach [] X.env))) := by rfl)
    (hn : x ≠ "__name__" := by decide) (hdb : (x == ("__debug__" : Str)) = false := by decide) (he : starEach (e :: es) X.env = (false, eval e X.env) :: starEach es X.env := by rfl) (hpl : (backTo pos (starEach es X.env)).any (·.1) = false := by rfl) :
    PE X (.Call (.Attribute (.Name x p1) "__init__" p2) (e :: es) [] pos) (tXi newId bmB X.K ta) := by
  refine ⟨fun pins s σ H Q I h => PySem.W.methodCall_KW (ld_blt I hg hm hv ?_ hn hdb) hc⟩
  obtain ⟨m, fr⟩ := I.fr
  refine PySem.W.method_type fr I.ok.mod.kin ht hst fi hh ?_
  refine PyProof.Rows.callWith_method1 (thn (ha.run pos pins _ σ H _ (I.tok _) h) fun us s1 ⟨vs, H1, I1, r1, a, C, ws, ev, hl, T, ea, q⟩ => ?_) he hpl
  subst ev
  cases r1 with
  | @cons _ u0 _ ur ra rw' =>
    obtain rfl : u0 = Value.ref a := ra
    exact xinit_ok b T I1 ea (by rw [← Paired.length rw', sizeLine_eq]; omega) fun s' J => ⟨.non, H1, J, rfl, q⟩
theorem ps_xst (b : EBase B newId initId bmB) (ho : PE X o to) (he : PE X e te) (hs : swapsWith e (some (.Attribute o f p')) pos.line X.env = pure false := by rfl) : PS X (.Assign [.Attribute o f p'] e pos) (tXst newId bmB X.K f to te) := by
  refine ⟨fun pins s σ H D I h => plainObj_wpAny_Assign_Attribute (thn (he.run pins s σ H _ I h) fun v s1 ⟨y, H1, I1, r1, q1⟩ => thn (ho.run pins s1 σ H1 _ I1 q1) fun u s2 ⟨x, H2, I2, r2, a, C, ex, T, hno, ea, q⟩ => ?_) hs⟩
  subst ex
  obtain rfl : u = Value.ref a := r2
  exact xst_first b T I2 ea hno r1 fun dx s' n ne J => ⟨σ, _, J, q dx n ne⟩
/-- what the making of C(e, ..) leaves, told to a wish q; a: the exception, d: its own dict -/
theorem make_run {CX : CXT} {C fI : Addr} {k : Nat} {fd : FuncData} {ps : List Str} {sp : Sp} {pins : List (Addr × Obj)} {σ : L2.St} {H : Hp} {s : Shared} {us : List Value} {vs : List V} {Qv E : Value → Shared → Prop} (b : EBase B newId initId bmB) (T : XCls newId bmB X.K C)
    (iC : PySem.W.findIn X.K (.ref C) "__init__" = some (some (.ref fI))) (tI : PySem.W.typeIn X.K (.ref fI) = some (.type "function")) (F : FnOk X.prog X.w X.K X.mg X.base CX k fI fd ps sp) (hr : Room (k + 1) X.A) (hb : Binds X.K fd ps [])
    (hx : ∀ H s e s', ¬ CX X.stack H s (fun _ _ _ => False) e s') (I : Inv X pins σ H s) (r : Vals vs us) (hz : vs.length ≤ 1000) {Q : Addr → Hp → Prop}
    (h : ∀ a, H a = none → sp (.ref a :: vs) (upd H a (exo a C none)) (fun v H2 => v = .non ∧ Q a H2) (fun _ _ _ => False))
    (k1 : ∀ (a : Addr) (H2 : Hp) (hp2 : Heap) (s' : Shared), s.heap.objs.size ≤ a → (∀ b o, s.heap.get? b = some o → hp2.get? b = some o) → Un (frs X.stack) [] (upd H a (exo a C none)) H2 hp2 s'.heap → HOk X.prog X.w H2 s'.heap → s'.os = s.os → AllBare s'.gens → Q a H2 → Qv (.ref a) s') :
    wpAny (model X.prog X.w) X.A (call (.ref C) us) Qv E s := by
  obtain ⟨nm, q, N, bs, bm, sn, sub, ab, col, dd, k0, k1', k2, k3, k5, hC, hbm⟩ := T.cls
  obtain ⟨hp, g, dr, tk, os⟩ := s
  have new : H (hp.objs.size + 1) = none := I.hok.fresh (Nat.le_succ _)
  have old : ∀ b o, hp.get? b = some o → ((hp.push (PySem.W.kdv_tup us)).push (PySem.HandSPX.excO C hp.objs.size)).get? b = some o := fun b o e => Heap.get?_push_of_some _ (Heap.get?_push_of_some _ e)
  have there : ((hp.push (PySem.W.kdv_tup us)).push (PySem.HandSPX.excO C hp.objs.size)).get? (hp.objs.size + 1) = some (PySem.HandSPX.excO C hp.objs.size) := by heap_get
  have I2 : Inv X pins σ (upd H (hp.objs.size + 1) (exo (hp.objs.size + 1) C none)) ⟨(hp.push (PySem.W.kdv_tup us)).push (PySem.HandSPX.excO C hp.objs.size), g, dr, tk, os⟩ := I.laid (t' := tk) old (Nat.le_succ _) (exo_ok there)
  have hq := h _ new
  have r2 : Vals (V.ref (hp.objs.size + 1) :: vs) (Value.ref (hp.objs.size + 1) :: us) := .cons rfl r
  have hl : (Value.ref (hp.objs.size + 1) :: us).length = ps.length := r2.length.symm.trans (F.len _ _ _ _ hq)
  have hus : us.length ≤ sizeLine := by rw [← Paired.length r, sizeLine_eq]; omega
  have go := F.run _ X.stack _ _ ⟨Value.ref (hp.objs.size + 1) :: us, []⟩ (Value.ref (hp.objs.size + 1) :: us) _ _ (fun _ _ _ => False) (hr.make C us []) (I2.env0.make C us []) (by simpa using hb _ (Value.ref (hp.objs.size + 1) :: us) I2.kIn (by simpa using hl)) r2 hq
  refine wpAny_call (PySem.HandSPX.call_own b.F (fun Y => PySem.W.excTail_contains Y bm hbm) (I.kIn _ _ hC) (PySem.W.looks_findIn I.kIn iC) (fun self => PySem.W.bind_fn I.kIn self tI) hus (codeAny_mono go ?_))
  rintro (er | fl) s' z
  · exact (hx _ _ er s' z).elim
  · cases fl
    case ret u =>
      obtain ⟨v, H2, os2, bare2, un2, hok2, rv, rfl, q2⟩ := z
      exact ⟨rv, k1 _ H2 _ s' (Nat.le_succ _) old un2 hok2 os2 bare2 q2⟩
    all_goals exact False.elim z
/-- raised: C(e, ..), its dict behind -/
def tXmk (C : Addr) (sp : Sp) (ta : TA) : L2.St → Hp → XK → Prop := fun σ H Q => ta σ H fun vs H1 => vs.length ≤ 1000 ∧ ∀ a, H1 a = none → sp (.ref a :: vs) (upd H1 a (exo a C none))
  (fun v H2 => v = .non ∧ ∃ (d : Addr) (fs : List (Str × V)), H2 a = some (exo a C (some d)) ∧ H2 d = some (exd d fs) ∧ H1 d = none ∧ Q (.ref C) (some d) (upd (del H2 a) d (.xd fs))) (fun _ _ _ => False)
theorem pmk_x {CX : CXT} {C fI : Addr} {k : Nat} {fd : FuncData} {ps : List Str} {sp : Sp} (b : EBase B newId initId bmB) (T : XCls newId bmB X.K C) (iC : PySem.W.findIn X.K (.ref C) "__init__" = some (some (.ref fI))) (tI : PySem.W.typeIn X.K (.ref fI) = some (.type "function"))
    (F : FnOk X.prog X.w X.K X.mg X.base CX k fI fd ps sp) (hr : Room (k + 1) X.A) (hb : Binds X.K fd ps []) (hx : ∀ H s e s', ¬ CX X.stack H s (fun _ _ _ => False) e s') (hg : Gl X x) (hm : X.mg x = some (.ref C)) (ha : PA X (e :: es) ta)
    (hdb : (x == ("__debug__" : Str)) = false := by decide) (he : starEach (e :: es) X.env = (false, eval e X.env) :: starEach es X.env := by rfl) (hpl : (backTo pos (starEach es X.env)).any (·.1) = false := by rfl) :
    PMk X (.Call (.Name x p) (e :: es) [] pos) (tXmk C sp ta) := by
  intro pins s σ H Q I h
  refine wpAny_Call_Name_kw (ld_glob I hg hm ?_ hdb)
  refine PySem.W.callWith_K (h₀ := X.base) I.ok.mod.kin T.kC (thn (ha.run pos pins s σ H _ I h) fun us s1 ⟨vs, H1, I1, r1, hz, q1⟩ => ⟨I1.kIn, ?_⟩) he hpl
  obtain ⟨hp, g, dr, tk, os⟩ := s1
  refine make_run b T iC tI F hr hb hx I1 r1 hz q1 fun a H2 hp2 s' ha' kk un hok ho hbare ⟨d, fs, ea, ed, hd, q⟩ => ?_
  obtain ⟨h2, g2, d2, t2, os'⟩ := s'
  exact mk_end (raises_own T.exC T.tyC) I1 ha' kk un hok ho hbare ea ed hd q
end
end Fab
set_option maxHeartbeats 4000000
namespace PySem
namespace FabX
open PySem.HandSPX
theorem flying_keep {B h h' : Heap} {l : List Env} {e : Addr} {Z : Obj → Prop} (x : FlyingZ B l e Z h) (k : ∀ b o, h.get? b = some o → h'.get? b = some o) : FlyingZ B l e Z h' := by
  obtain ⟨x1, x2, x3, oe, vs, T, oT, ts, y1, y2, y3, y4, y5, y6, y7, y8, y9⟩ := x
  exact ⟨fun b o z => k b o (x1 b o z), x2, Heap.FunFrames.of_keeps (fun b o z _ => ⟨o, k b o z, rfl⟩) x3, oe, vs, T, oT, ts, k _ _ y1, y2, y3, y4, y5, y6, k _ _ y7, y8, y9⟩
end FabX
end PySem
namespace Fab
open PySem L2 PySem.Spec PyProof.Rows
/-- a caught exception, let go: its class, its own dict -/
def exK (a : Addr) (cls : Value) (d : Option Addr) : HO := .ext fun h => ∃ oe vs, h.get? a = some oe ∧ Zc cls d oe ∧ oe.data = .fields vs
theorem exK_ok {P : Program} {w : World} {H : Hp} {h : Heap} {a : Addr} {cls : Value} {d : Option Addr} {oe : Obj} {vs : Array Value} (he : h.get? a = some oe) (hz : Zc cls d oe) (hd : oe.data = .fields vs) : ObjOk P w H h a (exK a cls d) :=
  ⟨⟨oe, vs, he, hz, hd⟩, ⟨oe, he⟩, fun h1 h2 ⟨oe, vs, e, z, d⟩ k => ⟨oe, vs, k _ e, z, d⟩⟩
theorem exK_at {P : Program} {w : World} {H : Hp} {h : Heap} {a : Addr} {cls : Value} {d : Option Addr} (hok : HOk P w H h) (e : H a = some (exK a cls d)) : ∃ oe vs, h.get? a = some oe ∧ Zc cls d oe ∧ oe.data = .fields vs := by
  have x : ObjOk P w H h a (.ext fun h => ∃ oe vs, h.get? a = some oe ∧ Zc cls d oe ∧ oe.data = .fields vs) := hok a _ e
  exact x.1
section
variable {X : Cx} {pins : List (Addr × Obj)} {σ : L2.St} {H : Hp} {s : Shared} {a : Addr}
/-- an object of ours that was not tracked is tracked from now on -/
theorem inv_track {oe : Obj} {vs : Array Value} {cls : Value} {d : Option Addr} (I : Inv X pins σ H s) (h0 : X.s_0.heap.get? a = none) (hH : H a = none) (he : s.heap.get? a = some oe) (hz : Zc cls d oe) (hd : oe.data = .fields vs) (hp : ∀ p ∈ X.pn ++ pins, p.1 ≠ a) :
    Inv X pins σ (upd H a (exK a cls d)) s := by
  have nB : ∀ {b : Addr} {o : HO}, H b = some o → upd H a (exK a cls d) b = some o := fun {b o} z => by
    rw [upd_ne (ne_of_none z hH)]
    exact z
  have nL : X.env.locals ≠ a := fun z => by
    obtain ⟨m, ⟨o, es, ep, e1, e2, _⟩, _⟩ := I.loc
    rw [z, he] at e1
    cases e1
    rw [hd] at e2
    cases e2
  refine ⟨I.ok, I.os, I.bare, ⟨I.base.keep, I.base.slot, fun b o z n hx => ?_, I.base.there, fun b xs z => nB (I.base.tups b xs z), fun b o u z => nB (I.base.frzs b o u z), fun b ps z => ?_⟩, I.loc, I.cell, ?_, fun x c z => ?_, fun p hm => ?_, fun b o z => ?_, I.len⟩
  · rw [upd_ne (fun q => by rw [q, h0] at z; cases z)]
    exact I.base.free b o z n hx
  · obtain ⟨more, q⟩ := I.base.tbls b ps z
    exact ⟨more, nB q⟩
  · rw [upd_ne nL]
    exact I.free
  · have nc : c ≠ a := fun q => by
      obtain ⟨v, o, e1, e2⟩ := I.cell x c z
      rw [q, he] at e1
      cases e1
      rw [hd] at e2
      cases e2
    rw [upd_ne nc]
    exact I.freeC x c z
  · obtain ⟨e1, e2, e3, e4, e5⟩ := I.pin p hm
    exact ⟨e1, by rw [upd_ne (hp p hm)]; exact e2, e3, e4, e5⟩
  · by_cases q : b = a
    · subst q
      rw [upd_same] at z
      cases z
      exact exK_ok he hz hd
    · rw [upd_ne q] at z
      exact (I.hok b o z).stay (fun _ _ _ w => w) (fun c w => nB w) (fun c xs w => nB w)
end
/-- the wish of a body: all that is raised is of one of the two classes -/
def wTwo (K : PySem.W.Frag) (c1 c2 : Value) (i n : Nat) (ts : Addr → TS) (D : Ends) : WX := fun cls d σ H => PySem.W.exmAny K cls [c1, c2] = some true ∧ ∀ a, H a = none → σ.length = n →
  ts a { nx := fun σ' H' => H' a = none → D.nx (σ'.set i none) (upd H' a (exK a cls d)), rt := fun _ _ => False, bk := fun _ _ => False, ct := fun _ _ => False } (σ.set i (some (.ref a))) H
section
variable {X : Cx} {x1 x2 n : Str} {C1 C2 : Addr} {i : Nat} {body suite : List Stmt} {b₀ : Stmt} {np1 np2 tp pos pos' : Pos} {kt : Nat} {tb : WX → TS} {ts : Addr → TS}
theorem ps_try_two (hs : X.stack = X.env :: X.outer) (hf : X.env.frame = some X.env.locals) (hex : X.ex = []) (hN : X.N.Nodup) (hi : X.N[i]? = some n) (hln : X.env.kindOf n = some .local) (hg1 : Gl X x1) (hm1 : X.mg x1 = some (.ref C1)) (hg2 : Gl X x2) (hm2 : X.mg x2 = some (.ref C2))
    (hb : ∀ (W : WX) (pn : List (Addr × Obj)) (xe : Value → Shared → Prop), Takes (X.tr pn xe) W → PassesOwn (model X.prog X.w) X.A X.env xe → PSs (X.tr pn xe) body (tb W))
    (hsu : ∀ (a : Addr) (pn : List (Addr × Obj)), PSs (X.suite a pn) (b₀ :: suite) (ts a))
    (hd1 : (x1 == ("__debug__" : Str)) = false := by decide) (hd2 : (x2 == ("__debug__" : Str)) = false := by decide) :
    PS X (.Try body [.ExceptHandler (some (.Tuple [.Name x1 np1, .Name x2 np2] kt tp)) (some n) (b₀ :: suite) pos'] [] [] pos) (fun D σ H => tb (wTwo X.K (.ref C1) (.ref C2) i X.N.length ts D) D σ H) := by
  refine ⟨fun pins s σ H D I h => wpAny_Try_except ?_⟩
  have ok := I.ok
  have hfr : X.A.frames = some (X.env :: X.outer) := by rw [ok.frames, hs]
  refine wpAny_mono ((hb _ (X.pn ++ pins) (fun e s₁ => wpAny (model X.prog X.w) X.A (noteFrame e X.env) (fun _ s₂ => wpAny (model X.prog X.w) X.A (setFlight e none) (fun _ s₃ =>
    wpAny (model X.prog X.w) X.A (handleBy e X.env [.ExceptHandler (some (.Tuple [.Name x1 np1, .Name x2 np2] kt tp)) (some n) (b₀ :: suite) pos']) (SP X pins D) X.xe s₃) X.xe s₂) X.xe s₁) ?_ PassesOwn.looking).run [] s σ H D (I.toTry _) h) ?_ fun e s1 he => he
  · -- what is raised is caught
    rintro u s' ⟨a, B, sI, pins', σ', H', cls, d, rfl, J', nb, up, sky, na, os, ag, hmatch, hyes⟩
    have J : Inv X pins σ' H' sI := J'.ofTry ok
    rw [show (X.tr (X.pn ++ pins) _).stack = X.env :: X.outer from hs] at sky
    show wpAny (model X.prog X.w) X.A (noteFrame (.ref a) X.env) _ _ _
    refine Sky.land Zc.steady hfr hf sky fun h3 fl3 up3 => ?_
    have J3 : Inv X pins σ' H' { s' with heap := h3 } := J.landed nb fl3.1 (up.trans up3) os ag
    obtain ⟨oe3, vs3, he3, hz3, hd3⟩ := fl3.there
    have aFr : a ∉ frs (X.env :: X.outer) := fun hm => by
      obtain ⟨_, o', e', hnf⟩ := fl3.2.2.1.mem hm
      rw [he3] at e'
      cases e'
      exact hnf _ hd3
    have nL : a ≠ X.env.locals := fun z => aFr (List.mem_filterMap.mpr ⟨X.env, List.mem_cons_self, by rw [hf, z]⟩)
    have nF : a ∉ X.fs := fun hm => by
      obtain ⟨e, he, q⟩ := List.mem_filterMap.mp hm
      exact aFr (List.mem_filterMap.mpr ⟨e, List.mem_cons_of_mem _ he, q⟩)
    have notOld : ∀ b o, sI.heap.get? b = some o → b ≠ a := fun b o e z => by
      subst z
      have q := nb b o e (by rw [hs]; exact aFr)
      rw [fl3.2.1] at q
      cases q
    have s0none : X.s_0.heap.get? a = none := by
      cases q : X.s_0.heap.get? a with
      | none => rfl
      | some o =>
        obtain ⟨o', q'⟩ := J.base.there a o q (by rw [hex]; simp)
        exact absurd rfl (notOld a o' q')
    have pinsNe : ∀ p ∈ X.pn ++ pins, p.1 ≠ a := fun p hp => notOld p.1 p.2 (J.pin p hp).1
    have S3 := J3.suite he3 hd3 na nL nF
    refine wpAny_handleBy_cons (codeAny_handlers_test ?_) (by intro q; cases q)
    refine wpAny_Tuple_spliced ?_
    show wpAny _ _ (spliced [(false, eval (.Name x1 np1) X.env), (false, eval (.Name x2 np2) X.env)]) _ _ _
    refine PySem.Calls.spliced_cons (ld_glob (X := X.suite a ((a, oe3) :: (X.pn ++ pins))) S3 hg1 hm1 (PySem.Calls.spliced_cons (ld_glob (X := X.suite a ((a, oe3) :: (X.pn ++ pins))) S3 hg2 hm2 (PySem.Calls.spliced_nil ⟨(by rw [sizeLine_eq]; simp), ?_⟩) hd2)) hd1)
    have k4 : ∀ b o, h3.get? b = some o → (h3.push ({ cls := .type "tuple", data := .seq [Value.ref C1, Value.ref C2].toArray } : Obj)).get? b = some o := fun b o e => Heap.get?_push_of_some _ e
    have fl4 := PySem.FabX.flying_keep fl3 k4
    have J4 : Inv X pins σ' H' { s' with heap := h3.push ({ cls := .type "tuple", data := .seq [Value.ref C1, Value.ref C2].toArray } : Obj) } := J3.kept (t' := s'.toks) k4
    have LT : PySem.W.Looks (model X.prog X.w) (h3.push ({ cls := .type "tuple", data := .seq [Value.ref C1, Value.ref C2].toArray } : Obj)) (typeOf (.ref a)) cls := fun A Q E s k q => wpAny_typeOf_ref (k _ _ (k4 _ _ he3)) (by rw [hz3.1]; exact q)
    refine (PySem.W.exm_tup2 (M := model X.prog X.w) J4.kIn LT (Heap.get?_push_size _ rfl) hmatch).here ?_
    refine codeAny_handlers_suite_as ?_
    refine HandSPX.lands_againZ fl4 fun h5 fl5 up5 => ?_
    have J5 : Inv X pins σ' H' { s' with heap := h5 } := J.landed nb fl5.1 ((up.trans up3).trans ((Heap.UpToSlots.of_keeps k4).trans up5)) os ag
    obtain ⟨oe5, vs5, he5, hz5, hd5⟩ := fl5.there
    have S5 := J5.suite he5 hd5 na nL nF
    refine store_ok (X := X.suite a ((a, oe5) :: (X.pn ++ pins))) (v := .ref a) S5 hN hi (.inl hln) rfl (fun s6 S6 => ?_) (.inr hln)
    refine wpAny_mono ((hsu a ((a, oe5) :: (X.pn ++ pins))).run [] s6 _ H' _ S6 (hyes a na J.len)) ?_ (fun _ _ z => False.elim z)
    intro fl s7 hsp
    cases fl with
    | next =>
      obtain ⟨σ7, H7, S7, q7⟩ := hsp
      have pin7 := S7.pin (a, oe5) (List.mem_append_left _ List.mem_cons_self)
      have U7 : Inv X pins σ7 H7 s7 := S7.unsuite ok
      have K7 := inv_track U7 s0none pin7.2.1 pin7.1 hz5 hd5 pinsNe
      exact gone_ok K7 hN hi hln fun s8 J8 => ⟨_, _, J8, q7 pin7.2.1⟩
    | ret u =>
      obtain ⟨_, _, _, _, _, q7⟩ := hsp
      exact q7.elim
    | brk =>
      obtain ⟨_, _, _, q7⟩ := hsp
      exact q7.elim
    | cont =>
      obtain ⟨_, _, _, q7⟩ := hsp
      exact q7.elim
  · intro fl s1 hsp
    cases fl with
    | next =>
      obtain ⟨σ', H', J', q⟩ := hsp
      exact wpAny_execs_nil ⟨σ', H', J'.ofTry ok, q⟩
    | ret u =>
      obtain ⟨v, σ', H', J', r, q⟩ := hsp
      exact ⟨v, σ', H', J'.ofTry ok, r, q⟩
    | brk =>
      obtain ⟨σ', H', J', q⟩ := hsp
      exact ⟨σ', H', J'.ofTry ok, q⟩
    | cont =>
      obtain ⟨σ', H', J', q⟩ := hsp
      exact ⟨σ', H', J'.ofTry ok, q⟩
end
end Fab
namespace PySem
namespace FabX
open PySem.W PySem.Calls PySem.Spec PyProof.Rows
section
variable {prog : Program} {w : World} {A : Around} {E : Value → Shared → Prop} {s : Shared} {K : Frag} {x D : Addr} {ox : Obj} {od : Option Obj}
/-- a data descriptor of the class is found whatever the instance holds -/
theorem find_data {C : Addr} {name : Str} {a g : Value} (hc : hasDictIn K C = true) (ha : findIn K (.ref C) name = some (some a)) (hg : specialIn K a "__get__" = some (some g)) (ht : takesIn K a = some true) : findObj K C od name = some (.bind g a) := by
  obtain ⟨cd, hcd, _⟩ := any_some hc
  unfold findObj
  rw [hcd, Option.bind_some, ha, Option.bind_some]
  simp [hg, ht]
/-- e.__class__, e an own exception with or without a dict of its own -/
theorem class_of_exc {Q : Option Value → Shared → Prop} (C : L2.ExcC K D) (X : K.In s.heap) (I : InstAt s.heap x ox D od) (h : Q (some (.ref D)) { s with toks := s.toks + 1 }) : wpAny (model prog w) A (getAttr? (.ref x) "__class__") Q E s := by
  have hf : findObj K D od "__class__" = some (.bind (.builtin "getset_descriptor.__get__") (.builtin "object.__class__")) := find_data C.hd C.ha C.hn C.ht
  obtain ⟨hp, g, d, t, os⟩ := s
  have LT := I.type (M := model prog w)
  have LG := looks_findIn (M := model prog w) X C.hg
  have LH := looks_findIn (M := model prog w) X C.hk
  have LF := looks_find (M := model prog w) X I hf
  have isE : Looks (model prog w) hp (isInstance (.ref x) (.type "BaseException")) true := LT.andThen (looks_subIn X C.hs)
  have ne : (Value.builtin "BaseException.__getattribute__" == Value.builtin "object.__getattribute__") = false := by decide +kernel
  unfold getAttr? getAttrBy? getAttrBy
  refine wpAny_bind (wpAny_mkText (wpAny_bind (wpAny_attempt (wpAny_holding (wpAny_bind (LT.at (wpAny_bind (LG.at ?_))))))))
  show wpAny _ _ (if (onTheHeap (Value.ref D) && Value.builtin "BaseException.__getattribute__" == Value.builtin "object.__getattribute__") = true then _ else _) _ _ _
  rw [if_neg (by rw [ne, Bool.and_false]; exact Bool.false_ne_true)]
  unfold getAttrByItsOwn hookBefore
  rw [if_pos (show onTheHeap (Value.ref D) = true from rfl)]
  refine wpAny_bind (LH.at (wpAny_bind (wpAny_attempt (wpAny_holding ?_))))
  unfold callGetattribute
  rw [if_neg (show ¬ (false && onTheHeap (Value.builtin "BaseException.__getattribute__")) = true from Bool.false_ne_true)]
  unfold boundAndCalled
  rw [PySem.F.excAttr_ValueError.ga.bind (.ref x)]
  refine wpAny_bind (wpAny_pure (wpAny_call (codeAny_call_builtin PySem.F.excAttr_ValueError.ga.plain PySem.F.entry_bexc_ga ?_)))
  refine @check_slot (model prog w) _ _ ⟨hp, g, d, t + 1, os⟩ "BaseException.__getattribute__" "BaseException" "__getattribute__" (.ref x) [.str "__class__" t] [] _ (by decide +kernel) (by decide +kernel) isE (PySem.F.args_bexc_ga (.ref x) (.str "__class__" t)) ?_
  unfold Builtin.«object.__getattribute__»
  refine wpAny_bind (wpAny_of_eq (a := ((Value.ref x : Value), [Value.str "__class__" t])) (by first | rfl | (simp only [slotArgs]; rfl)) (wpAny_bind (wpAny_pure (wpAny_bind (LT.at (wpAny_bind (LF.at ?_)))))))
  show wpAny _ _ (holding [Value.builtin "object.__class__"] (call (.builtin "getset_descriptor.__get__") [.builtin "object.__class__", .ref x, .ref D]) >>= ret) _ _ _
  refine wpAny_bind (wpAny_holding (wpAny_call (class_get (s := ⟨hp, g, d, t + 1, os⟩) (ox := ox) (od := od) X I C.hm (wpAny_pure ?_))))
  show wpAny (model prog w) _ (handedOut (.ref D)) _ _ _
  rw [handedOut_of (v := Value.ref D) rfl]
  first
    | exact wpAny_pure (wpAny_pure h)
    | exact wpAny_pure (wpAny_bind (wpAny_pure (wpAny_pure h)))
    | exact wpAny_pure h
/-- what isinstance asks of such an exception -/
theorem kit_exc (C : L2.ExcC K D) : KitX K (.ref x) (.ref D) (fun h => ∃ ox od, InstAt h x ox D od) := by
  obtain ⟨cd, hcd, _⟩ := any_some C.hd
  obtain ⟨o, ho, hob⟩ : ∃ o, K.lookup D = some o ∧ ∃ cc dd sl, o = ⟨cc, dd, .cls cd, sl⟩ := by
    unfold clsIn at hcd
    split at hcd
    · rename_i c' d' cd' sl' ho
      cases hcd
      exact ⟨_, ho, _, _, _, rfl⟩
    · cases hcd
  obtain ⟨cc, dd, sl, rfl⟩ := hob
  refine ⟨fun _ _ _ ⟨_, _, I⟩ => I.type, fun _ _ X _ A' Q' E' s' k q => ?_, fun h tp dt its n sl' X htp => Bool.eq_false_iff.mpr fun q => ?_, fun X ⟨_, _, I⟩ k => class_of_exc C X I k⟩
  · unfold isType loadHead
    exact wpAny_bind (wpAny_loadPart (k _ _ (X _ _ ho)) (wpAny_pure q))
  · obtain rfl : D = tp := Value.ref.inj (beq_iff_eq.mp q)
    cases (X _ _ ho).symm.trans htp
end
end FabX
end PySem
namespace Fab
open PySem L2 PySem.Spec PyProof.Rows
section
variable {X : Cx} {a D : Addr} {d : Option Addr}
/-- its dict, where it has one, stands -/
def XdAt (H : Hp) : Option Addr → Prop
  | some dd => ∃ fs, H dd = some (.xd fs)
  | none => True
theorem inst_of {P : Program} {w : World} {H : Hp} {h : Heap} (hok : HOk P w H h) (e : H a = some (exK a (.ref D) d)) (hd : XdAt H d) : ∃ ox od, PySem.W.InstAt h a ox D od := by
  obtain ⟨oe, vs, he, hz, hv⟩ := exK_at hok e
  have no : PySem.W.notCls oe = true := by
    unfold PySem.W.notCls
    rw [hv]
    all_goals rfl
  cases d with
  | none => exact ⟨oe, none, he, hz.1, no, by rw [hz.2]; exact True.intro⟩
  | some dd =>
    obtain ⟨fs, hfs⟩ := hd
    obtain ⟨mA, ⟨od, es, ep, ho, _⟩, _⟩ := hok dd _ hfs
    exact ⟨oe, some od, he, hz.1, no, by rw [hz.2]; exact ho⟩
/-- isinstance(e, c), e a kept exception -/
def rIsK (K : PySem.W.Frag) : List V → Hp → VK → Prop := fun xs H Q => ∃ (a D : Addr) (d : Option Addr) (c : V) (cv : Value) (b : Bool), xs = [.ref a, c] ∧ ClsV c cv ∧ H a = some (exK a (.ref D) d) ∧ XdAt H d ∧ ExcC K D ∧ PySem.W.kitOne K (.ref D) cv = some b ∧ Q (.bl b) H
theorem call_isK : CallR X (.builtin "isinstance") (rIsK X.K) := by
  intro pins s σ H xs us Q I r h
  obtain ⟨a, D, d, c, cv, b, rfl, hc, ha, hd, C, e, q⟩ := h
  obtain ⟨u1, u2, rfl, r1, r2⟩ := vals2 r
  cases (show u1 = Value.ref a from r1)
  obtain rfl := hc.eq r2
  exact PySem.W.kia_one (PySem.FabX.kit_exc C) I.kIn (inst_of I.hok ha hd) e (fun z => nomatch z) fun tk => ⟨.bl b, H, I.tok tk, rfl, q⟩
/-- e.f, e a kept exception -/
def tXfK (K : PySem.W.Frag) (f : Str) (te : TE) : TE := fun σ H Q => te σ H fun x H1 => ∃ (a C dd : Addr) (fs : List (Str × V)) (v : V), x = .ref a ∧ H1 a = some (exK a (.ref C) (some dd)) ∧ XfC K C ∧ PySem.W.findIn K (.ref C) f = some none ∧ H1 dd = some (.xd fs) ∧ fs.lookup f = some v ∧ Q v H1
theorem pe_xfK {e : Expr} {te : TE} {pos : Pos} {f : Str} (he : PE X e te) (hb : attributeBase e f X.env (eval e X.env) = eval e X.env := by rfl) : PE X (.Attribute e f pos) (tXfK X.K f te) := by
  refine ⟨fun pins s σ H Q I h => attr_of hb (thn (he.run pins s σ H _ I h) fun u s1 ⟨x, H1, I1, rx, a, C, dd, fs, v, ex, ea, T, no, ed, hl, q⟩ => ?_)⟩
  subst ex
  cases (show u = Value.ref a from rx)
  obtain ⟨oe, vs, he1, hz, hv⟩ := exK_at I1.hok ea
  have hx : ObjOk X.prog X.w H1 s1.heap dd (.xd fs) := I1.hok dd _ ed
  obtain ⟨mA, hns, hr⟩ := hx
  obtain ⟨od, ho, hlk⟩ := lookIn_ns hns
  obtain ⟨u, hu, ru⟩ := RelO.some_of (v := v) (o := mA f) (by rw [← hl]; exact hr f)
  have no' : PySem.W.notCls oe = true := by
    unfold PySem.W.notCls
    rw [hv]
    all_goals rfl
  exact HandSPX.exc_get I1.kIn ⟨he1, hz.1, no', by rw [hz.2]; exact ho⟩ T.ga T.gg T.exC (PySem.W.findObj_own T.hdC no rfl (by rw [hlk, hu])) (handed_of ru) ⟨v, H1, I1.tok _, ru, q⟩
end
end Fab
set_option maxHeartbeats 4000000
namespace Fab
open PySem L2 PySem.FabX
/-- the classes of exceptions that a law asks for -/
inductive Kd where
  | row | turn | place | number | other | great | text | way | nothing
  deriving DecidableEq
def Kd.name : Kd → Str
  | .row => "BadRow" | .turn => "BadTurn" | .place => "BadPlace" | .number => "BadNumber" | .other => "OtherLength" | .great => "TooGreat" | .text => "BadText" | .way => "BadWay" | .nothing => "NothingLeft"
def Kd.fld : Kd → Str
  | .row => "place" | .turn => "place" | .place => "value" | .number => "value" | .other => "" | .great => "most" | .text => "place" | .way => "value" | .nothing => ""
/-- the classes that have a field -/
def Kd.has : Kd → Bool
  | .other => false | .nothing => false | _ => true
/-- the classes in the order in which the laws ask for them -/
abbrev kds9 : List Kd := [.row, .turn, .place, .number, .other, .text, .way, .nothing, .great]
abbrev wds9 : List Str := ["BadRow", "BadTurn", "BadPlace", "BadNumber", "OtherLength", "BadText", "BadWay", "NothingLeft", "TooGreat"]
structure Exs (K : PySem.W.Frag) (mg : Str → Option Value) (CF : Addr) (C : Kd → Addr) : Prop where
  mgF : mg "FaceError" = some (.ref CF)
  mgc : ∀ k, mg k.name = some (.ref (C k))
  exc : ∀ k, ExcC K (C k)
  kit : ∀ k j, PySem.W.kitOne K (.ref (C k)) (.ref (C j)) = some (decide (k = j))
  kve : ∀ k, PySem.W.kitOne K (.ref (C k)) (.type "ValueError") = some (!decide (k = .great))
  xf : ∀ k, XfC K (C k)
  no : ∀ k, PySem.W.findIn K (.ref (C k)) k.fld = some none
  any : ∀ k, PySem.W.exmAny K (.ref (C k)) [.ref CF, .ref (C .great)] = some true
def Qh (Q : VK) : VK := fun v H => ∀ p H', Same H H' → H' p = some (.lst [v]) → Q (.ref p) H'
/-- the tuple that is told of an exception -/
def TdT (k : Kd) (v : V) : List V := if k.has = true then [.str k.name, v] else [.str k.name]
/-- what is wanted of an exception that is told -/
def Et (C : Kd → Addr) (Q : VK) : XK := fun cls d H => ∃ k : Kd, cls = .ref (C k) ∧ ((k.has = true ∧ ∃ dd v, d = some dd ∧ H dd = some (.xd [(k.fld, v)]) ∧ ∀ p H', Same H H' → H' p = some (.tup (TdT k v)) → Q (.ref p) H') ∨
  (k.has = false ∧ d = none ∧ ∀ p H', Same H H' → H' p = some (.tup (TdT k .non)) → Q (.ref p) H'))
theorem pe_cl {X : Cx} {x : Str} {c : Addr} {pos : Pos} (hg : Gl X x) (hm : X.mg x = some (.ref c)) (hd : (x == ("__debug__" : Str)) = false := by decide) : PE X (.Name x pos) (tC (.ref c)) := pe_glob hg hm rfl hd
theorem Same.new {H : Hp} {p : Addr} {o : HO} (h : H p = none) : Same H (upd H p o) := fun a u z => by
  rw [upd_ne (ne_of_none z h)]
  exact z
end Fab
set_option maxHeartbeats 4000000
namespace PySem
namespace FabX
open PySem PySem.W PySem.Calls PyProof.Rows
open Builtin
set_option maxHeartbeats 1000000 in
theorem meets_enumerate_new1 {v : Value} {o : Obj} {H : Heap → Prop} (B : Begins v o H) :
    Meets (Builtin.«enumerate.__new__» ⟨[.type "enumerate", v], []⟩) (fun _ R s => H s.heap ∧
      R (.ok (.ret (.ref (s.heap.push o).objs.size))) { s with heap := (s.heap.push o).push { cls := .type "enumerate", data := .fields #[.none, .bool false, .ref s.heap.objs.size, rawInt 0, .none, .none] } }) :=
  .of_wp fun prog w A R s h => by
    obtain ⟨hp, g, d, tk, os⟩ := s; obtain ⟨h1, h⟩ := h
    have hsub := sub_enumerate
    have q1 : ∀ {A' : Around} {E : Value → Shared → Prop} {Q : Value → Shared → Prop}, Q (.ref hp.objs.size) ⟨hp.push o, g, d, tk, os⟩ → wpAny (model prog w) A' (pyIter v) Q E ⟨hp, g, d, tk, os⟩ :=
      fun q => B.iter prog w _ _ ⟨hp, g, d, tk, os⟩ _ h1 q
    wp_walk using q1
    refine wpAny_stack_any fun st => wpAny_pure ?_
    split
    · rename_i c _ _ _ _ _
      cases (c == Value.type "enumerate")
      · wp_walk using q1
        exact ⟨_, rfl, h⟩
      · wp_walk using q1
        exact ⟨_, rfl, h⟩
    · wp_walk using q1
      exact ⟨_, rfl, h⟩
section
variable {prog : Program} {w : World} {A : Around} {E : Value → Shared → Prop} {s : Shared}
theorem enum_begins1 {v : Value} {o : Obj} {H : Heap → Prop} {Q : Value → Shared → Prop} (B : Begins v o H) (h1 : H s.heap)
    (h : ∀ h', IsEnum h' (s.heap.objs.size + 1) s.heap.objs.size 0 .none → h'.get? s.heap.objs.size = some o → h'.objs.size = s.heap.objs.size + 2 →
      (∀ b o, s.heap.get? b = some o → h'.get? b = some o) → Q (.ref (s.heap.objs.size + 1)) { s with heap := h' }) :
    wpAny (model prog w) A (call (.type "enumerate") [v]) Q E s := by
  refine callType_new F.called_enumerate (by decide) (F.typeCall_enumerate_1 _) (F.newCall_enumerate_1 _) (fun obj => F.args_object_init_2 obj _) F.entry_enumerate_new
    (meets_enumerate_new1 B) ⟨h1, ?_⟩
  have hz : (s.heap.push o).objs.size = s.heap.objs.size + 1 := Heap.size_push ..
  show _ ∧ _
  rw [hz]
  have he : IsEnum ((s.heap.push o).push { cls := .type "enumerate", data := .fields #[.none, .bool false, .ref s.heap.objs.size, rawInt 0, .none, .none] }) (s.heap.objs.size + 1) s.heap.objs.size 0 .none := by
    have := Heap.get?_push_size (s.heap.push o) (o := { cls := .type "enumerate", data := .fields #[.none, .bool false, .ref s.heap.objs.size, rawInt 0, .none, .none] }) rfl
    rw [hz] at this; exact this
  refine ⟨⟨_, he, rfl⟩, h _ he (Heap.get?_push_of_some _ (Heap.get?_push_size _ B.free)) (by rw [Heap.size_push, hz]) fun b o x => Heap.get?_push_of_some _ (Heap.get?_push_of_some _ x)⟩
theorem enumT_end {e it a : Addr} {j : Int} {i : Nat} {items : Array Value} {old : Value} {Q : Option Value → Shared → Prop} (hh : A.handled = none) (he : IsEnum s.heap e it j old) (hit : s.heap.IsTupleIter it a i) (hl : s.heap.IsTuple a items) (hx : items[i]? = none)
    (hQ : ∀ h', Heap.ExtBut it s.heap h' → Q none { s with heap := h' }) : wpAny (model prog w) A (pyNext (.ref e)) Q E s := by
  have hT : s.TypeIs (.ref e) "enumerate" := ⟨_, he, rfl⟩
  unfold pyNext
  refine wpAny_bind (wpAny_attempt (wpAny_callSpecial?_slot (name := Str.ofString "__next__") hT F.slot_enumerate_next
    (wpAny_call_entry F.slot_enumerate_next hT F.entry_enumerate_next ?_ (F.args_enumerate_next_1 _))))
  show wpAny _ _ (field (.ref e) 2 >>= _) _ _ _
  refine wpAny_bind (wpAny_field he rfl (x := .ref it) rfl ?_)
  refine wpAny_bind (wpAny_nextOf_tuple_end (A := A.in1) hh hit hl hx fun h' x he' hx' => ?_)
  obtain ⟨o, ho, hc⟩ := hx'
  refine wpAny_bind (wpAny_isInstance (T := "StopIteration") (b := true) ⟨o, ho, hc⟩ isSubtype_stop ?_)
  exact wpAny_pure (hQ _ he')
end
end FabX
end PySem
namespace Fab
open PySem L2 PySem.Spec PyProof.Rows
/-- the tuple at a as it stands at each turn, each item in a new pair -/
def IteT (K : PySem.W.Frag) (a : Addr) : It :=
  ⟨fun i H => ∃ (xs : List V) (x : V), SqT K H a xs ∧ xs[i]? = some x, fun i H v H' => ∃ T x, v = .ref T ∧ H T = none ∧ H' = upd H T (.tup [.int (i : Nat), x]) ∧ ∀ xs, SqT K H a xs → xs[i]? = some x, fun i H => ∃ xs : List V, SqT K H a xs ∧ xs.length ≤ i⟩
theorem turn_enumT {P : Program} {w : World} {K : PySem.W.Frag} {elts : List Expr} {kk : Nat} {tpos : Pos} (a e it : Addr) :
    Turn P w K (.Tuple elts kk tpos) (IteT K a) [e, it] e (fun i h => (∃ old, IsEnum h e it ((i : Nat) : Int) old) ∧ h.IsTupleIter it a i ∧ e ≠ it ∧ a ≠ it ∧ a ≠ e) where
  mem := by simp
  obj := fun i h st b hb => by
    obtain ⟨⟨old, he⟩, ⟨o, ho, hc, hd⟩, _⟩ := st
    have e' : b = e ∨ b = it := by simpa using hb
    rcases e' with z | z
    · rw [z]; exact ⟨_, he, fun v q => nomatch q⟩
    · rw [z]; exact ⟨o, ho, fun v q => by rw [hd] at q; cases q⟩
  keep := fun i h h' st k => let ⟨⟨old, he⟩, hi, hne⟩ := st; ⟨⟨old, k e (by simp) _ he⟩, hi.at fun o q => k it (by simp) o q, hne⟩
  item := by
    intro X hP hw hK hc i pins s σ H E I hf st hg
    subst hP hw hK
    obtain ⟨⟨old, he⟩, hit, hne, hai, hae⟩ := st
    obtain ⟨xs, x, hq, hx⟩ := hg
    obtain ⟨its, rv, p, hz⟩ := I.tuple hq
    obtain ⟨u, hu, ru⟩ := rv.get hx
    have hel : e < s.heap.objs.size := Heap.lt_size he
    have hil : it < s.heap.objs.size := by obtain ⟨_, q, _⟩ := hit; exact Heap.lt_size q
    have pT : s.heap.IsTuple a its.toArray := p
    have hlt : i < its.toArray.size := by
      have := (List.getElem?_eq_some_iff.mp hu).1
      simpa using this
    refine wpAny_pyNext_enum_itemD (Draws.tuple (A := X.A.in1) (I.ok.hd hc) it a hai its.toArray) he ⟨hit, pT⟩ hlt hne (by simp [hne, hae.symm]) fun x' h' tk hP' ho hst hT hsz hk => ?_
    have ex : x' = u := by
      have h1 : its.toArray[i]? = some x' := hP'
      rw [show its.toArray[i]? = some u by simpa using hu] at h1
      exact (Option.some.inj h1).symm
    subst ex
    refine ⟨_, rfl, wpAny_letOwnedTupleGo_enum (s := { s with heap := h', toks := tk + 1 }) ho fun h'' he' sb => ?_⟩
    have hT2 : h''.get? s.heap.objs.size = some { cls := .type "tuple", data := .seq #[.int i tk, x'] } := (sb.2 _ (Nat.ne_of_gt hel)).trans hT
    have new : ObjOk X.prog X.w (upd H s.heap.objs.size (.tup [.int (i : Nat), x])) h'' s.heap.objs.size (.tup [.int (i : Nat), x]) :=
      ⟨by show 2 ≤ sizeLine; decide, [.int i tk, x'], .cons ⟨_, rfl⟩ (.cons ru .nil), ⟨_, hT2, rfl, _, rfl⟩⟩
    have I1 : Inv X pins σ (upd H s.heap.objs.size (.tup [.int (i : Nat), x])) { s with heap := h'', toks := tk + 1 } :=
      I.turnedNew (ch := [e, it]) (fun b ob hb q => (sb.2 b (fun z => hb (by simp [z]))).trans (hk b ob (fun z => hb (by simp [z])) (fun z => hb (by simp [z])) q)) hf (Nat.le_refl _) new
    refine ⟨.ref s.heap.objs.size, _, I1, rfl, ⟨_, x, rfl, I.hok.fresh (Nat.le_refl _), rfl, fun ys hy => by rw [I.tuple_inj hy hq]; exact hx⟩, ⟨⟨x', ?_⟩, hst.1.at fun o q => (sb.2 it (Ne.symm hne)).trans q, hne, hai, hae⟩, fun b hb => ?_⟩
    · have e1 : ((i + 1 : Nat) : Int) = (i : Int) + 1 := by omega
      rw [e1]; exact he'
    · have hb' : b < s.heap.objs.size := by
        have e' : b = e ∨ b = it := by simpa using hb
        rcases e' with z | z
        · rw [z]; exact hel
        · rw [z]; exact hil
      rw [upd_ne (Nat.ne_of_lt hb')]
      exact (hf b hb).1
  done := by
    intro X hP hw hK hc i pins s σ H E I hf st hg
    subst hP hw hK
    obtain ⟨⟨old, he⟩, hit, hne, hai, hae⟩ := st
    obtain ⟨xs, hq, hx⟩ := hg
    obtain ⟨its, rv, p, hz⟩ := I.tuple hq
    obtain ⟨f0, f1, f2, f3, f4, f5⟩ := hf it (by simp)
    have hl := rv.length
    have pT : s.heap.IsTuple a its.toArray := p
    exact PySem.FabX.enumT_end (I.ok.hd hc) he hit pT (by simp; omega) fun h' eb => ⟨rfl, I.turned (t' := s.toks) (fun b o hb q => eb b o hb q) f0 f1 f3 f4 f5⟩
  self := fun A i s Q E st h => let ⟨⟨_, he⟩, _⟩ := st; wpAny_pyIter_enum he h
def iEnumA (K : PySem.W.Frag) (ta : TA) : TI := fun σ H R => ta σ H fun vs H1 => ∃ a xs, vs = [.ref a] ∧ ((SqL K H1 a xs ∧ R (Ite K a) H1) ∨ (SqT K H1 a xs ∧ R (IteT K a) H1))
theorem pi_enumA {X : Cx} {e : Expr} {ta : TA} {p pos tpos : Pos} {elts : List Expr} {kk : Nat} (hg : Gl X "enumerate") (hm : X.mg "enumerate" = none) (ha : PA X [e] ta) (hs : starEach [e] X.env = [(false, eval e X.env)] := by rfl) :
    PI X (.Tuple elts kk tpos) (.Call (.Name "enumerate" p) [e] [] pos) (iEnumA X.K ta) := by
  refine ⟨fun pins s σ H R I h => ?_⟩
  refine Call_ (ld_blt I hg hm boot_enumerate (PyProof.Rows.callWith_type1 (thn (ha.run pos pins s σ H _ I h) fun us s1 ⟨vs, H1, I1, r1, q1⟩ => ?_) hs rfl))
  obtain ⟨a, xs, ex, hq⟩ := q1
  subst ex
  cases r1 with
  | cons r rr =>
    cases rr
    cases r
    have fresh : ∀ b, b ∈ [s1.heap.objs.size + 1, s1.heap.objs.size] → FpOk X pins H1 b := fun b hb => by
      have e' : b = s1.heap.objs.size + 1 ∨ b = s1.heap.objs.size := by simpa using hb
      have hle : s1.heap.objs.size ≤ b := by
        rcases e' with z | z
        · rw [z]; exact Nat.le_add_right _ _
        · rw [z]; exact Nat.le_refl _
      exact I1.fpOk hle (I1.hok.fresh hle)
    rcases hq with ⟨hq, q⟩ | ⟨hq, q⟩
    · obtain ⟨its, rv, p', hz⟩ := I1.list hq
      refine call_enumerate_list p'.isList fun h' he hit hsz hk => wpAny_pyIter_enum he ?_
      have I2 : Inv X pins σ H1 { s1 with heap := h' } := I1.kept (t' := s1.toks) hk
      exact ⟨s1.heap.objs.size + 1, [s1.heap.objs.size + 1, s1.heap.objs.size], _, _, H1, rfl, I2, turn_enum a (s1.heap.objs.size + 1) s1.heap.objs.size, ⟨⟨.none, he⟩, hit, Nat.succ_ne_self _⟩, fresh, q⟩
    · obtain ⟨its, rv, p', hz⟩ := I1.tuple hq
      have pT : s1.heap.IsTuple a its.toArray := p'
      have al : a < s1.heap.objs.size := by obtain ⟨o, ho, _⟩ := pT; exact Heap.lt_size ho
      refine PySem.FabX.enum_begins1 (begins_tuple a its.toArray) pT fun h' he hit hsz hk => wpAny_pyIter_enum he ?_
      have I2 : Inv X pins σ H1 { s1 with heap := h' } := I1.kept (t' := s1.toks) hk
      exact ⟨s1.heap.objs.size + 1, [s1.heap.objs.size + 1, s1.heap.objs.size], _, _, H1, rfl, I2, turn_enumT a (s1.heap.objs.size + 1) s1.heap.objs.size, ⟨⟨.none, he⟩, ⟨_, hit, rfl, rfl⟩, Nat.succ_ne_self _, Nat.ne_of_lt al, Nat.ne_of_lt (Nat.lt_succ_of_lt al)⟩, fresh, q⟩
theorem walk_enumT {K : PySem.W.Frag} {a : Addr} {xs : List V} : Walk (IteT K a) xs.length (fun H => SqT K H a xs) (YPair (fun i => some (.int (i : Nat))) (fun i => xs[i]?)) := by
  refine ⟨fun i _ hi q => ⟨xs, xs[i], q, by simp [hi]⟩, fun _ q => ⟨xs, q, Nat.le_refl _⟩, fun i H v H' _ q y => ?_⟩
  obtain ⟨T, x, h1, h2, h3, h4⟩ := y
  exact ⟨T, .int (i : Nat), x, h1, h2, h3, rfl, h4 xs q⟩
end Fab
set_option maxHeartbeats 4000000
namespace Fab
open PySem L2 PySem.Spec PyProof.Rows
section
variable {X : Cx} {CX : CXT} {C f : Addr} {k : Nat} {fd : FuncData} {ps : List Str} {sp : Sp} {E : XK}
def rLenO (C : Addr) (sp : Sp) (E : XK) : List V → Hp → VK → Prop := fun xs H Q => ∃ a dx fs, xs = [.ref a] ∧ H a = some (.ins C dx fs) ∧ sp [.ref a] H (fun v H' => ∃ n : Int, v = .int n ∧ 0 ≤ n ∧ n < 2 ^ 63 ∧ Q (.int n) H') E
theorem call_lenO (F : FnOk X.prog X.w X.K X.mg X.base CX k f fd ps sp) (hs : PySem.W.findIn X.K (.ref C) "__len__" = some (some (.ref f))) (hf : PySem.W.isFn X.K (.ref f) = true) (hr : Room (k + 1) X.A) (hb : Binds X.K fd ps []) (hx : Passes CX X E) : CallR X (.builtin "len") (rLenO C sp E) := by
  intro pins s σ H xs us Q I r h
  obtain ⟨a, dx, fs, rfl, ha, h⟩ := h
  obtain ⟨u, rfl, rx⟩ := vals1 r
  cases rx
  obtain ⟨mA, J, _⟩ := ins_get I.hok ha
  obtain ⟨od, J, _⟩ := J.look
  obtain ⟨m, hF⟩ := I.fr
  refine PySem.W.len_K hF I.ok.mod.kin J hs hf ?_
  have e0 : Env0 X.prog X.w X.K X.mg X.base X.A.in1 X.stack s H := by
    have e := I.env0
    exact ⟨e.frames, e.mod, e.bs, e.bsz, e.funs, e.frf, e.hok, e.bare⟩
  have hl := F.len _ _ _ _ h
  have r2 : Vals [V.ref a] [Value.ref a] := .cons rfl .nil
  refine wpAny_call (codeAny_mono (F.run X.A.in1 X.stack s H ⟨[.ref a], []⟩ [.ref a] [.ref a] _ E hr.in1 e0 (by
    have := hb s [.ref a] I.kIn (by simpa using hl)
    simpa using this) r2 h) fun r s' hq => ?_)
  cases r with
  | error e => exact hx pins σ H s e s' I hq
  | ok fl =>
    cases fl with
    | ret w =>
      obtain ⟨z, H', I', rz, n, ez, h0, h1, q⟩ := I.after hq
      subst ez
      obtain ⟨t, rfl⟩ := rz
      exact ⟨⟨h0, h1⟩, .int n, H', I'.tok _, ⟨_, rfl⟩, q⟩
    | next => exact False.elim hq
    | brk => exact False.elim hq
    | cont => exact False.elim hq
end
end Fab
set_option maxHeartbeats 4000000
namespace Fab
open PySem L2 PySem.FabX
abbrev sWhole : Stmt := top 2
abbrev sFault : Stmt := top 17
abbrev sXRow : Stmt := inClass (top 5) 0
abbrev sXTurn : Stmt := inClass (top 6) 0
abbrev sXPlace : Stmt := inClass (top 7) 0
abbrev sXNumber : Stmt := inClass (top 8) 0
abbrev sXGreat : Stmt := inClass (top 13) 0
abbrev sXText : Stmt := inClass (top 10) 0
abbrev sXWay : Stmt := inClass (top 11) 0
abbrev sRI : Stmt := inClass (top 16) 0
abbrev sRLen : Stmt := inClass (top 16) 1
/-- the errors that the text has, with a field -/
abbrev hasK : Kd → Bool
  | .row => true
  | .turn => true
  | .place => true
  | .number => true
  | .other => false
  | .great => true
  | .text => true
  | .way => true
  | .nothing => false
local macro_rules | `(tactic| walk_at "s") => `(tactic| simp [tSeq, tAsg, tOp, tUn, tVar, tC, gName, tCons, tNil, tCB, tCall, rI, rI0, rU, tRet, tDrop, tIfS, tNext, tIf, tTest, tNot, tOr, tAnd, tB, L2.start, CMul, CDiv, rIxF, rLenF, rIntF, sq_lst, sq_tup, tLstF, tTupF, gSub, rCatF, rInF, rNe, rEq, tAndV, tOrV, tNotV, tChain, rSIn, tSAdd, rSAdd])
/-- a value of which isinstance(.., int) is known -/
inductive Asked (K : PySem.W.Frag) (H : Hp) : V → Prop
  | int (i : Int) : Asked K H (.int i)
  | bl (b : Bool) : Asked K H (.bl b)
  | other {x : V} {t : Value} (ty : TyX K H x t) (no : PySem.W.kitOne K t (.type "int") = some false) (h1 : ∀ i, x ≠ .int i) : Asked K H x
def wholeV : V → Int → Int → Bool
  | .int i, lo, hi => decide (lo ≤ i) && decide (i ≤ hi)
  | _, _, _ => false
section
variable {P : Program} {w : World} {K : PySem.W.Frag} {mg : Str → Option Value} {base : Heap}
def spWhole (K : PySem.W.Frag) : Sp := fun vs H Q _ => ∃ (x : V) (lo hi : Int), vs = [x, .int lo, .int hi] ∧ Asked K H x ∧ Q (.bl (wholeV x lo hi)) H
theorem scWhole : FnScope ["value", "least", "most"] ["value", "least", "most"] (defScope sWhole) := ⟨rfl, rfl, rfl, by decide +kernel, rfl, by decide +kernel, by decide +kernel⟩
theorem ok_whole {f : Addr} {fd : FuncData} (F : Fun K "is_whole" "is_whole" sWhole f fd) (B : Blt mg) : FnOk P w K mg base CX0 1 f fd ["value", "least", "most"] (spWhole K) := by
  refine F.ok scWhole (fun vs H Q E h => ?_) (fun cdv A outer s H vs Q E hr h => ?_)
  · obtain ⟨x, lo, hi, rfl, _⟩ := h
    rfl
  · obtain ⟨x, lo, hi, rfl, ha, k⟩ := h
    refine ⟨_, (pss_one (ps_ret (pe_and (pe_callB call_isi (by rfl) B.isinstance (by decide +kernel) (pa_cons (pv 0) (pa_cons (pe_bltn (v := .ty "int") (by rfl) B.int (by decide +kernel) rfl) pa_nil))) (pe_and (pe_not (pe_callB call_isi (by rfl) B.isinstance (by decide +kernel) (pa_cons (pv 0) (pa_cons (pe_bltn (v := .ty "bool") (by rfl) B.bool (by decide +kernel) rfl) pa_nil)))) (pe_one (pe_chain op_le op_le (pv 1) (pv 0) (pv 2))))))), ?_⟩
    walk_at "s"
    cases ha with
    | int i =>
      refine ⟨.int i, .ty "int", .type "int", .type "int", true, rfl, .ty _, .base (.int i), kit_ty (by decide +kernel), .inr ⟨rfl, .int i, .ty "bool", .type "int", .type "bool", false, rfl, .ty _, .base (.int i), kit_ty (by decide +kernel), .inl ⟨rfl, i, rfl, ?_⟩⟩⟩
      unfold wholeV at k
      split
      · rename_i h1
        refine ⟨i, rfl, ?_⟩
        simpa [h1] using k
      · rename_i h1
        simpa [h1] using k
    | bl b => exact ⟨.bl b, .ty "int", .type "bool", .type "int", true, rfl, .ty _, .base (.bl b), kit_ty (by decide +kernel), .inr ⟨rfl, .bl b, .ty "bool", .type "bool", .type "bool", true, rfl, .ty _, .base (.bl b), kit_ty (by decide +kernel), .inr ⟨rfl, k⟩⟩⟩
    | @other x t ty no h1 =>
      refine ⟨x, .ty "int", t, .type "int", false, rfl, .ty _, ty, no, .inl ⟨rfl, ?_⟩⟩
      have e : wholeV x lo hi = false := by
        cases x with
        | int i => exact absurd rfl (h1 i)
        | _ => rfl
      rw [e] at k
      exact k
def spXI (newId : String) (bmB : List Value) (K : PySem.W.Frag) (f : Str) : Sp := fun vs H Q _ => ∃ (a C : Addr) (v : V), vs = [.ref a, v] ∧ H a = some (exo a C none) ∧ XCls newId bmB K C ∧ PySem.W.findIn K (.ref C) f = some none ∧
  ∀ dx, H dx = none → dx ≠ a → Q .non (upd (upd H dx (exd dx [(f, v)])) a (exo a C (some dx)))
/-- what the text says of FaceError -/
structure FaceC (K : PySem.W.Frag) (mg : Str → Option Value) (CF : Addr) : Prop where
  mgF : mg "FaceError" = some (.ref CF)
  gi : PySem.W.specialIn K (.ref CF) "__getattribute__" = some (some (.builtin "type.__getattribute__"))
  rd : PySem.W.readsIn K CF (.type "type") = true
  fi : PySem.W.findCls K (.ref CF) (.type "type") "__init__" = some (.val (.builtin "ValueError.__init__"))
abbrev bmV : List Value := [.type "ValueError", .type "Exception", .type "BaseException", .type "object"]
abbrev bmO : List Value := [.type "OverflowError", .type "ArithmeticError", .type "Exception", .type "BaseException", .type "object"]
theorem scXRow : FnScope ["self", "place"] ["self", "place"] (defScope sXRow) := ⟨rfl, rfl, rfl, by decide +kernel, rfl, by decide +kernel, by decide +kernel⟩
theorem ok_xRow {CF f : Addr} {fd : FuncData} (F : Fun K "__init__" "BadRow.__init__" sXRow f fd) (T : FaceC K mg CF) : FnOk P w K mg base CX0 1 f fd ["self", "place"] (spXI "ValueError.__new__" bmV K "place") := by
  refine F.ok scXRow (fun vs H Q E h => ?_) (fun cdv A outer s H vs Q E hr h => ?_)
  · obtain ⟨a, C, v, rfl, _⟩ := h
    rfl
  · obtain ⟨a, C, v, rfl, ha, X, no, k⟩ := h
    refine ⟨_, pss_cons (ps_expr (pe_xiC eb_value (by rfl) T.mgF T.gi T.rd T.fi (by decide +kernel) (pa_cons (pv 0) (pa_cons pe_str pa_nil)))) (pss_one (ps_xst eb_value (pv 0) (pv 1))), ?_⟩
    exact ⟨_, rfl, a, C, _, rfl, by decide, X, ha, _, rfl, _, rfl, a, C, rfl, X, no, ha, k⟩
theorem scXTurn : FnScope ["self", "place"] ["self", "place"] (defScope sXTurn) := ⟨rfl, rfl, rfl, by decide +kernel, rfl, by decide +kernel, by decide +kernel⟩
theorem ok_xTurn {CF f : Addr} {fd : FuncData} (F : Fun K "__init__" "BadTurn.__init__" sXTurn f fd) (T : FaceC K mg CF) : FnOk P w K mg base CX0 1 f fd ["self", "place"] (spXI "ValueError.__new__" bmV K "place") := by
  refine F.ok scXTurn (fun vs H Q E h => ?_) (fun cdv A outer s H vs Q E hr h => ?_)
  · obtain ⟨a, C, v, rfl, _⟩ := h
    rfl
  · obtain ⟨a, C, v, rfl, ha, X, no, k⟩ := h
    refine ⟨_, pss_cons (ps_expr (pe_xiC eb_value (by rfl) T.mgF T.gi T.rd T.fi (by decide +kernel) (pa_cons (pv 0) (pa_cons pe_str pa_nil)))) (pss_one (ps_xst eb_value (pv 0) (pv 1))), ?_⟩
    exact ⟨_, rfl, a, C, _, rfl, by decide, X, ha, _, rfl, _, rfl, a, C, rfl, X, no, ha, k⟩
theorem scXText : FnScope ["self", "place"] ["self", "place"] (defScope sXText) := ⟨rfl, rfl, rfl, by decide +kernel, rfl, by decide +kernel, by decide +kernel⟩
theorem ok_xText {CF f : Addr} {fd : FuncData} (F : Fun K "__init__" "BadText.__init__" sXText f fd) (T : FaceC K mg CF) : FnOk P w K mg base CX0 1 f fd ["self", "place"] (spXI "ValueError.__new__" bmV K "place") := by
  refine F.ok scXText (fun vs H Q E h => ?_) (fun cdv A outer s H vs Q E hr h => ?_)
  · obtain ⟨a, C, v, rfl, _⟩ := h
    rfl
  · obtain ⟨a, C, v, rfl, ha, X, no, k⟩ := h
    refine ⟨_, pss_cons (ps_expr (pe_xiC eb_value (by rfl) T.mgF T.gi T.rd T.fi (by decide +kernel) (pa_cons (pv 0) (pa_cons pe_str pa_nil)))) (pss_one (ps_xst eb_value (pv 0) (pv 1))), ?_⟩
    exact ⟨_, rfl, a, C, _, rfl, by decide, X, ha, _, rfl, _, rfl, a, C, rfl, X, no, ha, k⟩
theorem scXWay : FnScope ["self", "value"] ["self", "value"] (defScope sXWay) := ⟨rfl, rfl, rfl, by decide +kernel, rfl, by decide +kernel, by decide +kernel⟩
theorem ok_xWay {CF f : Addr} {fd : FuncData} (F : Fun K "__init__" "BadWay.__init__" sXWay f fd) (T : FaceC K mg CF) : FnOk P w K mg base CX0 1 f fd ["self", "value"] (spXI "ValueError.__new__" bmV K "value") := by
  refine F.ok scXWay (fun vs H Q E h => ?_) (fun cdv A outer s H vs Q E hr h => ?_)
  · obtain ⟨a, C, v, rfl, _⟩ := h
    rfl
  · obtain ⟨a, C, v, rfl, ha, X, no, k⟩ := h
    refine ⟨_, pss_cons (ps_expr (pe_xiC eb_value (by rfl) T.mgF T.gi T.rd T.fi (by decide +kernel) (pa_cons (pv 0) (pa_cons pe_str pa_nil)))) (pss_one (ps_xst eb_value (pv 0) (pv 1))), ?_⟩
    exact ⟨_, rfl, a, C, _, rfl, by decide, X, ha, _, rfl, _, rfl, a, C, rfl, X, no, ha, k⟩
theorem scXPlace : FnScope ["self", "value"] ["self", "value"] (defScope sXPlace) := ⟨rfl, rfl, rfl, by decide +kernel, rfl, by decide +kernel, by decide +kernel⟩
theorem ok_xPlace {CF f : Addr} {fd : FuncData} (F : Fun K "__init__" "BadPlace.__init__" sXPlace f fd) (T : FaceC K mg CF) : FnOk P w K mg base CX0 1 f fd ["self", "value"] (spXI "ValueError.__new__" bmV K "value") := by
  refine F.ok scXPlace (fun vs H Q E h => ?_) (fun cdv A outer s H vs Q E hr h => ?_)
  · obtain ⟨a, C, v, rfl, _⟩ := h
    rfl
  · obtain ⟨a, C, v, rfl, ha, X, no, k⟩ := h
    refine ⟨_, pss_cons (ps_expr (pe_xiC eb_value (by rfl) T.mgF T.gi T.rd T.fi (by decide +kernel) (pa_cons (pv 0) (pa_cons pe_str pa_nil)))) (pss_one (ps_xst eb_value (pv 0) (pv 1))), ?_⟩
    exact ⟨_, rfl, a, C, _, rfl, by decide, X, ha, _, rfl, _, rfl, a, C, rfl, X, no, ha, k⟩
theorem scXNumber : FnScope ["self", "value"] ["self", "value"] (defScope sXNumber) := ⟨rfl, rfl, rfl, by decide +kernel, rfl, by decide +kernel, by decide +kernel⟩
theorem ok_xNumber {CF f : Addr} {fd : FuncData} (F : Fun K "__init__" "BadNumber.__init__" sXNumber f fd) (T : FaceC K mg CF) : FnOk P w K mg base CX0 1 f fd ["self", "value"] (spXI "ValueError.__new__" bmV K "value") := by
  refine F.ok scXNumber (fun vs H Q E h => ?_) (fun cdv A outer s H vs Q E hr h => ?_)
  · obtain ⟨a, C, v, rfl, _⟩ := h
    rfl
  · obtain ⟨a, C, v, rfl, ha, X, no, k⟩ := h
    refine ⟨_, pss_cons (ps_expr (pe_xiC eb_value (by rfl) T.mgF T.gi T.rd T.fi (by decide +kernel) (pa_cons (pv 0) (pa_cons pe_str pa_nil)))) (pss_one (ps_xst eb_value (pv 0) (pv 1))), ?_⟩
    exact ⟨_, rfl, a, C, _, rfl, by decide, X, ha, _, rfl, _, rfl, a, C, rfl, X, no, ha, k⟩
theorem scXGreat : FnScope ["self", "most"] ["self", "most"] (defScope sXGreat) := ⟨rfl, rfl, rfl, by decide +kernel, rfl, by decide +kernel, by decide +kernel⟩
theorem ok_xGreat {f : Addr} {fd : FuncData} (F : Fun K "__init__" "TooGreat.__init__" sXGreat f fd) (B : Blt mg) (fi : PySem.W.findCls K (.type "OverflowError") (.type "type") "__init__" = some (.val (.builtin "OverflowError.__init__"))) : FnOk P w K mg base CX0 1 f fd ["self", "most"] (spXI "OverflowError.__new__" bmO K "most") := by
  refine F.ok scXGreat (fun vs H Q E h => ?_) (fun cdv A outer s H vs Q E hr h => ?_)
  · obtain ⟨a, C, v, rfl, _⟩ := h
    rfl
  · obtain ⟨a, C, v, rfl, ha, X, no, k⟩ := h
    refine ⟨_, pss_cons (ps_expr (pe_xiT eb_over (by rfl) B.overflowError (by rfl) (by kernel_rfl) (by decide +kernel) fi (by decide +kernel) (pa_cons (pv 0) (pa_cons pe_str pa_nil)))) (pss_one (ps_xst eb_over (pv 0) (pv 1))), ?_⟩
    exact ⟨_, rfl, a, C, _, rfl, by decide, X, ha, _, rfl, _, rfl, a, C, rfl, X, no, ha, k⟩
end
/-- an own error, as it is raised -/
structure XD (P : Program) (w : World) (K : PySem.W.Frag) (mg : Str → Option Value) (base : Heap) (k : Kd) (C : Addr) (B newId initId : String) (bmB : List Value) (fI : Addr) (fd : FuncData) : Prop where
  eb : EBase B newId initId bmB
  T : XCls newId bmB K C
  iC : PySem.W.findIn K (.ref C) "__init__" = some (some (.ref fI))
  tI : PySem.W.typeIn K (.ref fI) = some (.type "function")
  F : FnOk P w K mg base CX0 1 fI fd ["self", k.fld] (spXI newId bmB K k.fld)
  hb : Binds K fd ["self", k.fld] []
  no : PySem.W.findIn K (.ref C) k.fld = some none
  mgC : mg k.name = some (.ref C)
def XDs (P : Program) (w : World) (K : PySem.W.Frag) (mg : Str → Option Value) (base : Heap) (C : Kd → Addr) (k : Kd) : Prop := ∃ B newId initId bmB fI fd, XD P w K mg base k (C k) B newId initId bmB fI fd
/-- raise C(e) -/
def tRx (C : Addr) (f : Str) (W : WX) (te : TE) : TS := fun _ σ H => te σ H fun v H1 => ∀ d H2, H1 d = none → H2 = upd H1 d (.xd [(f, v)]) → W (.ref C) (some d) σ H2
theorem ps_raiseX {X : Cx} {C : Kd → Addr} {k : Kd} {W : WX} {e : Expr} {te : TE} {p pos pos2 : Pos} (hc : X.calm = true) (D : XDs X.prog X.w X.K X.mg X.base C k) (hr : Room 2 X.A) (tk : Takes X W) (he : PE X e te) (hg : Gl X k.name)
    (hs : starEach (e :: []) X.env = (false, eval e X.env) :: starEach [] X.env := by rfl) (hpl : (backTo pos (starEach [] X.env)).any (·.1) = false := by rfl) (hdb : (k.name == ("__debug__" : Str)) = false := by decide +kernel) :
    PS X (.Raise (some (.Call (.Name k.name p) [e] [] pos)) none pos2) (tRx (C k) k.fld W te) := by
  obtain ⟨B, newId, initId, bmB, fI, fd, D⟩ := D
  refine psI (ps_raise hc tk (pmk_x D.eb D.T D.iC D.tI D.F hr D.hb (fun _ _ _ _ z => z) hg D.mgC (pa_cons (pe_mon he) pa_nil hs) hdb hs hpl)) fun D' σ H q => ?_
  refine mon_of q fun v H1 q1 => ⟨(by show 1 ≤ 1000; decide), fun a ha => ⟨a, C k, v, rfl, upd_same, D.T, D.no, fun dx hd hne => ⟨rfl, dx, [(k.fld, v)], upd_same, ?_, ?_, ?_⟩⟩⟩
  · rw [upd_ne hne, upd_same]
  · rwa [upd_ne hne] at hd
  · rw [upd_ne hne] at hd
    refine q1 dx _ hd ?_
    funext c
    by_cases h1 : c = dx
    · subst h1
      rw [upd_same, upd_same]
    · rw [upd_ne h1, upd_ne h1]
      unfold del
      by_cases h2 : c = a
      · subst h2
        rw [if_pos rfl, ha]
      · rw [if_neg h2, upd_ne h2, upd_ne h1, upd_ne h2]
/-- the first i items are waggons, each another one -/
def GoodTo (xs : List V) (i : Nat) : Prop := ∃ zs : List Int, xs.take i = zs.map V.int ∧ zs.length = i ∧ (∀ z ∈ zs, z ≠ 0 ∧ z.natAbs ≤ xs.length) ∧ (zs.map Int.natAbs).Nodup
theorem sameSeq {K : PySem.W.Frag} {H H' : Hp} {a : Addr} {o : HO} {xs : List V} (e : H a = some o) (e' : H' a = some o) (h : SqL K H a xs) : SqL K H' a xs := by
  rcases h with (h | ⟨o', h⟩) | h
  · exact .inl (.inl (by rw [e', ← e]; exact h))
  · exact .inl (.inr ⟨o', by rw [e', ← e]; exact h⟩)
  · exact .inr h
theorem seqT_same {K : PySem.W.Frag} {H H' : Hp} {a : Addr} {o : HO} {xs : List V} (e' : H' a = some o) (e : H a = some o) (h : SqT K H a xs) : SqT K H' a xs := by
  rcases h with (h | ⟨o', h⟩) | h
  · exact .inl (.inl (by rw [e', ← e]; exact h))
  · exact .inl (.inr ⟨o', by rw [e', ← e]; exact h⟩)
  · exact .inr h
theorem abs_ite (z : Int) : (if z < 0 then -z else z) = (z.natAbs : Int) := by
  split <;> omega
theorem int_map_inj : ∀ {l l' : List Int}, l.map V.int = l'.map V.int → l = l'
  | [], [], _ => rfl
  | [], _ :: _, h => by simp at h
  | _ :: _, [], h => by simp at h
  | a :: l, b :: l', h => by
    simp only [List.map_cons, List.cons.injEq] at h
    obtain ⟨h1, h2⟩ := h
    cases h1
    rw [int_map_inj h2]
theorem good_next {xs : List V} {i : Nat} {y : V} {zs : List Int} (hx : xs[i]? = some y) (ez : xs.take i = zs.map V.int) (el : zs.length = i) (eb : ∀ z ∈ zs, z ≠ 0 ∧ z.natAbs ≤ xs.length) (en : (zs.map Int.natAbs).Nodup) :
    GoodTo xs (i + 1) ↔ ∃ z, y = .int z ∧ z ≠ 0 ∧ z.natAbs ≤ xs.length ∧ z.natAbs ∉ zs.map Int.natAbs := by
  have e1 : xs.take (i + 1) = zs.map V.int ++ [y] := by
    rw [List.take_succ, hx, ez]
    rfl
  constructor
  · rintro ⟨zs', e', l', b', n'⟩
    rw [e1] at e'
    have h2 : zs' = zs'.take i ++ zs'.drop i := (List.take_append_drop i zs').symm
    obtain ⟨z, hz⟩ : ∃ z, zs'.drop i = [z] := by
      have : (zs'.drop i).length = 1 := by rw [List.length_drop]; omega
      exact List.length_eq_one_iff.mp this
    rw [hz] at h2
    rw [h2, List.map_append] at e'
    obtain ⟨h3, h4⟩ := List.append_inj e' (by simp; omega)
    have h5 := int_map_inj h3
    rw [← h5] at h2
    rw [h2] at b' n'
    rw [List.map_append, List.nodup_append] at n'
    refine ⟨z, by simpa using h4, (b' z (by simp)).1, (b' z (by simp)).2, fun hm => n'.2.2 _ hm _ (by simp) rfl⟩
  · rintro ⟨z, rfl, h1, h2, h3⟩
    refine ⟨zs ++ [z], by rw [e1, List.map_append]; rfl, by simp [el], fun y hy => ?_, ?_⟩
    · rcases List.mem_append.mp hy with hy | hy
      · exact eb y hy
      · rw [List.mem_singleton.mp hy]
        exact ⟨h1, h2⟩
    · rw [List.map_append, List.nodup_append]
      refine ⟨en, by simp, fun a ha b hb => ?_⟩
      rw [List.mem_singleton.mp hb]
      exact fun e => h3 (e ▸ ha)
section
variable {P : Program} {w : World} {K : PySem.W.Frag} {mg : Str → Option Value} {base : Heap}
def spFault (K : PySem.W.Frag) : Sp := fun vs H Q _ => ∃ (a : Addr) (o : HO) (xs : List V), vs = [.ref a] ∧ H a = some o ∧ sq o = some xs ∧ xs.length ≤ 100 ∧ (∀ H', Same H H' → ∀ x ∈ xs, Asked K H' x) ∧
  (∀ H', Same H H' → GoodTo xs xs.length → Q .non H') ∧ ∀ (k : Nat) H', Same H H' → k < xs.length → GoodTo xs k → ¬ GoodTo xs (k + 1) → Q (.int k) H'
theorem scFault : FnScope ["waggons", "many", "numbers", "place", "waggon"] ["waggons"] (defScope sFault) := ⟨rfl, rfl, rfl, by decide +kernel, rfl, by decide +kernel, by decide +kernel⟩
theorem ok_fault {f fW : Addr} {fd fdW : FuncData} (F : Fun K "first_fault" "first_fault" sFault f fd) (B : Blt mg) (cWhole : Dn P w K mg base 1 "is_whole" fW fdW ["value", "least", "most"] (spWhole K)) : FnOk P w K mg base CX0 2 f fd ["waggons"] (spFault K) := by
  refine F.ok scFault (fun vs H Q E h => ?_) (fun cdv A outer s H vs Q E hr h => ?_)
  · obtain ⟨a, o, xs, rfl, _⟩ := h
    rfl
  · obtain ⟨a, o, xs, rfl, ha, ho, hz, hA, k1, k2⟩ := h
    refine ⟨_, (pss_cons (ps_set (i := 1) scFault.nd rfl (by first | exact Or.inl rfl | exact Or.inr rfl) (pe_callB lenF (by rfl) B.len (by decide +kernel) (pa_cons (pv 0) pa_nil)))
      (pss_cons (ps_set (i := 2) scFault.nd rfl (by first | exact Or.inl rfl | exact Or.inr rfl) (pe_callTy0 cr_set0 (by rfl) B.set (by decide +kernel)))
      (pss_cons (ps_for PassesOwn.never rfl (pi_enumA (by rfl) B.enumerate (pa_cons (pv 0) pa_nil)) (pg_tup (by rfl) (pgs_cons (pg_name (i := 3) scFault.nd rfl (by first | exact Or.inl rfl | exact Or.inr rfl)) (pgs_cons (pg_name (i := 4) scFault.nd rfl (by first | exact Or.inl rfl | exact Or.inr rfl)) pgs_nil))) (pss_cons (ps_if (PW.pt (pw_or (pt_not (pt_val (pe_call cWhole.ok (hr.mono (by decide)) rfl cWhole.mgf cWhole.kp cWhole.bi .nil pass0 (pa_cons (pv 4) (pa_cons (pe_un un_neg (pv 1)) (pa_cons (pv 1) pa_nil)))))) (pw_or (pt_cmpR op_eq (pv 4) pe_int (nomark _)) (pw_or1 (pt_cmpR or_sin (pe_callB call_abs (by rfl) B.abs (by decide +kernel) (pa_cons (pv 4) pa_nil)) (pv 2) (by rfl)))))) (pss_one (ps_ret (pv 3))) pss_nil)
      (pss_one (ps_expr (pe_sadd (pv 2) (pa_cons (pe_callB call_abs (by rfl) B.abs (by decide +kernel) (pa_cons (pv 4) pa_nil)) pa_nil))))))
      (pss_one (ps_ret pe_non))))), ?_⟩
    refine ⟨_, rfl, a, rfl, o, ha, xs, ho, rfl, fun p hp => ?_⟩
    have v0 := (VW.start (H := H)).push (o := SetO w p (fun _ => false) 0) hp
    refine ⟨_, rfl, a, xs, rfl, ?_⟩
    obtain ⟨Pv, ePv⟩ : ∃ Pv : Nat → L2.St → Hp → Prop, Pv = fun i σ H' => ∃ (zs : List Int) (u3 u4 : Option V) (S : Int → Bool) (c : Nat), σ = [some (.ref a), some (.int (xs.length : Nat)), some (.ref p), u3, u4] ∧ xs.take i = zs.map V.int ∧ zs.length = i ∧ (∀ z ∈ zs, z ≠ 0 ∧ z.natAbs ≤ xs.length) ∧ (zs.map Int.natAbs).Nodup ∧
      (∀ j, S j = true ↔ ∃ z ∈ zs, j = (z.natAbs : Int)) ∧ c ≤ i ∧ VW H H' [(p, SetO w p S c)] [] := ⟨_, rfl⟩
    have h0 : Pv 0 [some (.ref a), some (.int (xs.length : Nat)), some (.ref p), none, none] (upd H p (SetO w p (fun _ => false) 0)) := by
      rw [ePv]
      exact ⟨[], none, none, _, 0, rfl, rfl, rfl, by simp, by simp, by simp, Nat.le_refl _, v0⟩
    have sm : ∀ i σ H', Pv i σ H' → H' a = some o := fun i σ H' h => by
      rw [ePv] at h
      obtain ⟨zs, u3, u4, S, c, _, _, _, _, _, _, _, v⟩ := h
      exact v.fr _ _ ha
    refine Or.elim (sq_or (K := K) ha ho) (fun hS => .inl ⟨Same.seq (fun b o e => v0.fr b o e) hS, for_it (walk_enum (K := K) (a := a) (xs := xs)) Pv h0 (fun i σ H' _ h => sameSeq ha (sm i σ H' h) hS) ?_ ?_⟩)
      (fun hS => .inr ⟨seqT_same (v0.fr _ _ ha) ha hS, for_it (walk_enumT (K := K) (a := a) (xs := xs)) Pv h0 (fun i σ H' _ h => seqT_same (sm i σ H' h) ha hS) ?_ ?_⟩)
    all_goals first
      | (rintro σ H' hP
         rw [ePv] at hP
         obtain ⟨zs, u3, u4, S, c, rfl, ez, el, eb, en, eS, ec, v⟩ := hP
         exact k1 H' v.fr ⟨zs, ez, el, eb, en⟩)
      | skip
    all_goals
      rintro i x σ H' H2 hi hP ⟨T, y1, y2, rfl, hT, rfl, e1, e2⟩
      rw [ePv] at hP
      obtain ⟨zs, u3, u4, S, c, rfl, ez, el, eb, en, eS, ec, v⟩ := hP
      cases e1
      have v2 := v.push (o := .tup [.int (i : Nat), y2]) hT
      refine ⟨T, _, rfl, SqT.of v2.facts.1, rfl, _, _, rfl, _, _, rfl, rfl, ?_⟩
      walk_at "s"
      have hx : xs[i]? = some y2 := e2
      have gn := good_next hx ez el eb en
      have same : Same H (upd H' T (.tup [.int (i : Nat), y2])) := v2.fr
      have bad : ¬ GoodTo xs (i + 1) → Q (.int (i : Nat)) (upd H' T (.tup [.int (i : Nat), y2])) := fun h => k2 i _ same hi ⟨zs, ez, el, eb, en⟩ h
      refine ⟨y2, _, _, rfl, hA _ same y2 (List.mem_of_getElem? hx), ?_⟩
      by_cases hw : wholeV y2 (-(xs.length : Int)) (xs.length : Int) = true
      · obtain ⟨z, rfl⟩ : ∃ z, y2 = .int z := by
          cases y2 with
          | int z => exact ⟨z, rfl⟩
          | _ => cases hw
        simp only [wholeV, Bool.and_eq_true, decide_eq_true_eq] at hw
        refine .inr ⟨by simp [wholeV, hw.1, hw.2], rfl, ?_⟩
        split
        · rename_i h0
          cases h0
          exact bad fun h => by
            obtain ⟨z, e, h1, _⟩ := gn.mp h
            cases e
            exact h1 rfl
        · rename_i h0
          have z0 : z ≠ 0 := fun e => h0 (by rw [e])
          refine ⟨z, rfl, S, ⟨c, v2.facts.2.1⟩, ?_⟩
          rw [abs_ite]
          split
          · rename_i hs
            obtain ⟨z', hz', e'⟩ := (eS _).mp hs
            exact bad fun h => by
              obtain ⟨z2, e, _, _, h3⟩ := gn.mp h
              cases e
              refine h3 (List.mem_map.mpr ⟨z', hz', by omega⟩)
          · rename_i hs
            refine ⟨⟨S, c, v2.facts.2.1⟩, z, rfl, S, c, v2.facts.2.1, by unfold scanBound; omega, ?_⟩
            rw [abs_ite, if_neg hs, ePv]
            have nm : z.natAbs ∉ zs.map Int.natAbs := fun hm => by
              obtain ⟨z', hz', e'⟩ := List.mem_map.mp hm
              exact hs ((eS _).mpr ⟨z', hz', by rw [e']⟩)
            have v3 := v2.put (o := SetO w p (fun j => S j || decide (j = (z.natAbs : Int))) (c + 1)) 1 rfl rfl
            refine ⟨zs ++ [z], _, _, _, c + 1, rfl, ?_, by simp [el], ?_, ?_, fun j => ?_, by omega, v3.drop (List.sublist_cons_self ..) (fun _ h => h)⟩
            · rw [List.take_succ, hx, ez, List.map_append]
              rfl
            · intro y hy
              rcases List.mem_append.mp hy with hy | hy
              · exact eb y hy
              · rw [List.mem_singleton.mp hy]
                exact ⟨z0, by omega⟩
            · rw [List.map_append, List.nodup_append]
              refine ⟨en, by simp, fun a ha b hb => ?_⟩
              rw [List.mem_singleton.mp hb]
              exact fun e => nm (e ▸ ha)
            · simp only [Bool.or_eq_true, decide_eq_true_eq, List.mem_append, List.mem_singleton]
              rw [eS]
              constructor
              · rintro (⟨y, hy, e⟩ | e)
                · exact ⟨y, .inl hy, e⟩
                · exact ⟨z, .inr rfl, e⟩
              · rintro ⟨y, hy | rfl, e⟩
                · exact .inl ⟨y, hy, e⟩
                · exact .inr e
      · refine .inl ⟨by simpa using hw, bad fun h => ?_⟩
        obtain ⟨z, rfl, h1, h2, _⟩ := gn.mp h
        refine hw ?_
        simp only [wholeV, Bool.and_eq_true, decide_eq_true_eq]
        omega
end
structure RowC (K : PySem.W.Frag) (mg : Str → Option Value) (CR : Addr) : Prop where
  cl : Cls K CR
  nW : NoAttr K CR "waggons"
  mgR : mg "Row" = some (.ref CR)
  most : ∃ t, mg "MOST_WAGGONS" = some (.int 24 t)
  hc : PySem.W.findIn K (.ref CR) "__class__" = some (some (.builtin "object.__class__"))
  hn : PySem.W.specialIn K (.builtin "object.__class__") "__get__" = some (some (.builtin "getset_descriptor.__get__"))
  htk : PySem.W.takesIn K (.builtin "object.__class__") = some true
  hm : PySem.W.mroIn K CR (.type "object") = some true
  ks : PySem.W.kitOne K (.ref CR) (.ref CR) = some true
theorem ty_sq {K : PySem.W.Frag} {H : Hp} {a : Addr} {o : HO} {xs : List V} (ha : H a = some o) (ho : sq o = some xs) : ∃ t, TyX K H (.ref a) t ∧ PySem.W.kitAny K t [.type "list", .type "tuple"] = some true := by
  have l : PySem.W.kitAny K (.type "list") [.type "list", .type "tuple"] = some true := kitAny_cons (b := true) (kit_ty (by decide +kernel)) (fun z => nomatch z) (fun _ => rfl)
  have t : PySem.W.kitAny K (.type "tuple") [.type "list", .type "tuple"] = some true := kitAny_cons (b := false) (kit_ty (by decide +kernel)) (fun _ => kitAny_cons (b := true) (kit_ty (by decide +kernel)) (fun z => nomatch z) (fun _ => rfl)) (fun z => nomatch z)
  cases o with
  | lst ys => exact ⟨_, .base (.lst ha), l⟩
  | tup ys => exact ⟨_, .base (.tup ha), t⟩
  | frz ob u =>
    cases u with
    | lst ys => exact ⟨_, .base (.frz ha), l⟩
    | _ => cases ho
  | _ => cases ho
local macro_rules | `(tactic| walk_at "s") => `(tactic| simp [tSeq, tAsg, tOp, tUn, tVar, tC, gName, tCons, tNil, tCB, tCall, rI, rI0, rU, tRet, tDrop, tIfS, tNext, tIf, tTest, tNot, tOr, tAnd, tB, L2.start, CMul, CDiv, rIxF, rLenF, rIntF, sq_lst, sq_tup, tLstF, tTupF, gSub, rCatF, rInF, rNe, rEq, tAndV, tOrV, tNotV, tChain, rSIn, tSAdd, rSAdd, rTupF, sFldF, tRx])
section
variable {P : Program} {w : World} {K : PySem.W.Frag} {mg : Str → Option Value} {base : Heap}
def spRI (K : PySem.W.Frag) (C : Kd → Addr) (CR : Addr) : Sp := fun vs H Q E => ∃ (p dx : Addr) (x : V), vs = [.ref p, x] ∧ H p = some (.ins CR dx []) ∧
  ((∃ (a : Addr) (o : HO) (xs : List V), x = .ref a ∧ H a = some o ∧ sq o = some xs ∧ a ≠ p ∧ xs.length ≤ 100 ∧ (∀ H', Same H H' → ∀ y ∈ xs, Asked K H' y) ∧
    (xs.length ≤ 24 → GoodTo xs xs.length → ∀ tp H', (∀ b u, H b = some u → b ≠ p → H' b = some u) → H' p = some (.ins CR dx [("waggons", .ref tp)]) → H' tp = some (.tup xs) → Q .non H') ∧
    (24 < xs.length → ∀ d H', Same H H' → H' d = some (.xd [("most", .int 24)]) → E (.ref (C .great)) (some d) H') ∧
    (xs.length ≤ 24 → ∀ k d H', Same H H' → k < xs.length → GoodTo xs k → ¬ GoodTo xs (k + 1) → H' d = some (.xd [("place", .int (k : Nat))]) → E (.ref (C .row)) (some d) H')) ∨
   ((∀ H', Same H H' → ∃ t, TyX K H' x t ∧ PySem.W.kitAny K t [.type "list", .type "tuple"] = some false) ∧ ∀ d H', Same H H' → H' d = some (.xd [("place", .non)]) → E (.ref (C .row)) (some d) H'))
theorem scRI : FnScope ["self", "waggons", "fault"] ["self", "waggons"] (defScope sRI) := ⟨rfl, rfl, rfl, by decide +kernel, rfl, by decide +kernel, by decide +kernel⟩
theorem ok_ri {f fF CR : Addr} {fd fdF : FuncData} {C : Kd → Addr} (F : Fun K "__init__" "Row.__init__" sRI f fd) (B : Blt mg) (R : RowC K mg CR) (XB : ∀ k, hasK k = true → XDs P w K mg base C k) (cFault : Dn P w K mg base 2 "first_fault" fF fdF ["waggons"] (spFault K)) :
    FnOk P w K mg base (L2.CX P w) 3 f fd ["self", "waggons"] (spRI K C CR) := by
  obtain ⟨tM, hMost⟩ := R.most
  refine F.okX scRI (fun vs H Q E h => ?_) (fun cdv A outer s H vs Q E hr h => ⟨_, (pss_cons (ps_if (pt_not (pt_val (pe_callB call_isiT (by rfl) B.isinstance (by decide +kernel) (pa_cons (pv 1) (pa_cons (pe_tupF (pa_cons (pe_bltn (v := .ty "list") (by rfl) B.list (by decide +kernel) rfl) (pa_cons (pe_bltn (v := .ty "tuple") (by rfl) B.tuple (by decide +kernel) rfl) pa_nil))) pa_nil))))) (pss_one (ps_raiseX (k := .row) rfl (XB .row (by decide)) hr (takes_of rfl rfl rfl rfl) pe_non (by rfl))) pss_nil)
      (pss_cons (ps_if (pt_cmpR op_gt (pe_callB lenF (by rfl) B.len (by decide +kernel) (pa_cons (pv 1) pa_nil)) (pe_glob (v := .int 24) (by rfl) hMost ⟨_, rfl⟩) (nomark _)) (pss_one (ps_raiseX (k := .great) rfl (XB .great (by decide)) hr (takes_of rfl rfl rfl rfl) (pe_glob (v := .int 24) (by rfl) hMost ⟨_, rfl⟩) (by rfl))) pss_nil)
      (pss_cons (ps_set (i := 2) scRI.nd rfl (by first | exact Or.inl rfl | exact Or.inr rfl) (pe_call cFault.ok (hr.mono (by decide)) rfl cFault.mgf cFault.kp cFault.bi .nil pass0 (pa_cons (pv 1) pa_nil)))
      (pss_cons (ps_if (pt_cmpR op_notN (pv 2) pe_non (nomark _)) (pss_one (ps_raiseX (k := .row) rfl (XB .row (by decide)) hr (takes_of rfl rfl rfl rfl) (pv 2) (by rfl))) pss_nil)
      (pss_one (ps_fldF (pv 0) (pe_callTy tupF (by rfl) B.tuple (by decide +kernel) (pa_cons (pv 1) pa_nil)))))))), ?_⟩)
  · obtain ⟨p, dx, x, rfl, _⟩ := h
    rfl
  · obtain ⟨p, dx, x, rfl, hp, h⟩ := h
    walk_at "s"
    refine ⟨sz_le (by decide), view_tup VW.start fun tp0 H1 v1 => ?_⟩
    have hT := v1.tu _ List.mem_cons_self
    have pc : Paired ClsV [.ty "list", .ty "tuple"] [.type "list", .type "tuple"] := .cons (.ty _) (.cons (.ty _) .nil)
    have up : ∀ {H2 : Hp} (s2 : Same H1 H2) {d : Addr} {u : HO}, H2 d = none → Same H (upd H2 d u) := by
      intro H2 s2 d u hd b z hb
      have h2 := s2 _ _ (v1.fr b z hb)
      rw [upd_ne (ne_of_none h2 hd)]
      exact h2
    have id1 : Same H1 H1 := fun _ _ h => h
    rcases h with ⟨a, o, xs, rfl, ha, ho, hap, hz, hA, kg, kb, kr⟩ | ⟨hT2, ke⟩
    · obtain ⟨t, ty, ka⟩ := ty_sq (K := K) (v1.fr _ _ ha) ho
      refine ⟨_, tp0, _, t, _, true, rfl, hT, pc, ty, ka, .inr ⟨rfl, a, rfl, o, v1.fr _ _ ha, xs, ho, ?_⟩⟩
      split
      · rename_i hl
        exact fun d hd => kb (by omega) d _ (up id1 hd) upd_same
      · rename_i hl
        refine ⟨a, o, xs, rfl, v1.fr _ _ ha, ho, hz, fun H' s2 => hA H' (fun b u hb => s2 _ _ (v1.fr b u hb)), fun H2 s2 g => .inl ⟨rfl, a, rfl, o, s2 _ _ (v1.fr _ _ ha), xs, ho, ?_⟩,
          fun k H2 s2 hk g ng => .inr ⟨by simp, fun d hd => kr (by omega) k d _ (up s2 hd) hk g ng upd_same⟩⟩
        refine view_tup (VW.start (H := H2)) fun l H3 v3 => ?_
        have p3 := v3.fr _ _ (s2 _ _ (v1.fr _ _ hp))
        have l3 := v3.tu _ List.mem_cons_self
        have lp : l ≠ p := fun z => by
          rw [z, p3] at l3
          cases l3
        refine ⟨CR, dx, [], p3, R.cl, R.nW, by decide, kg (by omega) g l _ (fun b u hb hne => ?_) upd_same ?_⟩
        · rw [upd_ne hne]
          exact v3.fr _ _ (s2 _ _ (v1.fr _ _ hb))
        · rw [upd_ne lp]
          exact l3
    · obtain ⟨t, ty, ka⟩ := hT2 H1 v1.fr
      exact ⟨_, tp0, _, t, _, false, rfl, hT, pc, ty, ka, .inl ⟨rfl, fun d hd => ke d _ (up id1 hd) upd_same⟩⟩
end
/-- a row object -/
def RowAt (CR : Addr) (H : Hp) (p : Addr) (xs : List V) : Prop := ∃ dx tp, H p = some (.ins CR dx [("waggons", .ref tp)]) ∧ H tp = some (.tup xs)
theorem RowAt.same {CR : Addr} {H H' : Hp} {p : Addr} {xs : List V} (h : RowAt CR H p xs) (s : Same H H') : RowAt CR H' p xs := by
  obtain ⟨dx, tp, h1, h2⟩ := h
  exact ⟨dx, tp, s _ _ h1, s _ _ h2⟩
local macro_rules | `(tactic| walk_at "s") => `(tactic| simp [tSeq, tAsg, tOp, tUn, tVar, tC, gName, tCons, tNil, tCB, tCall, rI, rI0, rU, tRet, tDrop, tIfS, tNext, tIf, tTest, tNot, tOr, tAnd, tB, L2.start, rLenF, sq_tup, tAndV, tFldF])
section
variable {P : Program} {w : World} {K : PySem.W.Frag} {mg : Str → Option Value} {base : Heap}
def spRLen (CR : Addr) : Sp := fun vs H Q _ => ∃ p xs, vs = [.ref p] ∧ RowAt CR H p xs ∧ Q (.int (xs.length : Nat)) H
theorem scRLen : FnScope ["self"] ["self"] (defScope sRLen) := ⟨rfl, rfl, rfl, by decide +kernel, rfl, by decide +kernel, by decide +kernel⟩
theorem ok_rlen {f CR : Addr} {fd : FuncData} (F : Fun K "__len__" "Row.__len__" sRLen f fd) (B : Blt mg) (R : RowC K mg CR) : FnOk P w K mg base CX0 1 f fd ["self"] (spRLen CR) := by
  refine F.ok scRLen (fun vs H Q E h => ?_) (fun cdv A outer s H vs Q E hr h => ?_)
  · obtain ⟨p, xs, rfl, _⟩ := h
    rfl
  · obtain ⟨p, xs, rfl, ⟨dx, tp, h1, h2⟩, k⟩ := h
    refine ⟨_, (pss_one (ps_ret (pe_callB lenF (by rfl) B.len (by decide +kernel) (pa_cons (pe_fldF (pv 0)) pa_nil)))), ?_⟩
    walk_at "s"
    exact ⟨CR, ⟨dx, _, h1, R.cl, R.nW, _, rfl, tp, rfl, _, h2, _, rfl, k⟩⟩
end
end Fab
set_option maxHeartbeats 4000000
namespace Fab
open PySem L2 LamX
open PySem.Spec PyProof.Rows
/-- an empty table; a list as it is handed in -/
abbrev oTab : Obj := { cls := .none, data := .fields #[] }
abbrev oLst (vs : List Value) : Obj := { cls := .type "list", data := .seq vs.toArray }
section
variable {P : Program} {w : World} {K : PySem.W.Frag} {mg mb : Str → Option Value} {CX : CXT} {k : Nat} {fa a : Addr} {cs : List (Addr × Addr)} {fd : FuncData} {x : Str} {sp : Sp} {s : Shared} {vs : List Value} {ns : List Int}
/-- what is tracked at the start -/
def H00 (K : PySem.W.Frag) (T : List Addr) (a : Addr) (vs : List Value) (ns : List Int) : Hp := fun b =>
  if b ∈ T then some (.tbl #[]) else if b = a ∧ K.lookup a = none then some (.frz (oLst vs) (.lst (ns.map V.int))) else none
theorem h00_case {T : List Addr} {b : Addr} {u : HO} (h : H00 K T a vs ns b = some u) : (b ∈ T ∧ u = .tbl #[]) ∨ (b ∉ T ∧ b = a ∧ K.lookup a = none ∧ u = .frz (oLst vs) (.lst (ns.map V.int))) := by
  unfold H00 at h
  by_cases h1 : b ∈ T
  · simp [h1] at h
    exact .inl ⟨h1, h.symm⟩
  · by_cases h2 : b = a ∧ K.lookup a = none
    · simp only [if_neg h1, if_pos h2] at h
      exact .inr ⟨h1, h2.1, h2.2, (Option.some.inj h).symm⟩
    · rw [if_neg h1, if_neg h2] at h
      cases h
theorem law_goG (KX : K.In s.heap) (hns : s.heap.Ns mainGlobals mg) (hb : s.heap.Ns builtinsNs mb) (hbb : ∀ x : Str, x ≠ "__name__" → mb x = bootBuiltins x) (hlim : s.heap.NoLimit) (hg : s.gens = #[])
    (hT : ∀ p ∈ cs, s.heap.get? p.2 = some oTab) (nT : ∀ p ∈ cs, K.lookup p.2 = none) (C : ∀ p ∈ cs, PySem.W.CodeHd s.heap p.1 p.2)
    (hbm : ∃ (bm : Addr) (ob : Obj), mg "__builtins__" = some (.ref bm) ∧ bm ≠ builtinsNs ∧ s.heap.get? bm = some ob ∧ ob.cls = .type "module" ∧ ob.dict = some builtinsNs ∧ ob.data = .plain)
    (ha : s.heap.get? a = some (oLst vs)) (hi : IntsAre vs ns) (hl : ns.length ≤ sizeLine) (hr : Room k callerA)
    (F : ∀ base : Heap, K.In base → base.Ns mainGlobals mg → (∀ p ∈ cs, TabB base mg p.1 p.2) → FnG P w K mg base CX k fa fd [x] sp) (hbind : ∀ (s : Shared) (u : Value), BindsTo s fd ⟨[u], []⟩ [(x, u)])
    (hsp : ∀ H : Hp, (∀ p ∈ cs, H p.2 = some (.tbl #[])) → SqL K H a (ns.map V.int) → sp [.ref a] H (fun v _ => v = .bl true) fun _ _ _ => False)
    (hCX : ∀ H e s', CX [] H s (fun _ _ _ => False) e s' → False) :
    codeAny (model P w) callerA (.call (.ref fa) ⟨[.ref a], []⟩) (fun r s' => r = .ok (.ret (.bool true)) ∧ OldK s.heap s'.heap ∧ s'.os = s.os ∧ AllBare s'.gens) s := by
  have rv := vals_ints hi
  obtain ⟨T, eT⟩ : ∃ T, T = cs.map (·.2) := ⟨_, rfl⟩
  have inT : ∀ p ∈ cs, p.2 ∈ T := fun p hp => by
    rw [eT]
    exact List.mem_map_of_mem hp
  have atT : ∀ b ∈ T, s.heap.get? b = some oTab ∧ K.lookup b = none := fun b hb => by
    rw [eT] at hb
    obtain ⟨p, hp, rfl⟩ := List.mem_map.mp hb
    exact ⟨hT p hp, nT p hp⟩
  have aT : a ∉ T := fun z => by
    have q := (atT a z).1
    rw [ha] at q
    cases q
  obtain ⟨H, eH⟩ : ∃ H, H = H00 K T a vs ns := ⟨_, rfl⟩
  have cH : ∀ {b : Addr} {u : HO}, H b = some u → (b ∈ T ∧ u = .tbl #[]) ∨ (b ∉ T ∧ b = a ∧ K.lookup a = none ∧ u = .frz (oLst vs) (.lst (ns.map V.int))) := fun {b u} h => by
    rw [eH] at h
    exact h00_case h
  have tabH : ∀ b ∈ T, H b = some (.tbl #[]) := fun b hb => by
    rw [eH]
    unfold H00
    rw [if_pos hb]
  -- what is no table and no list is not tracked
  have free : ∀ {b : Addr} {o : Obj}, s.heap.get? b = some o → o ≠ oTab → o ≠ oLst vs → H b = none := fun {b o} e h1 h2 => by
    cases q : H b with
    | none => rfl
    | some u =>
      rcases cH q with ⟨z, _⟩ | ⟨_, z, _, _⟩
      · rw [(atT b z).1] at e
        exact absurd (Option.some.inj e).symm h1
      · rw [z, ha] at e
        exact absurd (Option.some.inj e).symm h2
  have lay : ∀ {b : Addr} {o : Obj}, s.heap.get? b = some o → o ≠ oTab → o ≠ oLst vs → (hidT s.heap H).get? b = some o := fun e h1 h2 => hidT_get e (free e h1 h2)
  have nsB : ∀ {b : Addr} {m : Str → Option Value}, s.heap.Ns b m → (hidT s.heap H).Ns b m := fun ⟨o, es, ep, e, d, r⟩ =>
    ⟨o, es, ep, lay e (fun z => by rw [z] at d; cases d) (fun z => by rw [z] at d; cases d), d, r⟩
  have KB : K.In (hidT s.heap H) := fun b o e => by
    refine hidT_get (KX b o e) ?_
    cases q : H b with
    | none => rfl
    | some u =>
      rcases cH q with ⟨z, _⟩ | ⟨_, z, z2, _⟩
      · rw [(atT b z).2] at e
        cases e
      · rw [z, z2] at e
        cases e
  have hM : L2.Mod K mg (hidT s.heap H) := ⟨KB, nsB hns, ⟨mb, nsB hb, hbb⟩, hlim.elim fun mc h => ⟨mc, nsB h.1, h.2⟩⟩
  have ok : HOk P w H s.heap := fun b u q => by
    rcases cH q with ⟨z, rfl⟩ | ⟨_, rfl, _, rfl⟩
    · exact (atT b z).1
    · exact ⟨ha, by rw [List.length_map]; exact hl, vs, _, rv, ha⟩
  have e0 : Env0 P w K mg (hidT s.heap H) callerA [] s H := ⟨rfl, hM, fun b o e => of_hidT e, Nat.le_of_eq (hidT_size _ _), trivial, fun b hb => absurd (show b ∈ ([] : List Addr) from hb) (by simp), ok, .of_eq hg⟩
  have TB : ∀ p ∈ cs, TabB (hidT s.heap H) mg p.1 p.2 := fun p hp => by
    refine ⟨?_, ?_, fun z => ?_⟩
    · obtain ⟨o, us, file, tf, flags, tg, inF, text, tt, e1, r1, r2, r⟩ := C p hp
      exact ⟨o, us, file, tf, flags, tg, inF, text, tt, lay e1 (fun z => by rw [z] at r1; cases r1) (fun z => by rw [z] at r2; cases r2), r1, r2, r⟩
    · obtain ⟨bm, ob, b1, b2, b3, b4, b5, b6⟩ := hbm
      refine ⟨bm, ob, b1, b2, fun q => ?_, fun q => ?_, lay b3 (fun z => by rw [z] at b4; cases b4) (fun z => by rw [z] at b6; cases b6), b4, b5, b6⟩
      · obtain ⟨o, es, ep, e, hd, _⟩ := hns
        rw [q, e] at b3
        cases b3
        rw [hd] at b6
        cases b6
      · rw [q, hT p hp] at b3
        cases b3
        cases b6
    · obtain ⟨o, es, ep, e, hd, _⟩ := hns
      rw [z, hT p hp] at e
      cases e
      cases hd
  have hS : SqL K H a (ns.map V.int) := by
    cases hk : K.lookup a with
    | none =>
      refine .inl (.inr ⟨oLst vs, ?_⟩)
      rw [eH]
      unfold H00
      rw [if_neg aT, if_pos ⟨rfl, hk⟩]
    | some o =>
      have e := KX a o hk
      rw [ha] at e
      cases e
      exact .inr ⟨_, vs.toArray, _, hk, rfl, rfl, rfl, by rw [List.size_toArray, hi.length]; exact hl, by simpa using rv⟩
  refine codeAny_mono ((F _ KB (nsB hns) TB).run callerA [] s H ⟨[.ref a], []⟩ [.ref a] [.ref a] _ _ guards_caller hr e0 (hbind s (.ref a)) (.cons rfl .nil) (hsp H (fun p hp => tabH _ (inT p hp)) hS)) ?_
  rintro (e | fl) s' h
  · exact (hCX H e s' h).elim
  · cases fl
    case ret u =>
      obtain ⟨v, H', os, bare, un, ok', r', q⟩ := h
      have q' : v = .bl true := q
      subst q'
      obtain rfl : u = Value.bool true := r'
      have no : ∀ b : Addr, b ∉ frs ([] : List Env) := fun b z => absurd (show b ∈ ([] : List Addr) from z) (by simp)
      have kept : ∀ b o, b ∉ T → s.heap.get? b = some o → s'.heap.get? b = some o := fun b o nb e => by
        cases q : H b with
        | none => exact un.keep b o e q (no b) (by simp)
        | some u =>
          rcases cH q with ⟨z, _⟩ | ⟨_, _, _, rfl⟩
          · exact absurd z nb
          · have e1 := (ok b _ q).1
            have e2 := (ok' b _ (un.frzs b _ _ q)).1
            rw [e] at e1
            cases e1
            exact e2
      have grown : ∀ b ∈ T, ∃ more : Array Value, s'.heap.get? b = some { cls := .none, data := .fields more } := fun b hb => by
        obtain ⟨more, z⟩ := un.tbls b #[] (tabH b hb)
        exact ⟨_, ok' b _ z⟩
      refine ⟨rfl, ⟨fun b o e => ?_, fun b o e => ?_⟩, os, bare⟩
      · by_cases hbT : b ∈ T
        · obtain ⟨more, hm⟩ := grown b hbT
          have hbT' := hbT
          rw [eT] at hbT'
          obtain ⟨p, hp, ep⟩ := List.mem_map.mp hbT'
          have e' := (atT b hbT).1
          rw [e] at e'
          cases e'
          subst ep
          exact .inr (.inl ⟨((C p hp).tab (hT p hp)).isCodeTable, rfl, #[], more, rfl, by rw [Array.empty_append]; exact hm⟩)
        · exact .inl (kept b o hbT e)
      · by_cases hbT : b ∈ T
        · obtain ⟨more, hm⟩ := grown b hbT
          exact ⟨_, hm⟩
        · exact ⟨o, kept b o hbT e⟩
    all_goals exact False.elim h
/-- what the law's text must give -/
def LawG (l : PySem.W.OpenLaw) (w : World) (K : PySem.W.Frag) (CX : CXT) (k n : Nat) (x : Str) (mg : Str → Option Value) (fa : Addr) (h : Heap) : Prop :=
  ∃ (fd : FuncData) (cs : List (Addr × Addr)) (sp : Sp), (∀ p ∈ cs, h.get? p.2 = some oTab) ∧ (∀ p ∈ cs, K.lookup p.2 = none) ∧ (∀ p ∈ cs, PySem.W.CodeHd h p.1 p.2) ∧ (∀ (s : Shared) (u : Value), BindsTo s fd ⟨[u], []⟩ [(x, u)]) ∧
    (∀ (H : Hp) (a : Addr) (ns : List Int), ns.length ≤ n → (∀ p ∈ cs, H p.2 = some (.tbl #[])) → SqL K H a (ns.map V.int) → sp [.ref a] H (fun v _ => v = .bl true) fun _ _ _ => False) ∧
    ∀ base : Heap, K.In base → base.Ns mainGlobals mg → (∀ p ∈ cs, TabB base mg p.1 p.2) → FnG l.prog w K mg base CX k fa fd [x] sp
def TabOf (q : Program) (K : PySem.W.Frag) (h : Heap) : Prop := ∀ (d : DefRec) (x : Str) (c P : Addr), (recsOf q).find? (fun e => e.name == x) = some d → PySem.W.tabIn K x = some (c, P) → PySem.W.CodeHd h c P ∧ h.get? P = some oTab
theorem walkG {l : PySem.W.OpenLaw} {n k : Nat} {q : Program} {loose : List Str} {XP : (Str → Option Value) → Heap → Prop} {YP : World → Heap → Prop} {d : DefRec} {K : Params → PySem.W.Frag} {CX : World → CXT} {x : Str}
    (hn : l.most = some n) (hn2 : n ≤ sizeLine) (hdf : d.params.defaults = []) (hr : Room k callerA) (hY : ∀ (w : World) (h : Heap), YP w h → (K w.params).In h)
    (F : ∀ (w : World) (mg : Str → Option Value) (fa : Addr) (h : Heap), YP w h → (K w.params).In h → TabOf q (K w.params) h → h.Ns mainGlobals mg → mg d.name = some (.ref fa) → LawG l w (K w.params) (CX w) k n x mg fa h)
    (hCX : ∀ (w : World) (H : Hp) (s : Shared) (e : Value) (s' : Shared), CX w [] H s (fun _ _ _ => False) e s' → False) : PySem.W.WalkO q loose XP YP l.row.toRowW d [] (fun f vs => PySem.call f vs) :=
  Att.attach_callB hn hdf fun w s₀ s₁ mg mb fa o pm cd doc a vs ns G Y ho hd hcd hmg hobj hints hlen hbits hg => by
    have KX := hY w _ Y
    obtain ⟨fd, cs, sp, hT, nT, C, hb, hsp, hF⟩ := F w mg fa _ Y KX (fun d x c P hr ht => PySem.W.tab_of G.T KX hr ht) G.T.g hmg
    exact law_goG KX G.T.g G.T.b G.T.builtins G.T.nolimit hg hT nT C G.T.bmain hobj hints (Nat.le_trans hlen hn2) hr hF hb (fun H hH hS => hsp H a ns hlen hH hS) fun H e s' => hCX w H s₁ e s'
end
end Fab
set_option maxHeartbeats 2000000
namespace Fab
open PySem L2 PySem.FabX
/-- a def as it stands in the text, its code object told -/
structure DL (K : PySem.W.Frag) (mg : Str → Option Value) (x : Str) (st : Stmt) (g : Addr) (cdv : Value) (ps : List Str) (oc kV doc pm ct : Value) (an od : Option Addr) (osl : Array (Option Value)) : Prop where
  mgf : mg x = some (.ref g)
  kp : PySem.W.keepIn K (.ref g) = true
  lk : K.lookup g = some ⟨oc, od, .func (PySem.W.fnOf x x (defArgs st) (defBody st) (defScope st) .none kV doc pm an cdv ct), osl⟩
  cd : PySem.W.codeIn K cdv x = true
  bi : Binds K (PySem.W.fnOf x x (defArgs st) (defBody st) (defScope st) .none kV doc pm an cdv ct) ps []
open PyProof.Rows (envOfC)
theorem fnL {P : Program} {w : World} {K : PySem.W.Frag} {mg : Str → Option Value} {base : Heap} {CX : CXT} {k : Nat} {f : Addr} {ps : List Str} {sp : Sp} {x qual : Str} {st : Stmt} {N : List Str} {oc kV doc pm cdv ct : Value} {an od : Option Addr} {osl : Array (Option Value)}
    (lk : K.lookup f = some ⟨oc, od, .func (PySem.W.fnOf x qual (defArgs st) (defBody st) (defScope st) .none kV doc pm an cdv ct), osl⟩) (hcd : PySem.W.codeIn K cdv qual = true) (S : FnScope N ps (defScope st)) (len : ∀ vs H Q E, sp vs H Q E → vs.length = ps.length)
    (hbody : ∀ (A : Around) (outer : List Env) (s : Shared) (H : Hp) (vs : List V) (Q : VK) (E : XK), A.guards = some [] → Room k (A.deeper (envOfC qual (defScope st) s.heap.objs.size f cdv)) → sp vs H Q E →
      ∃ t, PSs (cxOf CX P w K mg base N qual (defScope st) f cdv A outer s H E) (defBody st) t ∧ t { nx := fun _ H' => Q .non H', rt := Q } (L2.start N vs) H) : FnG P w K mg base CX (k + 1) f (PySem.W.fnOf x qual (defArgs st) (defBody st) (defScope st) .none kV doc pm an cdv ct) ps sp :=
  ⟨len, fun A outer s H args us vs Q E hg hr e0 hb hv h => LamX.run_ofS lk hcd S hr e0 hb hv (len _ _ _ _ h) fun hr' => hbody A outer s H vs Q E hg hr' h⟩
local macro_rules | `(tactic| walk_at "s") => `(tactic| simp [tSeq, tAsg, tOp, tUn, tVar, tC, gName, tCons, tNil, tCB, tCall, rI, rI0, rU, tRet, tDrop, tIfS, tNext, tIf, tTest, tNot, tOr, tAnd, tB, L2.start, CMul, rIxF, rLenF, rIntF, sq_lst, sq_tup, tLstF, tTupF, gSub, rCatF, rNe, rEq, tAndV, tOrV, tNotV, tSl, rSlF])
def noTbl : HO → Bool
  | .tbl _ => false
  | _ => true
theorem noTbl_ne {o : HO} (h : noTbl o = true) (ps : Array Value) : o ≠ .tbl ps := fun z => by
  subst z
  cases h
section
variable {H0 H H1 : Hp} {L : List (Addr × HO)} {T : List (Addr × List V)}
theorem VW.extN (v : VW H0 H L T) (h0 : ∀ b o, H0 b = some o → noTbl o = true) (hL : ∀ p ∈ L, noTbl p.2 = true) (e : LamX.ExtN H H1) : VW H0 H1 L T :=
  ⟨fun p hp => e _ _ (v.at_ p hp) (noTbl_ne (hL p hp)), v.nd, v.own, fun a o h => e _ _ (v.fr a o h) (noTbl_ne (h0 a o h)), fun p hp => e _ _ (v.tu p hp) (fun _ z => by cases z)⟩
theorem VW.ext (v : VW H0 H L T) (e : Same H H1) : VW H0 H1 L T := ⟨fun p hp => e _ _ (v.at_ p hp), v.nd, v.own, fun a o h => e _ _ (v.fr a o h), fun p hp => e _ _ (v.tu p hp)⟩
end
theorem GoodTo.le {xs : List V} {i j : Nat} (h : GoodTo xs j) (hij : i ≤ j) : GoodTo xs i := by
  obtain ⟨zs, e, l, b, n⟩ := h
  refine ⟨zs.take i, ?_, by rw [List.length_take]; omega, fun z hz => b z (List.mem_of_mem_take hz), ?_⟩
  · have := congrArg (List.take i) e
    rw [List.take_take, Nat.min_eq_left hij] at this
    rw [this, List.map_take]
  · rw [List.map_take]
    exact n.sublist (List.take_sublist _ _)
theorem row_mem {ws : List Int} {many : Nat} (h : IsRow ws many) : ∀ z ∈ ws, z ≠ 0 ∧ z.natAbs ≤ many := fun z hz => by
  have := (h.mem_iff (a := z.natAbs)).mp (List.mem_map_of_mem hz)
  rw [List.mem_range'] at this
  obtain ⟨i, hi, e⟩ := this
  omega
theorem row_nodup {ws : List Int} {many : Nat} (h : IsRow ws many) : (ws.map Int.natAbs).Nodup := h.nodup_iff.mpr List.nodup_range'
theorem good_take {ws : List Int} {many k : Nat} {xs : List V} (h : IsRow ws many) (hx : xs.take k = (ws.take k).map V.int) (hk : k ≤ many) (hl : xs.length = many) : GoodTo xs k := by
  refine ⟨ws.take k, hx, by rw [List.length_take, h.len]; omega, fun z hz => ?_, ?_⟩
  · have := row_mem h z (List.mem_of_mem_take hz)
    omega
  · rw [List.map_take]
    exact (row_nodup h).sublist (List.take_sublist _ _)
/-- a segment between two lambdas: all that stands but the state of the draws -/
def bsH (m g : Addr) (H : Hp) : Hp := fun b => if b = m ∨ b = g then none else H b
theorem bsH_at {m g b : Addr} {H : Hp} {o : HO} (h : H b = some o) (n1 : b ≠ m) (n2 : b ≠ g) : bsH m g H b = some o := by
  unfold bsH
  simp [n1, n2, h]
theorem bsH_tabs {m c g : Addr} {H : Hp} {n : Nat} {gs : List Int} {Tb : List (Addr × Str)} (hm : H m = some (dm c g n)) (hg : H g = some (.lst (gs.map V.int))) (hT : LamX.Tabs Tb H) : LamX.Tabs Tb (bsH m g H) := fun p hp => by
  obtain ⟨ps, h1, h2, h3⟩ := hT p hp
  have ne1 : ∀ {b : Addr} {o : HO}, H b = some o → (∀ kvs, o ≠ .dK kvs) → (∀ l, o ≠ .lst l) → b ≠ m ∧ b ≠ g := fun {b o} e d1 d2 =>
    ⟨fun z => by
      rw [z, hm] at e
      unfold dm at e
      exact d1 _ (Option.some.inj e).symm,
    fun z => by
      rw [z, hg] at e
      exact d2 _ (Option.some.inj e).symm⟩
  refine ⟨ps, ?_, h2, fun pos cv hc => ?_⟩
  · obtain ⟨a, b⟩ := ne1 h1 (fun _ z => by cases z) (fun _ z => by cases z)
    exact bsH_at h1 a b
  · obtain ⟨c', e, hc'⟩ := h3 pos cv hc
    obtain ⟨a, b⟩ := ne1 hc' (fun _ z => by unfold LamX.CodeO at z; cases z) (fun _ z => by unfold LamX.CodeO at z; cases z)
    exact ⟨c', e, bsH_at hc' a b⟩
/-- an own method that stands behind an operator -/
structure OpM (K : PySem.W.Frag) (CR : Addr) (x : Str) (f : Addr) (fd : FuncData) (ps : List Str) : Prop where
  at_ : PySem.W.findIn K (.ref CR) x = some (some (.ref f))
  fn : PySem.W.isFn K (.ref f) = true
  bi : Binds K fd ps []
theorem tabs_of {H H' : Hp} {Tb : List (Addr × Str)} (hT : LamX.Tabs Tb H) (m g : Addr) (hm : ∃ c n, H m = some (dm c g n)) (hg : ∃ gs : List Int, H g = some (.lst (gs.map V.int))) (h : ∀ b o, H b = some o → b ≠ m → b ≠ g → H' b = some o) : LamX.Tabs Tb H' := by
  obtain ⟨c, n, hm⟩ := hm
  obtain ⟨gs, hg⟩ := hg
  refine (bsH_tabs hm hg hT).ext fun b o hb => ?_
  unfold bsH at hb
  split at hb
  · cases hb
  · rename_i hne
    simp only [not_or] at hne
    exact h b o hb hne.1 hne.2
def Shw (d : PyData) : Prop := d.showable = true ∧ d.hasDict = false ∧ d.depth ≤ 60 ∧ d.shown.length ≤ sizeLine
end Fab
set_option maxHeartbeats 4000000
namespace Fab
open PySem L2 PySem.Spec PyProof.Rows
section
variable {prog : Program} {w : World} {A : Around} {E : Value → Shared → Prop} {s : Shared}
theorem adjust_rev (n : Nat) : Builtin.Slice.sliceAdjust none none (-1) (n : Int) = ((n : Int) - 1, -1) := by
  unfold Builtin.Slice.sliceAdjust
  simp
theorem places_rev (n : Nat) : Builtin.Slice.slicePlaces ((n : Int) - 1) (-1) (-1) = n := by
  unfold Builtin.Slice.slicePlaces
  simp
  all_goals omega
theorem pick_rev (xs : Array Value) : ((List.range xs.size).filterMap fun (m : Nat) => xs[(((xs.size : Nat) : Int) - 1 + (m : Int) * (-1)).toNat]?).toArray = xs.toList.reverse.toArray := by
  congr 1
  have e : ∀ k, k ≤ xs.size → ((List.range k).filterMap fun (m : Nat) => xs[(((xs.size : Nat) : Int) - 1 + (m : Int) * (-1)).toNat]?) = xs.toList.reverse.take k := by
    intro k
    induction k with
    | zero => intro _; simp
    | succ k ih =>
      intro hk
      rw [List.range_succ, List.filterMap_append, ih (by omega), List.take_succ]
      congr 1
      have h1 : (((xs.size : Nat) : Int) - 1 + (k : Int) * (-1)).toNat = xs.size - 1 - k := by omega
      have h2 : xs.toList.reverse[k]? = some xs[xs.size - 1 - k] := by
        rw [List.getElem?_reverse (by simp; omega)]
        simp
      simp only [List.filterMap_cons, List.filterMap_nil, h1, h2, Array.getElem?_eq_getElem (by omega : xs.size - 1 - k < xs.size)]
      rfl
  rw [e _ (Nat.le_refl _)]
  exact List.take_of_length_le (by simp)
theorem sliceApplied_rev {sl : Addr} {t : Tok} {n : Nat} {Q : Int × Int × Nat → Shared → Prop} (hs : s.heap.IsSliceOf sl .none .none (.int (-1) t)) (h : Q ((n : Int) - 1, -1, n) s) : wpAny (model prog w) A (Builtin.Slice.sliceApplied (.ref sl) (pure (n : Int))) Q E s := by
  obtain ⟨os, hos, hcs, hds⟩ := id hs
  unfold Builtin.Slice.sliceApplied Builtin.Slice.sliceFields
  refine wpAny_bind (wpAny_bind (wpAny_field hos hds (x := .none) rfl (wpAny_bind (wpAny_field hos hds (x := .none) rfl (wpAny_bind (wpAny_field hos hds (x := .int (-1) t) rfl (wpAny_pure ?_)))))))
  refine wpAny_bind (HT.slicePart_ (.int (-1) t) ?_)
  show wpAny _ _ (if ((-1 : Int) == 0) = true then _ else _) _ _ s
  rw [if_neg (by decide)]
  refine wpAny_bind (HT.slicePart_ .none (wpAny_bind (HT.slicePart_ .none (wpAny_bind (wpAny_pure ?_)))))
  show wpAny _ _ (match Builtin.Slice.sliceAdjust none none (-1) (n : Int) with | (lo, hi) => pure (lo, (-1 : Int), Builtin.Slice.slicePlaces lo hi (-1))) _ _ s
  rw [adjust_rev n]
  show wpAny _ _ (pure ((n : Int) - 1, (-1 : Int), Builtin.Slice.slicePlaces ((n : Int) - 1) (-1) (-1))) _ _ s
  rw [places_rev]
  exact wpAny_pure h
theorem getItem_tuple_rev {t sl : Addr} {items : Array Value} {tk : Tok} {Q : Value → Shared → Prop} (ht : IsTup s.heap t items) (hs : s.heap.IsSliceOf sl .none .none (.int (-1) tk))
    (h : Q (.ref s.heap.objs.size) { s with heap := s.heap.push { cls := .type "tuple", data := .seq items.toList.reverse.toArray } }) (hsz : items.size ≤ sizeLine) : wpAny (model prog w) A (getItem (.ref t) (.ref sl)) Q E s := by
  have htake : sizeOk (.seq items.toList.reverse.toArray) := by
    show items.toList.reverse.toArray.size ≤ sizeLine
    rw [List.size_toArray, List.length_reverse, Array.length_toList]
    exact hsz
  obtain ⟨os, hos, hcs, hds⟩ := id hs
  have hTs : s.TypeIs (.ref sl) "slice" := ⟨os, hos, hcs⟩
  unfold getItem
  try with_reducible refine wpAny_holding ?_
  first | refine wpAny_bind (wpAny_pure ?_) | skip
  refine wpAny_bind (wpAny_sequenceKey ht.typeIs (by decide) ?_)
  refine wpAny_bind (wpAny_callSpecial?_slot (name := Str.ofString "__getitem__") ht.typeIs PyProof.Rows.slot_tuple_getitem
    (wpAny_call_entry PyProof.Rows.slot_tuple_getitem ht.typeIs entry_tuple_getitem ?_ (args_tuple_getitem _ _)))
  show wpAny _ _ (Builtin.Tuple.tupleItemsOf (.ref t) >>= _) _ _ s
  refine wpAny_bind (PyProof.Rows.tupleItemsOf_ ht ?_)
  refine wpAny_bind (wpAny_typeOf hTs ?_)
  rw [if_pos (by decide)]
  refine wpAny_bind (sliceApplied_rev (n := items.size) hs ?_)
  show wpAny _ _ (if (((items.size : Nat) : Int) - 1 == 0 && (-1 : Int) == 1 && items.size == items.size) = true then _ else _) _ _ s
  rw [if_neg (by simp), pick_rev]
  first
    | exact wpAny_bind (m := Builtin.Tuple.tupleExact _) (wpAny_newObj_type (wpAny_pure ⟨_, rfl, wpAny_pure h⟩) htake)
    | exact wpAny_bind (m := Builtin.Tuple.tupleExact _) (wpAny_newObj_type (wpAny_bind (wpAny_pure (wpAny_pure ⟨_, rfl, wpAny_pure h⟩))) htake)
    | exact wpAny_bind (wpAny_bind (m := Builtin.Tuple.tupleExact _) (wpAny_newObj_type (wpAny_pure (wpAny_pure ⟨_, rfl, wpAny_pure h⟩)) htake))
    | exact wpAny_bind (wpAny_bind (m := Builtin.Tuple.tupleExact _) (wpAny_newObj_type (wpAny_pure ⟨_, rfl, wpAny_pure h⟩) htake))
end
section
variable {X : Cx}
def tRevTF (te : TE) : TE := fun σ H Q => te σ H fun x H1 => ∃ a, x = .ref a ∧ ∃ xs, H1 a = some (.tup xs) ∧ newTup H1 xs.reverse fun p H' => Q (.ref p) H'
theorem pe_revTF {e : Expr} {te : TE} {k : Nat} {p1 p2 p3 pos : Pos} (he : PE X e te) : PE X (.Subscript e (.Slice none none (some (.UnaryOp .USub (.Constant (.int 1) k p1) p2)) p3) pos) (tRevTF te) := by
  refine ⟨fun pins s σ H Q I h => ?_⟩
  refine Subscript_ (thn (he.run pins s σ H _ I h) fun v s1 ⟨x, H1, I1, r1, q1⟩ => ?_)
  obtain ⟨a, ex, xs, hx, q⟩ := q1
  subst ex
  cases r1
  have hst : PO X (some (.UnaryOp .USub (.Constant (.int 1) k p1) p2)) (tPart (tUn (rU fun i => .int (-i)) (tC (.int 1)))) := po_some (pe_un un_neg pe_int)
  refine wpAny_Slice (thn (po_none.run pins s1 σ H1 (fun o H2 => o = none ∧ H2 = H1) I1 ⟨rfl, rfl⟩) fun vl s2 ⟨l, H2, I2, pl, el, e2⟩ => ?_)
  subst el e2
  refine thn (po_none.run pins s2 σ H2 (fun o H3 => o = none ∧ H3 = H2) I2 ⟨rfl, rfl⟩) fun vu s3 ⟨u, H3, I3, pu, eu, e3⟩ => ?_
  subst eu e3
  refine thn (hst.run pins s3 σ H3 (fun o H4 => o = some (-1) ∧ H4 = H3) I3 ⟨1, rfl, -1, rfl, rfl, rfl⟩) fun vs s4 ⟨o, H4, I4, ps, eo, e4⟩ => ?_
  subst eo e4
  have I5 : Inv X pins σ H4 { s4 with heap := s4.heap.push { cls := .type "slice", data := .fields #[vl, vu, vs] } } := I4.kept (t' := s4.toks) fun b ob q => Heap.get?_push_of_some _ q
  obtain ⟨its, r, ht, hz⟩ := I5.tuple (SqT.of hx)
  have hlen := r.length
  cases pl
  cases pu
  cases ps with
  | int i t =>
    show wpAny (model X.prog X.w) X.A (subscriptTail e (.Slice none none (some (.UnaryOp .USub (.Constant (.int 1) k p1) p2)) p3) (.ref a) (.ref s4.heap.objs.size)) (EP X pins σ Q) X.xe { s4 with heap := s4.heap.push { cls := .type "slice", data := .fields #[.none, .none, .int (-1) t] } }
    refine tail_any (ops := [.ref a, .ref s4.heap.objs.size]) ht.typeIs (PyProof.Rows.slot_tuple_getitem.lookup) ?_ (by with_unfolding_all rfl)
    refine getItem_tuple_rev ht (Heap.IsSliceOf.new _ .none .none (.int (-1) t)) ?_ (by rw [List.size_toArray]; omega)
    refine ⟨.ref _, _, I5.laid (t' := s4.toks) (o := .tup xs.reverse) (fun b ob q => Heap.get?_push_of_some _ q) (Nat.le_refl _) ?_, rfl, q.mk _ (I5.hok.fresh (Nat.le_refl _))⟩
    exact ⟨by rw [List.length_reverse]; exact hz, _, r.reverse, by
      have := IsTup.new (s4.heap.push { cls := .type "slice", data := .fields #[.none, .none, .int (-1) t] }) its.reverse.toArray
      simpa using this⟩
end
end Fab
set_option maxHeartbeats 4000000
namespace Fab
open PySem L2
open PyProof.Rows (envOfC)
section
variable {X : Cx}
/-- x is told by repr as d is -/
inductive Rp (K : PySem.W.Frag) (H : Hp) : V → PyData → Prop
  | dp {x : V} {d : PyData} (h : Dp K H x d) (hs : d.showable = true) (hn : d.hasDict = false) (hd : d.depth ≤ 60) (hz : d.shown.length ≤ sizeLine) : Rp K H x d
  | nd {p : Addr} (h : H p = some (.dK [])) : Rp K H (.ref p) (.dict [])
  | wd {t p : Addr} {w : Str} (h : H t = some (.tup [.str w, .ref p])) (hp : H p = some (.dK [])) (hz : (PyData.tuple [.str w, .dict []]).shown.length ≤ sizeLine) : Rp K H (.ref t) (.tuple [.str w, .dict []])
theorem dk0_reads {pins : List (Addr × Obj)} {σ : St} {H : Hp} {s : Shared} {p : Addr} (I : Inv X pins σ H s) (h : H p = some (.dK [])) : (p == sysModules) = false ∧ Reads s.heap (.ref p) (.dict []) [p] := by
  have q : ObjOk X.prog X.w H s.heap p (.dK []) := I.hok p _ h
  obtain ⟨_, hsys, vs, hv, o, es, ep, ho, hx, hd, _, he, _⟩ := q
  cases hv
  refine ⟨hsys, ?_⟩
  have e0 : es.toList = [] := by
    cases hl : es.toList with
    | nil => rfl
    | cons a l => rw [hl] at he; cases he
  have := Reads.dict (h := s.heap) (kvs := []) (as := []) (bs := []) ho hx.1 hd (by rw [e0]; exact .nil) (by rw [e0]; exact .nil)
  simpa using this
def rReprQ (K : PySem.W.Frag) : List V → Hp → VK → Prop := fun xs H Q => ∃ x d, xs = [x] ∧ Rp K H x d ∧ Q (.str d.shown) H
theorem call_reprQ (hg : X.A.guards = some []) (hu : X.A.units + 64 < cLine) : CallR X (.builtin "repr") (rReprQ X.K) := by
  intro pins s σ H xs us Q I r h
  obtain ⟨x, d, rfl, hd, q⟩ := h
  cases hd with
  | dp h hs hn hd hz => exact call_repr hg hu pins s σ H _ us Q I r ⟨x, d, rfl, h, hs, hn, hd, hz, q⟩
  | nd h =>
    obtain ⟨u, rfl, rx⟩ := vals1 r
    cases rx
    obtain ⟨hsys, rd⟩ := dk0_reads I h
    refine repr_of_reads' rd (by decide) (fun _ hm => ?_) hg (by simp [PyData.depth, PyData.depthKv]; omega) (fun _ _ z => z) (fun h' t tk kp => ⟨.str _, H, I.kept kp, ⟨_, rfl⟩, q⟩) (by decide)
    rw [List.mem_singleton.mp hm] at hsys
    simp at hsys
  | @wd t p w h hp hz =>
    obtain ⟨u, rfl, rx⟩ := vals1 r
    cases rx
    obtain ⟨hsys, rd⟩ := dk0_reads I hp
    have rt : ∃ as, Reads s.heap (.ref t) (.tuple [.str w, .dict []]) as ∧ ∀ a ∈ as, (a == sysModules) = false := by
      obtain ⟨its, rv, ⟨o, ho, hc, n, hd⟩, _⟩ := I.tuple (SqT.of h)
      cases rv with
      | cons r1 rr =>
        cases rr with
        | cons r2 rn =>
          cases rn
          obtain ⟨t1, rfl⟩ := r1
          cases r2
          refine ⟨_, Reads.tuple ho hc hd (.cons (.str _ t1) (.cons rd .nil)), fun a ha => ?_⟩
          simp at ha
          subst ha
          exact hsys
    obtain ⟨as, rd2, hno⟩ := rt
    refine repr_of_reads' rd2 (by simp [PyData.showable, PyData.showableAll, PyData.showableKv]) (fun _ hm => ?_) hg (by simp [PyData.depth, PyData.depthAll, PyData.depthKv]; omega) (fun _ _ z => z) (fun h' t tk kp => ⟨.str _, H, I.kept kp, ⟨_, rfl⟩, q⟩) hz
    have := hno _ hm
    simp at this
end
end Fab
set_option maxHeartbeats 2000000
namespace Fab
open PySem L2 PySem.FabX
local macro_rules | `(tactic| walk_at "s") => `(tactic| simp [tSeq, tAsg, tOp, tUn, tVar, tC, gName, tCons, tNil, tCB, tCall, rI, rI0, rU, tRet, tDrop, tIfS, tNext, tIf, tTest, tNot, tOr, tAnd, tB, L2.start, CMul, CDiv, rIxF, rLenF, rIntF, sq_lst, sq_tup, tLstF, tTupF, gSub, rCatF, rCatTF, rInF, rNe, rEq, tAndV, tOrV, tNotV, tChain, rTupF, tFldF, tRx, tMake, tSl, tPart, tNoPart, rSlTF, rSlF, tRevTF, gTup, gCons, gNil])
theorem make_at {K : PySem.W.Frag} {C : Kd → Addr} {CR : Addr} {H : Hp} {b : Addr} {o : HO} {ws : List Int} {many : Nat} {Q : Addr → Hp → Prop} {E : XK} (hb : H b = some o) (hs : sq o = some (ws.map V.int)) (hr : IsRow ws many) (hm : many ≤ 24)
    (k : ∀ p H', Same H H' → RowAt CR H' p (ws.map V.int) → Q p H') : ∀ x dx, H x = none → H dx = none → dx ≠ x → spRI K C CR [.ref x, .ref b] (upd (upd H dx (.own x)) x (.ins CR dx [])) (fun v H2 => v = .non ∧ Q x H2) E := by
  intro x dx nx ndx nex
  have lw := hr.len
  have gd : GoodTo (ws.map V.int) many := good_take hr (by rw [List.map_take]) (Nat.le_refl _) (by rw [List.length_map, lw])
  have lx : (ws.map V.int).length = many := by rw [List.length_map, lw]
  have e1 : Same H (upd (upd H dx (.own x)) x (.ins CR dx [])) := fun c u hc => by
    rw [upd_ne (ne_of_none hc nx), upd_ne (ne_of_none hc ndx)]
    exact hc
  refine ⟨x, dx, .ref b, rfl, upd_same, .inl ⟨b, o, _, rfl, e1 _ _ hb, hs, ne_of_none hb nx, by omega, fun H' s' y hy => ?_, fun _ _ tp H9 fr9 hx9 htp => ⟨rfl, k x H9 (fun b o h => fr9 b o (e1 b o h) (ne_of_none h nx)) ⟨dx, tp, hx9, htp⟩⟩, fun h => by omega, fun _ k _ _ _ hk _ ng _ => absurd (gd.le (by omega)) ng⟩⟩
  obtain ⟨z, _, rfl⟩ := List.mem_map.mp hy
  exact .int z
/-- [f z for z in a tuple of ints], the list made last -/
theorem lc_mapT {K : PySem.W.Frag} {H0 H : Hp} {L : List (Addr × HO)} {T : List (Addr × List V)} {a D : Addr} {ws : List Int} {g : Int → Int} {n : Nat} {te : TE} {σ : St} {Qd : Hp → Prop} (v : VW H0 H L T) (hD : H D = none)
    (hA : ∀ H' acc, VW H0 H' ((D, .lst acc) :: L) T → SqT K H' a (ws.map V.int)) (hw : ∀ x, wipe ((wipe σ [n]).set n x) [n] = wipe σ [n]) (hte : ∀ z H' Q, Q (.int (g z)) H' → te ((wipe σ [n]).set n (some (.int z))) H' Q) (hz : ws.length ≤ 1000)
    (hd : ∀ H', VW H0 H' ((D, .lst ((ws.map g).map V.int)) :: L) T → Qd H') :
    ∃ W : Nat → Nat → Hp → Prop, (∃ m, W 0 m (upd H D (.lst []))) ∧ ∀ i m H, W i m H →
      ((Itt K a).stop i H ∧ Qd H) ∨ ((Itt K a).go i H ∧ ∃ Nx : Hp → Prop, (∀ H', Nx H' → ∃ m', m' < m ∧ W (i + 1) m' H') ∧ ∀ x H', (Itt K a).yld i H x H' → gName n x (wipe σ [n]) H' fun σ2 H2 => wipe σ2 [n] = wipe σ [n] ∧ tYes σ2 H2 fun b H3 =>
        if b = true then te σ2 H3 fun y H4 => ∃ acc, H4 D = some (.lst acc) ∧ acc.length < sizeLine ∧ Nx (upd H4 D (.lst (acc ++ [y]))) else Nx H3) := by
  refine lc_it (walk_tup (K := K) (a := a) (xs := ws.map V.int)) (fun i H' => VW H0 H' ((D, .lst (((ws.take i).map g).map V.int)) :: L) T) ?_ (fun i H' _ v' => hA H' _ v') ?_ (fun H' v' => hd H' ?_)
  · have := v.push (o := .lst []) hD
    simpa using this
  · rintro i x H' H2 hi v' ⟨rfl, hx⟩
    rw [List.length_map] at hi
    rw [List.getElem?_map, List.getElem?_eq_getElem hi] at hx
    cases hx
    refine ⟨hw _, ?_⟩
    simp only [tYes, if_true]
    refine hte _ _ _ ⟨_, v'.facts.1, sz_lt (by simp; omega), ?_⟩
    have := v'.put (o := .lst (((ws.take i).map g).map V.int ++ [V.int (g ws[i])])) 0 rfl rfl
    have e : ws.take (i + 1) = ws.take i ++ [ws[i]] := by rw [List.take_succ, List.getElem?_eq_getElem hi]; rfl
    rw [e, List.map_append, List.map_append]
    simpa using this
  · rw [List.length_map, List.take_length] at v'
    exact v'
theorem yes_if {σ : St} {H : Hp} {F G : Hp → Prop} (h : F H) : tYes σ H fun b H3 => if b = true then F H3 else G H3 := by
  show (if true = true then F H else G H)
  rw [if_pos rfl]
  exact h
def PrL (H : Hp) : List V → List (Nat × Nat) → Prop := Paired fun v p => ∃ a, v = .ref a ∧ H a = some (.tup [.int (p.1 : Nat), .int (p.2 : Nat)])
theorem PrL.keep {H H' : Hp} {vs : List V} {ps : List (Nat × Nat)} (h : PrL H vs ps) (k : ∀ a xs, H a = some (.tup xs) → H' a = some (.tup xs)) : PrL H' vs ps := by
  unfold PrL at h ⊢
  induction h with
  | nil => exact .nil
  | cons r t ih => exact .cons (by obtain ⟨a, e, h⟩ := r; exact ⟨a, e, k _ _ h⟩) ih
theorem PrL.same {H H' : Hp} {vs : List V} {ps : List (Nat × Nat)} (h : PrL H vs ps) (s : Same H H') : PrL H' vs ps := h.keep fun a xs q => s _ _ q
theorem PrL.len {H : Hp} {vs : List V} {ps : List (Nat × Nat)} (h : PrL H vs ps) : vs.length = ps.length := by
  unfold PrL at h
  induction h with
  | nil => rfl
  | cons _ _ ih => simp [ih]
theorem PrL.snoc {H : Hp} {vs : List V} {ps : List (Nat × Nat)} {a : Addr} {i j : Nat} (h : PrL H vs ps) (ha : H a = some (.tup [.int (i : Nat), .int (j : Nat)])) : PrL H (vs ++ [.ref a]) (ps ++ [(i, j)]) := by
  unfold PrL at h ⊢
  induction h with
  | nil => exact .cons ⟨a, rfl, ha⟩ .nil
  | cons r t ih => exact .cons r ih
def prD (ps : List (Nat × Nat)) : List PyData := ps.map fun p => .tuple [.int (p.1 : Nat), .int (p.2 : Nat)]
theorem PrL.dp {K : PySem.W.Frag} {H : Hp} {vs : List V} {ps : List (Nat × Nat)} (h : PrL H vs ps) : DpAll K H vs (prD ps) := by
  unfold PrL at h
  induction h with
  | nil => exact .nil
  | cons r t ih =>
    obtain ⟨a, rfl, h⟩ := r
    exact .cons (.tup (SqT.of h) (.cons (.int _) (.cons (.int _) .nil))) ih
section
variable {J : It} {n : Nat} {G : Hp → Prop} {Y : Nat → Hp → V → Hp → Prop}
theorem lc2_it (w : Walk J n G Y) {g : TG} {tt : TT} {tb : St → Hp → (Hp → Prop) → Prop} {vs : List Nat} {σ : St} {H1 : Hp} {D : Addr} {Qd : Hp → Prop} (Pv : Nat → Hp → Prop) (h0 : Pv 0 (upd H1 D (.lst []))) (hG : ∀ i H, i ≤ n → Pv i H → G H)
    (hs : ∀ i x H H', i < n → Pv i H → Y i H x H' → g x (wipe σ vs) H' fun σ2 H2 => wipe σ2 vs = wipe σ vs ∧ tt σ2 H2 fun b H3 => if b = true then tb σ2 H3 (Pv (i + 1)) else Pv (i + 1) H3) (hd : ∀ H, Pv n H → Qd H) :
    ∃ W : Nat → Nat → Hp → Prop, (∃ m, W 0 m (upd H1 D (.lst []))) ∧ ∀ i m H, W i m H →
      (J.stop i H ∧ Qd H) ∨ (J.go i H ∧ ∃ Nx : Hp → Prop, (∀ H', Nx H' → ∃ m', m' < m ∧ W (i + 1) m' H') ∧ ∀ x H', J.yld i H x H' → g x (wipe σ vs) H' fun σ2 H2 => wipe σ2 vs = wipe σ vs ∧ tt σ2 H2 fun b H3 => if b = true then tb σ2 H3 Nx else Nx H3) := by
  refine ⟨fun i m H => m = n - i ∧ i ≤ n ∧ Pv i H, ⟨n, by simp, Nat.zero_le _, h0⟩, ?_⟩
  rintro i m H ⟨rfl, hi, p⟩
  have q := hG i H hi p
  by_cases hlt : i < n
  · exact .inr ⟨w.goes i H hlt q, Pv (i + 1), fun H' p' => ⟨n - (i + 1), by omega, rfl, hlt, p'⟩, fun x H' y => hs i x H H' hlt p (w.yields i H x H' hlt q y)⟩
  · have e : i = n := by omega
    subst e
    exact .inl ⟨w.stops H q, hd H p⟩
theorem lc2_in (w : Walk J n G Y) {g : TG} {tt : TT} {te : TE} {vs : List Nat} {σ : St} {H1 : Hp} {D : Addr} {Qd : Hp → Prop} (Pv : Nat → Hp → Prop) (h0 : Pv 0 H1) (hG : ∀ i H, i ≤ n → Pv i H → G H)
    (hs : ∀ i x H H', i < n → Pv i H → Y i H x H' → g x (wipe σ vs) H' fun σ2 H2 => wipe σ2 vs = wipe σ vs ∧ tt σ2 H2 fun b H3 =>
      if b = true then te σ2 H3 fun y H4 => ∃ acc, H4 D = some (.lst acc) ∧ acc.length < sizeLine ∧ Pv (i + 1) (upd H4 D (.lst (acc ++ [y]))) else Pv (i + 1) H3) (hd : ∀ H, Pv n H → Qd H) :
    ∃ W : Nat → Nat → Hp → Prop, (∃ m, W 0 m H1) ∧ ∀ i m H, W i m H →
      (J.stop i H ∧ Qd H) ∨ (J.go i H ∧ ∃ Nx : Hp → Prop, (∀ H', Nx H' → ∃ m', m' < m ∧ W (i + 1) m' H') ∧ ∀ x H', J.yld i H x H' → g x (wipe σ vs) H' fun σ2 H2 => wipe σ2 vs = wipe σ vs ∧ tt σ2 H2 fun b H3 =>
        if b = true then te σ2 H3 fun y H4 => ∃ acc, H4 D = some (.lst acc) ∧ acc.length < sizeLine ∧ Nx (upd H4 D (.lst (acc ++ [y]))) else Nx H3) := by
  refine ⟨fun i m H => m = n - i ∧ i ≤ n ∧ Pv i H, ⟨n, by simp, Nat.zero_le _, h0⟩, ?_⟩
  rintro i m H ⟨rfl, hi, p⟩
  have q := hG i H hi p
  by_cases hlt : i < n
  · exact .inr ⟨w.goes i H hlt q, Pv (i + 1), fun H' p' => ⟨n - (i + 1), by omega, rfl, hlt, p'⟩, fun x H' y => hs i x H H' hlt p (w.yields i H x H' hlt q y)⟩
  · have e : i = n := by omega
    subst e
    exact .inl ⟨w.stops H q, hd H p⟩
end
end Fab
set_option maxHeartbeats 2000000
namespace Fab
open PySem L2 PySem.FabX
local macro_rules | `(tactic| walk_at "s") => `(tactic| simp [tSeq, tAsg, tOp, tUn, tVar, tC, gName, tCons, tNil, tCB, tCall, rI, rI0, rU, tRet, tDrop, tIfS, tNext, tIf, tTest, tNot, tOr, tAnd, tB, L2.start, CMul, CDiv, rIxF, rLenF, rIntF, sq_lst, sq_tup, tLstF, tTupF, gSub, rCatF, rCatTF, rInF, rNe, rEq, tAndV, tOrV, tNotV, tChain, rTupF, tFldF, tRx, tMake, tSl, tPart, tNoPart, rSlTF, rSlF, tRevTF, gTup, gCons, gNil, rReprQ])
theorem seq_nx {S R : TS} {D : Ends} {σ : St} {H : Hp} (Inv : St → Hp → Prop) (h : ∀ Z : St → Hp → Prop, (∀ σ' H', Inv σ' H' → Z σ' H') → S { D with nx := Z } σ H) (h2 : ∀ σ' H', Inv σ' H' → R D σ' H') : tSeq S R D σ H := h (R D) h2
def Kn (m g : Addr) (H H' : Hp) : Prop := ∀ b o, H b = some o → b ≠ m → b ≠ g → noTbl o = true → H' b = some o
theorem seq_q {S R : TS} {D : L2.Ends} {σ : St} {H : Hp} (Inv : St → Hp → Prop) (h : ∀ D' : L2.Ends, D'.rt = D.rt → (∀ σ' H', Inv σ' H' → D'.nx σ' H') → S D' σ H) (h2 : ∀ σ' H', Inv σ' H' → R D σ' H') : tSeq S R D σ H := h { D with nx := R D } rfl h2
def DS (m c g : Addr) (cs : List Int) (Tb : List (Addr × Str)) (N : Nat) (H : Hp) : Prop := ∃ (n : Nat) (gs : List Int), n ≤ N ∧ H m = some (dm c g n) ∧ H g = some (.lst (gs.map V.int)) ∧ H c = some (.lst (cs.map V.int)) ∧ LamX.Tabs Tb H ∧ c ≠ m ∧ c ≠ g ∧ cs.length = 64
section
variable {m c g : Addr} {cs : List Int} {Tb : List (Addr × Str)} {N : Nat} {H H1 H' : Hp}
theorem Kn.refl : Kn m g H H := fun _ _ h _ _ _ => h
theorem Kn.of (s : Same H H') : Kn m g H H' := fun _ _ h _ _ _ => s _ _ h
theorem Kn.trans (k : Kn m g H H1) (k2 : Kn m g H1 H') : Kn m g H H' := fun b o h n1 n2 n3 => k2 b o (k b o h n1 n2 n3) n1 n2 n3
theorem DS.same (d : DS m c g cs Tb N H) (s : Same H H') : DS m c g cs Tb N H' := by
  obtain ⟨n, gs, h1, h2, h3, h4, h5, h6, h7, h8⟩ := d
  exact ⟨n, gs, h1, s _ _ h2, s _ _ h3, s _ _ h4, h5.ext s, h6, h7, h8⟩
theorem DS.extN (d : DS m c g cs Tb N H) (e : LamX.ExtN H H') (t : LamX.Tabs Tb H') : DS m c g cs Tb N H' := by
  obtain ⟨n, gs, h1, h2, h3, h4, h5, h6, h7, h8⟩ := d
  exact ⟨n, gs, h1, e _ _ h2 (noTbl_ne rfl), e _ _ h3 (noTbl_ne rfl), e _ _ h4 (noTbl_ne rfl), t, h6, h7, h8⟩
theorem DS.le {M : Nat} (d : DS m c g cs Tb N H) (h : N ≤ M) : DS m c g cs Tb M H := by
  obtain ⟨n, gs, h1, r⟩ := d
  exact ⟨n, gs, Nat.le_trans h1 h, r⟩
theorem DS.tabs (d : DS m c g cs Tb N H) : LamX.Tabs Tb H := by
  obtain ⟨n, gs, h1, h2, h3, h4, h5, _⟩ := d
  exact h5
/-- what is no dict and no list stands beside the draws' state -/
def noDL : HO → Bool
  | .lst _ => false
  | .dK _ => false
  | .tbl _ => false
  | _ => true
theorem Kn.at (k : Kn m g H H') (d : DS m c g cs Tb N H) {b : Addr} {o : HO} (h : H b = some o) (n : noDL o = true) : H' b = some o := by
  obtain ⟨n0, gs, h1, h2, h3, _⟩ := d
  refine k b o h (fun z => ?_) (fun z => ?_) ?_
  · rw [z, h2] at h; cases h; cases n
  · rw [z, h3] at h; cases h; cases n
  · cases o <;> first | rfl | cases n
theorem tabsK {H' : Hp} (hT : LamX.Tabs Tb H) {n : Nat} {gs : List Int} (hm : H m = some (dm c g n)) (hg : H g = some (.lst (gs.map V.int))) (h : ∀ b o, H b = some o → b ≠ m → b ≠ g → H' b = some o) : LamX.Tabs Tb H' := tabs_of hT m g ⟨_, _, hm⟩ ⟨_, hg⟩ h
theorem draw_ds {lim : Int} {Q : VK} {E : XK} (d : DS m c g cs Tb N H) (hl : 0 < lim) (hl2 : lim < 1000000000) (hN : N < 2 ^ 37) (k : ∀ (r : Int) (H' : Hp), 0 ≤ r → r < lim → DS m c g cs Tb (N + 1) H' → Kn m g H H' → Q (.int r) H') : spDraw [.ref m, .int lim] H Q E := by
  obtain ⟨n, gs, h1, h2, h3, h4, h5, h6, h7, h8⟩ := d
  refine ⟨m, lim, c, g, cs, gs, n, rfl, hl, hl2, h2, h4, h3, h7, h8, by omega, fun r gs' H' r0 r1 a1 a2 a3 a4 => k r H' r0 r1 ⟨n + 1, gs', by omega, a1, a3, a2, tabsK h5 h2 h3 a4, h6, h7, h8⟩ fun b o h n1 n2 _ => a4 b o h n1 n2⟩
end
/-- a drawn row, as a list and as a row -/
def Rw (m g CR p r : Addr) (ws : List Int) (many : Nat) (H : Hp) : Prop := many ≤ 24 ∧ IsRow ws many ∧ H p = some (.lst (ws.map V.int)) ∧ p ≠ m ∧ p ≠ g ∧ RowAt CR H r (ws.map V.int)
theorem Rw.same {m g CR p r : Addr} {ws : List Int} {many : Nat} {H H' : Hp} (x : Rw m g CR p r ws many H) (s : Same H H') : Rw m g CR p r ws many H' := by
  obtain ⟨h1, h2, h3, h4, h5, h6⟩ := x
  exact ⟨h1, h2, s _ _ h3, h4, h5, h6.same s⟩
section
variable {P : Program} {w : World} {K : PySem.W.Frag} {mg : Str → Option Value} {base : Heap}
theorem Rp.of {H : Hp} {x : V} {d : PyData} (h : Dp K H x d) (s : Shw d) : Rp K H x d := .dp h s.1 s.2.1 s.2.2.1 s.2.2.2
theorem turn_back {ws : List Int} {i j : Nat} (hij : i ≤ j) (hj : j < ws.length) : turnL (turnL ws i j) i j = ws := by
  have l1 : (ws.take i).length = i := by rw [List.length_take]; omega
  have l2 : ((((ws.drop i).take (j + 1 - i)).map fun z => 0 - z).reverse).length = j + 1 - i := by simp; omega
  have e1 : (turnL ws i j).take i = ws.take i := by
    unfold turnL
    rw [List.append_assoc, List.take_append_of_le_length (by omega), List.take_of_length_le (by omega)]
  have e2 : (turnL ws i j).drop i = (((ws.drop i).take (j + 1 - i)).map fun z => 0 - z).reverse ++ ws.drop (j + 1) := by
    unfold turnL
    rw [List.append_assoc, List.drop_append_of_le_length (by omega), List.drop_of_length_le (by omega), List.nil_append]
  have e3 : (turnL ws i j).drop (j + 1) = ws.drop (j + 1) := by
    rw [show j + 1 = i + (j + 1 - i) by omega, ← List.drop_drop, e2, List.drop_append_of_le_length (by omega), List.drop_of_length_le (by omega), List.nil_append]
    congr 1
    omega
  have e4 : ((turnL ws i j).drop i).take (j + 1 - i) = (((ws.drop i).take (j + 1 - i)).map fun z => 0 - z).reverse := by
    rw [e2, List.take_append_of_le_length (by omega), List.take_of_length_le (by omega)]
  show (turnL ws i j).take i ++ ((((turnL ws i j).drop i).take (j + 1 - i)).map fun z => 0 - z).reverse ++ (turnL ws i j).drop (j + 1) = ws
  rw [e1, e3, e4, ← List.map_reverse, List.reverse_reverse, List.map_map]
  have e5 : ((fun z : Int => 0 - z) ∘ fun z => 0 - z) = id := by funext z; simp
  rw [e5, List.map_id, List.append_assoc]
  conv => rhs; rw [← List.take_append_drop i ws, ← List.take_append_drop (j + 1 - i) (ws.drop i), List.drop_drop]
  rw [show i + (j + 1 - i) = j + 1 by omega]
end
end Fab
set_option maxHeartbeats 2000000
namespace Fab
open PySem L2 PySem.FabX
abbrev sLTurn : Stmt := top 28
local macro_rules | `(tactic| walk_at "s") => `(tactic| simp [tPar, tSeq, tAsg, tOp, tUn, tVar, tC, gName, tCons, tNil, tCB, tCall, rI, rI0, rU, tRet, tDrop, tIfS, tNext, tIf, tTest, tNot, tOr, tAnd, tB, L2.start, CMul, CDiv, rIxF, rLenF, rIntF, sq_lst, sq_tup, tLstF, tTupF, gSub, rCatF, rCatTF, rInF, rNe, rEq, tAndV, tOrV, tNotV, tChain, rTupF, tFldF, tRx, tMake, tSl, tPart, tNoPart, rSlTF, rSlF, tRevTF, gTup, gCons, gNil])
section
variable {P : Program} {w : World} {K : PySem.W.Frag} {mg : Str → Option Value} {base : Heap}
def spLTurn : Sp := fun vs H Q _ => ∃ (p : Addr) (ws : List Int) (i j : Nat), vs = [.ref p, .int (i : Nat), .int (j : Nat)] ∧ H p = some (.tup (ws.map V.int)) ∧ i ≤ j ∧ j < ws.length ∧ ws.length ≤ 1000 ∧ ∀ q H', Same H H' → H' q = some (.tup ((turnL ws i j).map V.int)) → Q (.ref q) H'
theorem scLTurn : FnScope ["waggons", "first", "last", "one"] ["waggons", "first", "last"] (defScope sLTurn) := ⟨rfl, rfl, rfl, by decide +kernel, rfl, by decide +kernel, by decide +kernel⟩
theorem ok_lturn {f : Addr} {fd : FuncData} (F : Fun K "_law_turn" "_law_turn" sLTurn f fd) (B : Blt mg) : FnOk P w K mg base CX0 1 f fd ["waggons", "first", "last"] spLTurn := by
  refine F.ok scLTurn (fun vs H Q E h => ?_) (fun cdv A outer s H vs Q E hr h => ?_)
  · obtain ⟨p, ws, i, j, rfl, _⟩ := h
    rfl
  · obtain ⟨p, ws, i, j, rfl, ht, hij, hj, hz, k⟩ := h
    refine ⟨_, (pss_one (ps_ret (pe_op catTF (pe_op catTF (pe_slice slTF (pv 0) po_none (po_some (pv 1))) (pe_callTy tupF (by rfl) B.tuple (by decide +kernel) (pa_cons (pe_lc (own := [("one", 3)]) (tt := tYes) rfl scLTurn.nd (pi_tup (pe_revTF (pe_slice slTF (pv 0) (po_some (pv 1)) (po_some (pe_op op_add (pv 2) pe_int))))) (blkOk_by (own := [("one", 3)]) (N := ["waggons", "first", "last", "one"]) (sc := defScope sLTurn) (by decide +kernel)) (fun _ _ _ _ _ => (pg_name (i := 3) scLTurn.nd rfl (by first | exact Or.inl rfl | exact Or.inr rfl))) (fun _ _ _ _ _ => pts_nil) (fun _ _ _ _ _ => (pe_op op_sub pe_int (pv 3)))) pa_nil))) (pe_slice slTF (pv 0) (po_some (pe_op op_add (pv 2) pe_int)) po_none)))), ?_⟩
    walk_at "s"
    refine ⟨_, ht, view_tup VW.start fun t1 H1 v1 => ?_⟩
    rw [cut_b (by rw [List.length_map]; omega)] at v1
    have hp1 := v1.fr _ _ ht
    unfold tLc iTup tRevTF tSl rSlTF tPart
    refine ⟨_, rfl, _, rfl, i, rfl, _, rfl, _, _, rfl, rfl, _, rfl, p, rfl, _, hp1, view_tup v1 fun t2 H2 v2 => ?_⟩
    rw [cut_a hij (by rw [List.length_map]; omega)] at v2
    refine ⟨t2, rfl, _, v2.tu _ List.mem_cons_self, view_tup v2 fun t3 H3 v3 => ⟨t3, rfl, ⟨_, SqT.of (v3.tu _ List.mem_cons_self)⟩, fun D hD => lc_mapT (ws := ((ws.drop i).take (j + 1 - i)).reverse) (g := fun z => 0 - z) v3 hD (fun H' acc v' => ?_) (fun _ => rfl) (fun z _ _ q => ?_) ?_ fun H4 v4 => ?_⟩⟩
    · rw [List.map_reverse, List.map_take, List.map_drop]
      exact SqT.of (v'.tu _ List.mem_cons_self)
    · exact ⟨_, rfl, _, _, rfl, rfl, q⟩
    · rw [List.length_reverse, List.length_take, List.length_drop]
      omega
    have hz' : ∀ k : Nat, k ≤ 1000 → k ≤ sizeLine := fun k hk => sz_le (by omega)
    refine ⟨D, rfl, _, v4.facts.1, _, rfl, view_tup v4 fun t5 H5 v5 => ⟨_, v5.tu (t1, (ws.map V.int).take i) (by simp), _, v5.tu _ List.mem_cons_self, hz' _ (by simp; omega), view_tup v5 fun t6 H6 v6 => ⟨_, v6.fr _ _ ht, ?_⟩⟩⟩
    rw [cut_c (by rw [List.length_map]; omega)]
    refine view_tup v6 fun t7 H7 v7 => ⟨_, v7.tu _ (List.mem_cons_of_mem _ List.mem_cons_self), _, v7.tu _ List.mem_cons_self, hz' _ (by simp; omega), view_tup v7 fun t8 H8 v8 => ?_⟩
    have et : (ws.map V.int).take i ++ ((((ws.drop i).take (j + 1 - i)).reverse.map fun z => 0 - z).map V.int) ++ (ws.map V.int).drop (j + 1) = (turnL ws i j).map V.int := by
      unfold turnL
      simp only [List.map_append, List.map_take, List.map_drop, List.map_reverse]
    refine k t8 H8 v8.fr ?_
    rw [← et]
    exact v8.tu _ List.mem_cons_self
theorem IsRow.put {ws : List Int} {i k : Nat} {z : Int} (h : IsRow ws i) (hz : z.natAbs = i + 1) : IsRow (ws.take k ++ [z] ++ ws.drop k) (i + 1) := by
  unfold IsRow at h ⊢
  have e : (ws.take k ++ [z] ++ ws.drop k).Perm (ws ++ [z]) := by
    conv => rhs; rw [← List.take_append_drop k ws]
    rw [List.append_assoc, List.append_assoc]
    exact List.Perm.append_left _ List.perm_append_comm
  refine (e.map Int.natAbs).trans ?_
  rw [List.map_append, List.range'_1_concat]
  refine List.Perm.append h ?_
  simp [hz, Nat.add_comm]
end
end Fab
set_option maxHeartbeats 2000000
namespace Fab
open PySem L2 PySem.FabX
local macro_rules | `(tactic| walk_at "s") => `(tactic| simp [tSeq, tAsg, tOp, tUn, tVar, tC, gName, tCons, tNil, tCB, tCall, rI, rI0, rU, tRet, tDrop, tIfS, tNext, tIf, tTest, tNot, tOr, tAnd, tB, L2.start, CMul, CDiv, rIxF, rLenF, rIntF, sq_lst, sq_tup, tLstF, tTupF, gSub, rCatF, rCatTF, rInF, rNe, rEq, tAndV, tOrV, tNotV, tChain, rTupF, tFldF, tRx, tMake, tMeth, tSl, tPart, tNoPart, rSlTF, rSlF, tRevTF, gTup, gCons, gNil, tLstRgF, tRg2])
section
variable {P : Program} {w : World} {K : PySem.W.Frag} {mg : Str → Option Value} {base : Heap} {C : Kd → Addr} {CR : Addr}
theorem PrL.take {H : Hp} {vs : List V} {ps : List (Nat × Nat)} (h : PrL H vs ps) (n : Nat) : PrL H (vs.take n) (ps.take n) := by
  unfold PrL at h ⊢
  induction h generalizing n with
  | nil => simp; exact .nil
  | cons r t ih =>
    cases n with
    | zero => exact .nil
    | succ n => exact .cons r (ih n)
theorem PrL.get {H : Hp} {vs : List V} {ps : List (Nat × Nat)} (h : PrL H vs ps) {k : Nat} {y : V} (hy : vs[k]? = some y) : ∃ p a, ps[k]? = some p ∧ y = .ref a ∧ H a = some (.tup [.int (p.1 : Nat), .int (p.2 : Nat)]) := by
  unfold PrL at h
  induction h generalizing k with
  | nil => simp at hy
  | @cons v p vs ps r t ih =>
    cases k with
    | zero =>
      obtain ⟨a, e, ha⟩ := r
      simp at hy
      subst hy
      exact ⟨p, a, rfl, e, ha⟩
    | succ k => simpa using ih (k := k) (by simpa using hy)
end
theorem PrL.extN {H H' : Hp} {vs : List V} {ps : List (Nat × Nat)} (h : PrL H vs ps) (e : LamX.ExtN H H') : PrL H' vs ps := h.keep fun a xs q => e _ _ q (noTbl_ne rfl)
theorem tabs_put {H : Hp} {Tb : List (Addr × Str)} {s : Addr} {xs ys : List V} (hT : LamX.Tabs Tb H) (hs : H s = some (.lst xs)) : LamX.Tabs Tb (upd H s (.lst ys)) := fun p hp => by
  have h := hT p hp
  obtain ⟨ps, h1, h2, h3⟩ := h
  refine ⟨ps, by rw [upd_ne (fun z => by rw [z, hs] at h1; cases h1)]; exact h1, h2, fun pos cv hc => ?_⟩
  obtain ⟨c', e, hc'⟩ := h3 pos cv hc
  exact ⟨c', e, by rw [upd_ne (fun z => by rw [z, hs] at hc'; unfold LamX.CodeO at hc'; cases hc')]; exact hc'⟩
theorem DS.put {m c g s : Addr} {cs : List Int} {Tb : List (Addr × Str)} {N : Nat} {H : Hp} {xs ys : List V} (d : DS m c g cs Tb N H) (hs : H s = some (.lst xs)) (sg : s ≠ g) (sc : s ≠ c) : DS m c g cs Tb N (upd H s (.lst ys)) := by
  obtain ⟨n, gs, h1, h2, h3, h4, h5, h6, h7, h8⟩ := d
  exact ⟨n, gs, h1, by rw [upd_ne (ne_of h2 hs (by unfold dm; intro z; cases z))]; exact h2, by rw [upd_ne (Ne.symm sg)]; exact h3, by rw [upd_ne (Ne.symm sc)]; exact h4, tabs_put h5 hs, h6, h7, h8⟩
theorem RowAt.put {CR p s : Addr} {H : Hp} {ws xs ys : List V} (r : RowAt CR H p ws) (hs : H s = some (.lst xs)) : RowAt CR (upd H s (.lst ys)) p ws := by
  obtain ⟨dx, tp, h1, h2⟩ := r
  exact ⟨dx, tp, by rw [upd_ne (ne_of h1 hs (by intro z; cases z))]; exact h1, by rw [upd_ne (ne_of h2 hs (by intro z; cases z))]; exact h2⟩
theorem Rw.put {m g CR p r s : Addr} {ws : List Int} {many : Nat} {H : Hp} {xs ys : List V} (x : Rw m g CR p r ws many H) (hs : H s = some (.lst xs)) (sp : s ≠ p) : Rw m g CR p r ws many (upd H s (.lst ys)) := by
  obtain ⟨h1, h2, h3, h4, h5, h6⟩ := x
  exact ⟨h1, h2, by rw [upd_ne (Ne.symm sp)]; exact h3, h4, h5, h6.put hs⟩
theorem PrL.put {H : Hp} {vs xs ys : List V} {ps : List (Nat × Nat)} {s : Addr} (h : PrL H vs ps) (hs : H s = some (.lst xs)) : PrL (upd H s (.lst ys)) vs ps := h.keep fun a zs q => by
  rw [upd_ne (ne_of q hs (by intro z; cases z))]
  exact q
end Fab
set_option maxHeartbeats 2000000
namespace Fab
open PySem L2 PySem.FabX
open PyProof.Rows (envOfC)
local macro_rules | `(tactic| walk_at "s") => `(tactic| simp [tSeq, tAsg, tOp, tUn, tVar, tC, gName, tCons, tNil, tCB, tCall, rI, rI0, rU, tRet, tDrop, tIfS, tNext, tIf, tTest, tNot, tOr, tAnd, tB, L2.start, CMul, CDiv, rIxF, rLenF, rIntF, sq_lst, sq_tup, tLstF, tTupF, gSub, rCatF, rCatTF, rInF, rNe, rEq, tAndV, tOrV, tNotV, tChain, rTupF, tFldF, tRx, tMake, tMeth, tSl, tPart, tNoPart, rSlTF, rSlF, tRevTF, gTup, gCons, gNil, tLM, rSetF, StX.tStar, rListF, tLstRgF, tRg2])
end Fab
set_option maxHeartbeats 2000000
namespace Fab
open PySem L2 PySem.FabX
open PyProof.Rows (envOfC)
local macro_rules | `(tactic| walk_at "s") => `(tactic| simp [tSeq, tAsg, tOp, tUn, tVar, tC, gName, tCons, tNil, tCB, tCall, rI, rI0, rU, tRet, tDrop, tIfS, tNext, tIf, tTest, tNot, tOr, tAnd, tB, L2.start, CMul, CDiv, rIxF, rLenF, rIntF, sq_lst, sq_tup, tLstF, tTupF, gSub, rCatF, rCatTF, rInF, rNe, rEq, tAndV, tOrV, tNotV, tChain, rTupF, rListF, tFldF, tRx, tMake, tMeth, tSl, tPart, tNoPart, rSlTF, rSlF, tRevTF, tRevF, gTup, gCons, gNil, tLM, rSetF])
/-- a value of which isinstance(.., int) and isinstance(.., bool) are known -/
inductive AskB (K : PySem.W.Frag) (H : Hp) : V → Prop
  | int (i : Int) : AskB K H (.int i)
  | bl (b : Bool) : AskB K H (.bl b)
  | other {x : V} {t : Value} (ty : TyX K H x t) (no : PySem.W.kitOne K t (.type "int") = some false) (nob : PySem.W.kitOne K t (.type "bool") = some false) (h1 : ∀ i, x ≠ .int i) : AskB K H x
theorem AskB.ask {K : PySem.W.Frag} {H : Hp} {x : V} (h : AskB K H x) : Asked K H x := by
  cases h with
  | int i => exact .int i
  | bl b => exact .bl b
  | other ty no _ h1 => exact .other ty no h1
end Fab
set_option maxHeartbeats 4000000
namespace Fab
open PySem PySem.Spec PyProof.Rows L2 LamX
section
variable {X : Cx} {pins : List (Addr × Obj)} {σ : L2.St} {H : Hp} {s : Shared}
/-- the names of such a lambda: its parameter alone is its own -/
structure DfS (p : Str) (around sc : Scope) : Prop where
  kd : sc.kind = .function
  nco : sc.isCoroutine = false
  nge : sc.isGenerator = false
  par : sc.names.lookup p = some .local
  loc : ∀ y ∈ sc.names, y.2 = .local → y.1 = p
  nce : ∀ y ∈ sc.names, y.2 ≠ .cell
  fre : ∀ y ∈ sc.names, y.2 = .free → around.names.lookup y.1 = some .cell ∨ around.names.lookup y.1 = some .free
theorem DfS.has {p : Str} {X : Cx} {sc : Scope} (S : DfS p X.env.scope sc) (ok : X.Ok) : ∀ y ∈ sc.names, y.2 = .free → ∃ c, X.env.cells.lookup y.1 = some c := fun y hy e => ok.has _ (S.fre y hy e)
end
end Fab
set_option maxHeartbeats 2000000
namespace Fab
open PySem L2 PySem.FabX
open PyProof.Rows (envOfC)
local macro_rules | `(tactic| walk_at "s") => `(tactic| simp [tSeq, tAsg, tOp, tUn, tVar, tC, gName, tCons, tNil, tCB, tCall, rI, rI0, rU, tRet, tDrop, tIfS, tNext, tIf, tTest, tNot, tOr, tAnd, tB, L2.start, CMul, CDiv, rIxF, rLenF, rIntF, sq_lst, sq_tup, tLstF, tTupF, gSub, rCatF, rCatTF, rInF, rNe, rEq, tAndV, tOrV, tNotV, tChain, rTupF, rListF, tFldF, tRx, tMake, tMeth, tSl, tPart, tNoPart, rSlTF, rSlF, tRevTF, tRevF, gTup, gCons, gNil, tLM, rSetF, sDPutF, tDGetF, tLstRgF, tRg2])
end Fab
set_option maxHeartbeats 4000000
namespace Fab
open PySem L2 PyProof.Rows
mutual
/-- a value is such a key -/
inductive NK (H : Hp) : V → NestedKey → Prop
  | int (i : Int) : NK H (.int i) (.num i)
  | tup {a : Addr} {xs : List V} {ks : List NestedKey} : H a = some (.tup xs) → NKs H xs ks → NK H (.ref a) (.tup ks)
inductive NKs (H : Hp) : List V → List NestedKey → Prop
  | nil : NKs H [] []
  | cons {v : V} {vs : List V} {k : NestedKey} {ks : List NestedKey} : NK H v k → NKs H vs ks → NKs H (v :: vs) (k :: ks)
end
mutual
theorem NK.mono {H H' : Hp} (h : ∀ b xs, H b = some (.tup xs) → H' b = some (.tup xs)) : ∀ (k : NestedKey) (v : V), NK H v k → NK H' v k
  | .none, _, x => by cases x
  | .text _, _, x => by cases x
  | .num i, _, x => by cases x; exact .int i
  | .tup ks, _, x => by
    cases x with
    | tup e r => exact .tup (h _ _ e) (NKs.mono h ks _ r)
theorem NKs.mono {H H' : Hp} (h : ∀ b xs, H b = some (.tup xs) → H' b = some (.tup xs)) : ∀ (ks : List NestedKey) (vs : List V), NKs H vs ks → NKs H' vs ks
  | [], _, x => by cases x; exact .nil
  | k :: ks, _, x => by
    cases x with
    | cons a b => exact .cons (NK.mono h k _ a) (NKs.mono h ks _ b)
end
mutual
theorem NK.is {X : Cx} {pins : List (Addr × Obj)} {σ : L2.St} {H : Hp} {s : Shared} (I : Inv X pins σ H s) : ∀ (k : NestedKey) (v : V) (u : Value), NK H v k → RelV v u → NestedIs s.heap k u
  | .none, _, _, x, _ => by cases x
  | .text _, _, _, x, _ => by cases x
  | .num i, _, u, x, r => by
    cases x
    obtain ⟨t, rfl⟩ := r
    exact .int i t
  | .tup ks, _, u, x, r => by
    cases x with
    | tup e q =>
      cases r
      obtain ⟨_, its, rv, o, h1, h2, n, h3⟩ := (show ObjOk X.prog X.w H s.heap _ (.tup _) from I.hok _ _ e)
      exact .tup h1 h2 h3 (NKs.is I ks _ _ q (by simpa using rv))
theorem NKs.is {X : Cx} {pins : List (Addr × Obj)} {σ : L2.St} {H : Hp} {s : Shared} (I : Inv X pins σ H s) : ∀ (ks : List NestedKey) (vs : List V) (us : List Value), NKs H vs ks → Vals vs us → NestedAll s.heap ks us
  | [], _, _, x, r => by cases x; cases r; exact .nil
  | k :: ks, _, _, x, r => by
    cases x with
    | cons a b =>
      cases r with
      | cons ra rb => exact .cons (NK.is I k _ _ a ra) (NKs.is I ks _ _ b rb)
end
abbrev EnN := NestedKey × Addr × V
def EnNR (p : EnN) (q : NestedKey × Addr × Value) : Prop := p.1 = q.1 ∧ p.2.1 = q.2.1 ∧ RelV p.2.2 q.2.2
def enNE (w : World) (x : NestedKey × Addr × Value) : DictEntry := ⟨x.1.hash w, .ref x.2.1, x.2.2⟩
def DnAt (w : World) (d : Addr) (xs : List EnN) (h : Heap) : Prop := xs.length ≤ sizeLine ∧ (d == sysModules) = false ∧ ∃ ys : List (NestedKey × Addr × Value), Paired EnNR xs ys ∧ ∃ o es ep, h.get? d = some o ∧ o.ExactDict ∧ o.data = .dict es ep ∧ es.toList = ys.map (enNE w) ∧ (ys.map (·.1)).Nodup
/-- the dict at d -/
def dnO (w : World) (d : Addr) (xs : List EnN) : HO := .ext (DnAt w d xs)
theorem dnO_ok {P : Program} {w : World} {H : Hp} {h : Heap} {d : Addr} {xs : List EnN} (x : DnAt w d xs h) : ObjOk P w H h d (dnO w d xs) := by
  refine ⟨x, ?_, ?_⟩
  · obtain ⟨_, _, _, _, o, _, _, e, _⟩ := x
    exact ⟨o, e⟩
  · rintro h1 h2 ⟨a, b, ys, c, o, es, ep, e, r⟩ k
    exact ⟨a, b, ys, c, o, es, ep, k o e, r⟩
/-- the keys stand -/
def KeysN (H : Hp) (xs : List EnN) : Prop := ∀ x ∈ xs, NK H (.ref x.2.1) x.1 ∧ x.1.depth ≤ 8
theorem KeysN.mono {H H' : Hp} {xs : List EnN} (h : KeysN H xs) (k : ∀ b ys, H b = some (.tup ys) → H' b = some (.tup ys)) : KeysN H' xs := fun x hx => ⟨NK.mono k _ _ (h x hx).1, (h x hx).2⟩
def getN (xs : List EnN) (k : NestedKey) : Option V := (xs.find? fun x => decide (x.1 = k)).map (·.2.2)
def putN (xs : List EnN) (k : NestedKey) (a : Addr) (v : V) : List EnN := if (getN xs k).isSome then xs.map (fun x => if x.1 = k then (x.1, x.2.1, v) else x) else xs ++ [(k, a, v)]
theorem ent_val {xs : List EnN} {ys : List (NestedKey × Addr × Value)} (r : Paired EnNR xs ys) (k : NestedKey) : RelO (getN xs k) ((atKey ys k).map (·.2)) := by
  induction r with
  | nil => exact True.intro
  | @cons p q ps qs h t ih =>
    obtain ⟨h1, h0, h2⟩ := h
    by_cases e : p.1 = k
    · have e' : q.1 = k := h1.symm.trans e
      simp [getN, atKey, List.find?_cons, e, e']
      exact h2
    · have e' : ¬ q.1 = k := fun z => e (h1.trans z)
      have b : atKey (q :: qs) k = atKey qs k := by simp [atKey, List.find?_cons, e']
      have c : getN (p :: ps) k = getN ps k := by simp [getN, List.find?_cons, e]
      rw [b, c]
      exact ih
theorem ent_put {xs : List EnN} {ys : List (NestedKey × Addr × Value)} (r : Paired EnNR xs ys) (k : NestedKey) (a : Addr) {v : V} {u : Value} (rv : RelV v u) : Paired EnNR (putN xs k a v) (storedH ys k a u) := by
  have e : (getN xs k).isSome = (atKey ys k).isSome := by
    rw [(ent_val r k).isSome_eq, Option.isSome_map]
  unfold putN storedH
  rw [e]
  split
  · clear e
    rename_i hs
    clear hs
    induction r with
    | nil => exact .nil
    | @cons p q ps qs h t ih =>
      rw [List.map_cons, List.map_cons]
      refine .cons ?_ ih
      obtain ⟨h1, h0, h2⟩ := h
      unfold putAt
      by_cases e : p.1 = k
      · rw [if_pos e, if_pos (h1.symm.trans e)]
        exact ⟨h1, h0, rv⟩
      · rw [if_neg e, if_neg (fun z => e (h1.trans z))]
        exact ⟨h1, h0, h2⟩
  · exact Paired.snoc r ⟨rfl, rfl, rv⟩
theorem ent_len {xs : List EnN} {ys : List (NestedKey × Addr × Value)} (r : Paired EnNR xs ys) : xs.length = ys.length := Paired.length r
theorem putN_len (xs : List EnN) (k : NestedKey) (a : Addr) (v : V) : (putN xs k a v).length ≤ xs.length + 1 := by
  unfold putN
  split
  · rw [List.length_map]
    omega
  · simp
theorem putN_keys {H : Hp} {xs : List EnN} {k : NestedKey} {a : Addr} {v : V} (h : KeysN H xs) (hk : NK H (.ref a) k) (hd : k.depth ≤ 8) : KeysN H (putN xs k a v) := by
  unfold putN
  split
  · intro x hx
    obtain ⟨y, hy, rfl⟩ := List.mem_map.mp hx
    have := h y hy
    split <;> exact this
  · intro x hx
    rcases List.mem_append.mp hx with z | z
    · exact h x z
    · rw [List.mem_singleton] at z
      subst z
      exact ⟨hk, hd⟩
section
variable {X : Cx} {pins : List (Addr × Obj)} {σ : L2.St} {H : Hp} {s : Shared} {a : Addr} {y v : V} {u r : Value} {A : Around} {E : Value → Shared → Prop} {xs : List EnN}
/-- the dict at a is read -/
theorem dn_rd (I : Inv X pins σ H s) (e : Rd H a (dnO X.w a xs)) (hk : KeysN H xs) : xs.length ≤ sizeLine ∧ (a == sysModules) = false ∧ ∃ ys, Paired EnNR xs ys ∧ s.heap.DictOfH (nestedKind X.prog X.w) a ys := by
  obtain ⟨⟨z, hd, ys, r, o, es, ep, h1, h2, h3, h4, h5⟩, _, _⟩ := (show ObjOk X.prog X.w H s.heap a (dnO X.w a xs) from rd_of I.hok e)
  refine ⟨z, hd, ys, r, o, es, ep, h1, h2, h3, h4, fun q hq => ?_, h5⟩
  have all : ∀ {l : List EnN} {m : List (NestedKey × Addr × Value)}, Paired EnNR l m → (∀ x ∈ l, NK H (.ref x.2.1) x.1 ∧ x.1.depth ≤ 8) → ∀ x ∈ m, (nestedKind X.prog X.w).is s.heap x.1 x.2.1 := by
    intro l m q
    induction q with
    | nil => intro _ x hx; exact nomatch hx
    | @cons p q ps qs hq t ih =>
      intro hl x hx
      rcases List.mem_cons.mp hx with e | hx
      · subst e
        have := hl p List.mem_cons_self
        obtain ⟨e1, e2, _⟩ := hq
        rw [e1, e2] at this
        exact ⟨NK.is (X := X) (pins := pins) (σ := σ) I _ _ _ this.1 rfl, this.2⟩
      · exact ih (fun x hx => hl x (List.mem_cons_of_mem _ hx)) x hx
  exact all r hk q hq
theorem nk_is {k : NestedKey} {b : Addr} (I : Inv X pins σ H s) (hk : NK H (.ref b) k) (hd : k.depth ≤ 8) : (nestedKind X.prog X.w).is s.heap k b := ⟨NK.is I _ _ _ hk rfl, hd⟩
theorem dn_notIn {k : NestedKey} {b : Addr} {Q : Value → Shared → Prop} (hu : A.units + 9 < cLine) (I : Inv X pins σ H s) (e : Rd H a (dnO X.w a xs)) (hk : KeysN H xs) (hb : NK H (.ref b) k) (hd : k.depth ≤ 8) (h : ∀ s', Inv X pins σ H s' → Q (.bool (!(getN xs k).isSome)) s') :
    wpAny (model X.prog X.w) A (compareOp .NotIn (.ref b) (.ref a)) Q E s := by
  obtain ⟨z, hs, ys, rel, dd⟩ := dn_rd I e hk
  refine wpAny_notIn_heap (knd := nestedKind X.prog X.w) (show A.in1.units + 8 < cLine by show A.units + 1 + 8 < cLine; omega) (nk_is I hb hd) hs dd ?_
  have q := (ent_val rel k).isSome_eq
  rw [Option.isSome_map] at q
  rw [← q]
  exact h _ (I.tok _)
/-- the dict behind a store -/
theorem dn_new {h' : Heap} {t' : Nat} {k : NestedKey} {b : Addr} {ys : List (NestedKey × Addr × Value)} (I : Inv X pins σ H s) (e : H a = some (dnO X.w a xs)) (z : xs.length < sizeLine) (hs : (a == sysModules) = false) (rel : Paired EnNR xs ys) (rv : RelV v r)
    (dd : h'.DictOfH (nestedKind X.prog X.w) a (storedH ys k b r)) (sb : Heap.SameBut a s.heap h') : Inv X pins σ (upd H a (dnO X.w a (putN xs k b v))) { s with heap := h', toks := t' } := by
  obtain ⟨q, es, ep, hq, h2, h3, h4, _, h5⟩ := dd
  refine d_write I (by rw [e]; exact True.intro) sb ⟨q, hq⟩ (dnO_ok ⟨?_, hs, _, ent_put rel k b rv, q, es, ep, hq, h2, h3, h4, h5⟩)
  have := putN_len xs k b v
  omega
theorem dn_setItem {k : NestedKey} {b : Addr} {Q : Unit → Shared → Prop} (hu : A.units + 9 < cLine) (I : Inv X pins σ H s) (e : H a = some (dnO X.w a xs)) (hk : KeysN H xs) (z : xs.length < sizeLine) (hb : NK H (.ref b) k) (hd : k.depth ≤ 8) (rv : RelV v r) (h : ∀ s', Inv X pins σ (upd H a (dnO X.w a (putN xs k b v))) s' → Q () s') :
    wpAny (model X.prog X.w) A (setItem (.ref a) (.ref b) r) Q E s := by
  obtain ⟨_, hs, ys, rel, dd⟩ := dn_rd I (.of e) hk
  have l := ent_len rel
  exact wpAny_setItem_heap (knd := nestedKind X.prog X.w) (hsz := by omega) (show A.in1.units + 8 < cLine by show A.units + 1 + 8 < cLine; omega) (nk_is I hb hd) dd fun h' dd' sb => h _ (dn_new I e z hs rel rv dd' sb)
theorem dn_dictSet {k : NestedKey} {b : Addr} {Q : Unit → Shared → Prop} (hu : A.units + 9 < cLine) (I : Inv X pins σ H s) (e : H a = some (dnO X.w a xs)) (hk : KeysN H xs) (z : xs.length < sizeLine) (hb : NK H (.ref b) k) (hd : k.depth ≤ 8) (rv : RelV v r) (h : ∀ s', Inv X pins σ (upd H a (dnO X.w a (putN xs k b v))) s' → Q () s') :
    wpAny (model X.prog X.w) A (dictSet a (.ref b) r) Q E s := by
  obtain ⟨_, hs, ys, rel, dd⟩ := dn_rd I (.of e) hk
  have l := ent_len rel
  exact wpAny_dictSet_heap (knd := nestedKind X.prog X.w) (hsz := by omega) (show A.units + 8 < cLine by omega) (nk_is I hb hd) dd fun h' dd' sb => h _ (dn_new I e z hs rel rv dd' sb)
theorem dn_empty {P : Program} {w : World} {H : Hp} (h : Heap) (hb : sysModules < h.objs.size) : ObjOk P w H (h.push { cls := .type "dict", data := .dict #[] }) h.objs.size (dnO w h.objs.size []) :=
  dnO_ok ⟨Nat.zero_le _, beq_eq_false_iff_ne.mpr (Ne.symm (Nat.ne_of_lt hb)), [], .nil, _, #[], 0, Heap.get?_push_size _ rfl, ⟨rfl, rfl, rfl⟩, rfl, rfl, List.nodup_nil⟩
end
def tDNotInN (w : World) (ty td : TE) : TE := fun σ H Q => ty σ H fun y H1 => td σ H1 fun x H2 => ∃ a b xs k, x = .ref a ∧ y = .ref b ∧ Rd H2 a (dnO w a xs) ∧ KeysN H2 xs ∧ NK H2 (.ref b) k ∧ k.depth ≤ 8 ∧ Q (.bl (!(getN xs k).isSome)) H2
def sDPutN (w : World) (td ty tv : TE) : TS := fun D σ H => tv σ H fun v H1 => td σ H1 fun x H2 => ty σ H2 fun y H3 => ∃ a b xs k, x = .ref a ∧ y = .ref b ∧ H3 a = some (dnO w a xs) ∧ KeysN H3 xs ∧ xs.length < sizeLine ∧ NK H3 (.ref b) k ∧ k.depth ≤ 8 ∧ D.nx σ (upd H3 a (dnO w a (putN xs k b v)))
section
variable {X : Cx} {o i e f value : Expr} {pos pos' tpos apos cpos : Pos} {td ty tv tx : TE}
theorem pc_dnotinN (hu : X.A.units + 9 < cLine) (hi : PE X i ty) (ho : PE X o td) : PC X .NotIn i o (tDNotInN X.w ty td) := by
  refine ⟨fun pins s σ H Q I h => ?_⟩
  refine thn (hi.run pins s σ H _ I h) fun iv s1 ⟨y, H1, I1, ry, q1⟩ => thn (ho.run pins s1 σ H1 _ I1 q1) fun u s2 ⟨x, H2, I2, rx, a, b, xs, k, ex, ey, g, hk, hb, hd, q2⟩ => ?_
  subst ex ey
  obtain rfl : u = Value.ref a := rx
  obtain rfl : iv = Value.ref b := ry
  exact dn_notIn hu I2 g hk hb hd fun s3 I3 => ⟨.bl _, H2, I3, rfl, q2⟩
theorem ps_dputN (hu : X.A.units + 9 < cLine) (ho : PE X o td) (hi : PE X i ty) (hv : PE X value tv) (hs : swapsWith value (some (.Subscript o i pos')) pos.line X.env = pure false := by rfl) :
    PS X (.Assign [.Subscript o i pos'] value pos) (sDPutN X.w td ty tv) := by
  refine ⟨fun pins s σ H D I h => ?_⟩
  refine wpAny_Assign_Subscript (thn (hv.run pins s σ H _ I h) fun r s1 ⟨v, H1, I1, rv, q1⟩ => thn (ho.run pins s1 σ H1 _ I1 q1) fun u s2 ⟨x, H2, I2, rx, q2⟩ => thn (hi.run pins s2 σ H2 _ I2 q2) fun iv s3 ⟨y, H3, I3, ry, a, b, xs, k, ex, ey, g, hk, z, hb, hd, q3⟩ => ?_) hs
  subst ex ey
  obtain rfl : u = Value.ref a := rx
  obtain rfl : iv = Value.ref b := ry
  exact dn_setItem hu I3 g hk z hb hd rv fun s4 I4 => ⟨σ, _, I4, q3⟩
end
end Fab
set_option maxHeartbeats 2000000
namespace Fab
open PySem L2 PySem.Spec PyProof.Rows
end Fab
set_option maxHeartbeats 2000000
namespace Fab
open PySem L2 PyProof.Rows
mutual
theorem NK.dp {K : PySem.W.Frag} {H : Hp} : ∀ (k : NestedKey) (v : V), NK H v k → Dp K H v k.data
  | .none, _, x => by cases x
  | .text _, _, x => by cases x
  | .num i, _, x => by cases x; rw [NestedKey.data]; exact .int i
  | .tup ks, _, x => by
    cases x with
    | tup e r => rw [NestedKey.data]; exact .tup (SqT.of e) (NKs.dp ks _ r)
theorem NKs.dp {K : PySem.W.Frag} {H : Hp} : ∀ (ks : List NestedKey) (vs : List V), NKs H vs ks → DpAll K H vs (NestedKey.datas ks)
  | [], _, x => by cases x; rw [NestedKey.datas]; exact .nil
  | k :: ks, _, x => by
    cases x with
    | cons a b => rw [NestedKey.datas]; exact .cons (NK.dp k _ a) (NKs.dp ks _ b)
end
mutual
theorem NK.lay {H : Hp} : ∀ (k : NestedKey) (v : V), NK H v k → k.data.canLay0 = true
  | .none, _, x => by cases x
  | .num _, _, _ => by simp [NestedKey.data, PyData.canLay0]
  | .text _, _, x => by cases x
  | .tup ks, _, x => by
    cases x with
    | tup e r => rw [NestedKey.data, PyData.canLay0]; exact NKs.lay ks _ r
theorem NKs.lay {H : Hp} : ∀ (ks : List NestedKey) (vs : List V), NKs H vs ks → PyData.canLayAll0 (NestedKey.datas ks) = true
  | [], _, _ => by simp [NestedKey.datas, PyData.canLayAll0]
  | k :: ks, _, x => by
    cases x with
    | cons a b => rw [NestedKey.datas, PyData.canLayAll0, NK.lay k _ a, NKs.lay ks _ b]; rfl
end
mutual
theorem key_depth : ∀ k : NestedKey, k.data.depth ≤ k.depth
  | .none => Nat.le_refl _
  | .num _ => Nat.le_refl _
  | .text _ => Nat.le_refl _
  | .tup ks => by rw [NestedKey.data, PyData.depth, NestedKey.depth]; have := keys_depth ks; omega
theorem keys_depth : ∀ ks : List NestedKey, PyData.depthAll (NestedKey.datas ks) ≤ NestedKey.depthAll ks
  | [] => Nat.le_refl _
  | k :: ks => by rw [NestedKey.datas, PyData.depthAll, NestedKey.depthAll]; have := key_depth k; have := keys_depth ks; omega
end
theorem NK.shp {H : Hp} {v : V} {k : NestedKey} (n : NK H v k) (h : k.depth ≤ 8) : SeqAt.shaped k.data = true := by
  have := key_depth k
  show (k.data.canLay0 && decide (k.data.depth ≤ 64)) = true
  rw [NK.lay _ _ n, Bool.true_and]
  exact decide_eq_true (by omega)
theorem depth_all {ks : List NestedKey} {m : Nat} (h : ∀ k ∈ ks, k.depth ≤ m) : NestedKey.depthAll ks ≤ m := by
  induction ks with
  | nil => rw [NestedKey.depthAll]; omega
  | cons k ks ih =>
    rw [NestedKey.depthAll]
    have := h k List.mem_cons_self
    have := ih fun x hx => h x (List.mem_cons_of_mem _ hx)
    omega
theorem NKs.shp {H : Hp} {vs : List V} {ks : List NestedKey} (n : NKs H vs ks) (h : ∀ k ∈ ks, k.depth ≤ 8) : SeqAt.shaped (.list (NestedKey.datas ks)) = true := by
  have := keys_depth ks
  have := depth_all h
  show (PyData.canLay0 _ && decide (PyData.depth _ ≤ 64)) = true
  rw [PyData.canLay0, NKs.lay _ _ n, Bool.true_and]
  exact decide_eq_true (by rw [PyData.depth]; omega)
theorem NKs.len {H : Hp} {vs : List V} {ks : List NestedKey} (h : NKs H vs ks) : vs.length = ks.length := by
  induction ks generalizing vs with
  | nil => cases h; rfl
  | cons k ks ih => cases h with | cons a b => rw [List.length_cons, List.length_cons, ih b]
theorem NKs.get {H : Hp} {vs : List V} {ks : List NestedKey} (h : NKs H vs ks) {i : Nat} {v : V} (e : vs[i]? = some v) : ∃ k, ks[i]? = some k ∧ NK H v k := by
  induction ks generalizing vs i with
  | nil => cases h; simp at e
  | cons k ks ih =>
    cases h with
    | cons a b =>
      cases i with
      | zero => simp at e; subst e; exact ⟨k, rfl, a⟩
      | succ j => simp at e; simpa using ih b e
theorem NKs.at_ {H : Hp} {vs : List V} {ks : List NestedKey} (h : NKs H vs ks) {i : Nat} {k : NestedKey} (e : ks[i]? = some k) : ∃ v, vs[i]? = some v ∧ NK H v k := by
  have l := h.len
  have li : i < ks.length := (List.getElem?_eq_some_iff.mp e).1
  obtain ⟨k2, e2, n⟩ := h.get (i := i) (v := vs[i]) (List.getElem?_eq_getElem (by omega))
  rw [e] at e2
  cases e2
  exact ⟨_, List.getElem?_eq_getElem (by omega), n⟩
theorem NKs.one {H : Hp} {v : V} {k : NestedKey} (h : NK H v k) : NKs H [v] [k] := .cons h .nil
theorem NKs.same {H H' : Hp} {vs : List V} {ks : List NestedKey} (h : NKs H vs ks) (s : Same H H') : NKs H' vs ks := NKs.mono (fun b xs e => s b _ e) _ _ h
theorem NK.same {H H' : Hp} {v : V} {k : NestedKey} (h : NK H v k) (s : Same H H') : NK H' v k := NK.mono (fun b xs e => s b _ e) _ _ h
theorem NKs.take {H : Hp} {vs : List V} {ks : List NestedKey} (h : NKs H vs ks) (n : Nat) : NKs H (vs.take n) (ks.take n) := by
  induction n generalizing vs ks with
  | zero => exact .nil
  | succ n ih =>
    cases ks with
    | nil => cases h; exact .nil
    | cons k ks => cases h with | cons a b => exact .cons a (ih b)
theorem NKs.drop {H : Hp} {vs : List V} {ks : List NestedKey} (h : NKs H vs ks) (n : Nat) : NKs H (vs.drop n) (ks.drop n) := by
  induction n generalizing vs ks with
  | zero => exact h
  | succ n ih =>
    cases ks with
    | nil => cases h; exact .nil
    | cons k ks => cases h with | cons a b => exact ih b
/-- a store that changes no tuple -/
theorem NK.put {H : Hp} {v : V} {k : NestedKey} {a : Addr} {o o2 : HO} (h : NK H v k) (ha : H a = some o) (n : ∀ xs, o ≠ .tup xs) : NK (upd H a o2) v k := NK.mono (fun b xs e => by rw [upd_ne (fun z => by rw [z, ha] at e; cases e; exact n _ rfl)]; exact e) _ _ h
theorem NKs.put {H : Hp} {vs : List V} {ks : List NestedKey} {a : Addr} {o o2 : HO} (h : NKs H vs ks) (ha : H a = some o) (n : ∀ xs, o ≠ .tup xs) : NKs (upd H a o2) vs ks := NKs.mono (fun b xs e => by rw [upd_ne (fun z => by rw [z, ha] at e; cases e; exact n _ rfl)]; exact e) _ _ h
theorem KeysN.same {H H' : Hp} {xs : List EnN} (h : KeysN H xs) (s : Same H H') : KeysN H' xs := h.mono fun b ys e => s b _ e
theorem KeysN.put {H : Hp} {xs : List EnN} {a : Addr} {o o2 : HO} (h : KeysN H xs) (ha : H a = some o) (n : ∀ ys, o ≠ .tup ys) : KeysN (upd H a o2) xs := h.mono fun b ys e => by rw [upd_ne (fun z => by rw [z, ha] at e; cases e; exact n _ rfl)]; exact e
/-- a key's value is an address where it is a tuple -/
theorem NK.ref {H : Hp} {v : V} {ks : List NestedKey} (h : NK H v (.tup ks)) : ∃ a xs, v = .ref a ∧ H a = some (.tup xs) ∧ NKs H xs ks := by
  cases h with
  | tup e r => exact ⟨_, _, rfl, e, r⟩
theorem getN_at {xs : List EnN} (nd : (xs.map (·.1)).Nodup) {i : Nat} {x : EnN} (h : xs[i]? = some x) : getN xs x.1 = some x.2.2 := by
  induction xs generalizing i with
  | nil => simp at h
  | cons y ys ih =>
    rw [List.map_cons, List.nodup_cons] at nd
    cases i with
    | zero =>
      simp at h
      subst h
      simp [getN, List.find?_cons]
    | succ j =>
      simp at h
      have hm : x.1 ∈ ys.map (·.1) := List.mem_map.mpr ⟨x, List.mem_of_getElem? h, rfl⟩
      have ne : ¬ y.1 = x.1 := fun e => nd.1 (e ▸ hm)
      have := ih nd.2 h
      simpa [getN, List.find?_cons, ne] using this
theorem getN_none {xs : List EnN} {k : NestedKey} : getN xs k = none ↔ k ∉ xs.map (·.1) := by
  unfold getN
  rw [Option.map_eq_none_iff, List.find?_eq_none]
  constructor
  · intro h hm
    obtain ⟨x, hx, rfl⟩ := List.mem_map.mp hm
    exact h x hx (decide_eq_true rfl)
  · intro h x hx e
    exact h (List.mem_map.mpr ⟨x, hx, of_decide_eq_true e⟩)
theorem putN_new {xs : List EnN} {k : NestedKey} {a : Addr} {v : V} (h : k ∉ xs.map (·.1)) : putN xs k a v = xs ++ [(k, a, v)] := by
  unfold putN
  rw [if_neg]
  rw [getN_none.mpr h]
  simp
end Fab
namespace Fab
open PySem L2 PyProof.Rows
structure DcL (H : Hp) (ks : List NestedKey) (ls : List Addr) (xs : List EnN) : Prop where
  keys : KeysN H xs
  fst : xs.map (·.1) = ks
  snd : xs.map (·.2.2) = ls.map V.ref
  nd : ks.Nodup
  ld : ls.Nodup
theorem sm_upd {H A : Hp} {a : Addr} {o : HO} (s : Same H A) (h : H a = none) : Same H (upd A a o) := fun b u e => by
  rw [upd_ne (fun z => by rw [z, h] at e; cases e)]
  exact s _ _ e
section
variable {H H' : Hp} {ks : List NestedKey} {ls : List Addr} {xs : List EnN}
theorem DcL.len (h : DcL H ks ls xs) : xs.length = ks.length ∧ ls.length = ks.length := by
  have l1 := congrArg List.length h.fst
  have l2 := congrArg List.length h.snd
  rw [List.length_map] at l1 l2
  rw [List.length_map] at l2
  omega
theorem DcL.mono (h : DcL H ks ls xs) (m : ∀ b ys, H b = some (.tup ys) → H' b = some (.tup ys)) : DcL H' ks ls xs := ⟨h.keys.mono m, h.fst, h.snd, h.nd, h.ld⟩
theorem DcL.same (h : DcL H ks ls xs) (s : Same H H') : DcL H' ks ls xs := h.mono fun b ys e => s b _ e
theorem DcL.put (h : DcL H ks ls xs) {a : Addr} {o o2 : HO} (ha : H a = some o) (n : ∀ ys, o ≠ .tup ys) : DcL (upd H a o2) ks ls xs := ⟨h.keys.put ha n, h.fst, h.snd, h.nd, h.ld⟩
theorem DcL.get (h : DcL H ks ls xs) {i : Nat} {k : NestedKey} (e : ks[i]? = some k) : ∃ l, ls[i]? = some l ∧ getN xs k = some (.ref l) := by
  have l := h.len
  have hi : i < ks.length := (List.getElem?_eq_some_iff.mp e).1
  have e1 : xs[i]? = some xs[i] := List.getElem?_eq_getElem (by omega)
  have e2 := getN_at (by rw [h.fst]; exact h.nd) e1
  have e3 : (xs.map (·.1))[i]? = some k := by rw [h.fst, e]
  rw [List.getElem?_map, e1] at e3
  have e4 : (xs.map (·.2.2))[i]? = (ls.map V.ref)[i]? := by rw [h.snd]
  rw [List.getElem?_map, e1, List.getElem?_map, List.getElem?_eq_getElem (show i < ls.length by omega)] at e4
  refine ⟨ls[i], List.getElem?_eq_getElem (by omega), ?_⟩
  have e5 : xs[i].1 = k := Option.some.inj e3
  have e6 : xs[i].2.2 = V.ref ls[i] := Option.some.inj e4
  rw [e5, e6] at e2
  exact e2
theorem DcL.at_ (h : DcL H ks ls xs) {i : Nat} {x : EnN} (e : xs[i]? = some x) : ks[i]? = some x.1 ∧ NK H (.ref x.2.1) x.1 ∧ x.1.depth ≤ 8 ∧ ∃ l, ls[i]? = some l ∧ x.2.2 = .ref l := by
  have l := h.len
  have hi : i < xs.length := (List.getElem?_eq_some_iff.mp e).1
  have k := h.keys x (List.mem_of_getElem? e)
  refine ⟨by rw [← h.fst, List.getElem?_map, e]; rfl, k.1, k.2, ls[i], List.getElem?_eq_getElem (by omega), ?_⟩
  have e4 : (xs.map (·.2.2))[i]? = (ls.map V.ref)[i]? := by rw [h.snd]
  rw [List.getElem?_map, e, List.getElem?_map, List.getElem?_eq_getElem (show i < ls.length by omega)] at e4
  exact Option.some.inj e4
theorem DcL.snoc (h : DcL H ks ls xs) {k : NestedKey} {q l : Addr} (hk : NK H (.ref q) k) (hd : k.depth ≤ 8) (nk : k ∉ ks) (nl : l ∉ ls) : putN xs k q (.ref l) = xs ++ [(k, q, .ref l)] ∧ DcL H (ks ++ [k]) (ls ++ [l]) (xs ++ [(k, q, .ref l)]) := by
  have e := putN_new (a := q) (v := V.ref l) (show k ∉ xs.map (·.1) by rw [h.fst]; exact nk)
  refine ⟨e, ⟨by rw [← e]; exact putN_keys h.keys hk hd, by rw [List.map_append, h.fst]; rfl, by rw [List.map_append, List.map_append, h.snd]; rfl, ?_, ?_⟩⟩
  · rw [List.nodup_append]
    exact ⟨h.nd, by simp, fun a ha b hb e => nk (by rw [List.mem_singleton] at hb; rw [← hb, ← e]; exact ha)⟩
  · rw [List.nodup_append]
    exact ⟨h.ld, by simp, fun a ha b hb e => nl (by rw [List.mem_singleton] at hb; rw [← hb, ← e]; exact ha)⟩
end
end Fab
namespace Fab
open PySem L2 PyProof.Rows
def SmX (d : Addr) (H H' : Hp) : Prop := ∀ a u, a ≠ d → H a = some u → H' a = some u
section
variable {H A B : Hp} {d a : Addr} {o : HO}
theorem SmX.start (h : H d = some o) {o2 : HO} : SmX d H (upd H d o2) := fun a u n e => by rw [upd_ne n]; exact e
theorem SmX.tr (h : SmX d H A) (s : Same A B) : SmX d H B := fun a u n e => s _ _ (h a u n e)
theorem SmX.of (s : Same H A) : SmX d H A := fun a u _ e => s _ _ e
theorem SmX.seq (h : SmX d H A) (s : SmX d A B) : SmX d H B := fun a u n e => s _ _ n (h a u n e)
theorem SmX.upd (h : SmX d H A) (n : H a = none) : SmX d H (upd A a o) := fun b u nb e => by
  rw [upd_ne (fun z => by rw [z, n] at e; cases e)]
  exact h _ _ nb e
theorem SmX.tup (h : SmX d H A) {w : World} {xs : List EnN} (hd : H d = some (dnO w d xs)) : ∀ b ys, H b = some (.tup ys) → A b = some (.tup ys) := fun b ys e => h _ _ (fun z => by rw [z, hd] at e; cases e) e
theorem SmX.lst (h : SmX d H A) {w : World} {xs : List EnN} (hd : H d = some (dnO w d xs)) : ∀ b ys, H b = some (.lst ys) → A b = some (.lst ys) := fun b ys e => h _ _ (fun z => by rw [z, hd] at e; cases e) e
end
theorem not_there {H A : Hp} {a : Addr} (s : Same H A) (h : A a = none) : H a = none := by
  cases e : H a with
  | none => rfl
  | some o => rw [s _ _ e] at h; cases h
end Fab
namespace Fab
open PySem L2 PyProof.Rows
end Fab
set_option maxHeartbeats 4000000
namespace Fab
open PySem L2 PySem.Spec PyProof.Rows
/-- a new list behind a walk, as it stands -/
theorem list_laid {X : Cx} {pins : List (Addr × Obj)} {σ : L2.St} {H : Hp} {s : Shared} {h' : Heap} {tk c : Nat} {acc : Array Value} {xs : List V} (I : L2.Inv X pins σ H s) (hk : ∀ b o, s.heap.get? b = some o → h'.get? b = some o)
    (hS : h'.get? s.heap.objs.size = some { cls := .type "list", dict := none, data := .seq acc c, slots := #[] }) (hl : xs.length ≤ sizeLine) (hv : Vals xs acc.toList) :
    L2.Inv X pins σ (upd H s.heap.objs.size (.lst xs)) { s with heap := h', toks := tk } :=
  I.laid (t' := tk) hk (Nat.le_refl _) ⟨hl, acc.toList, c, hv, by rw [Array.toArray_toList]; exact hS⟩
end Fab
set_option maxHeartbeats 4000000
namespace Fab
open PySem L2 PySem.Spec PyProof.Rows
section
variable {X : Cx} {k v : Expr} {tk tv : TE} {pos : Pos}
def tDDispN (w : World) (tk tv : TE) : TE := fun σ H Q => ∀ p, H p = none → tk σ (upd H p (dnO w p [])) fun y H1 => tv σ H1 fun z H2 => H2 p = some (dnO w p []) ∧ ∃ k q, y = .ref q ∧ NK H2 (.ref q) k ∧ k.depth ≤ 8 ∧ Q (.ref p) (upd H2 p (dnO w p [(k, q, z)]))
theorem pe_ddispN (hu : X.A.units + 9 < cLine) (hk : PE X k tk) (hv : PE X v tv) : PE X (.Dict [some k] [v] pos) (tDDispN X.w tk tv) := by
  refine ⟨fun pins s σ H Q I q => ?_⟩
  have hn := I.hok.fresh (Nat.le_refl s.heap.objs.size)
  have I1 := I.laid (a := s.heap.objs.size) (o := dnO X.w s.heap.objs.size []) (h' := s.heap.push { cls := .type "dict", data := .dict #[] }) (t' := s.toks) (fun _ _ q => Heap.get?_push_of_some _ q) (Nat.le_refl _) (dn_empty s.heap I.big)
  have hp : (pairTrees [some k] [v] X.env pos).length = 1 := pairTrees_length [some k] [v] X.env pos rfl rfl
  rw [arm_eval_Dict, zip_pairTrees [some k] [v] X.env pos rfl rfl, dictDisplay_pairs (pairTrees [some k] [v] X.env pos) (fun e => by rw [e] at hp; cases hp) (by omega)]
  refine wpAny_bind (wpAny_standAt (wpAny_bind ?_))
  unfold subDict
  refine wpAny_bind (wpAny_alloc ?_)
  refine wpAny_bind (wpAny_holding ?_)
  rw [if_pos (by rw [hp]; decide)]
  refine wpAny_bind (pairTrees_cons_walk (thn (hk.run pins _ σ _ _ I1 (q _ hn)) fun u s1 ⟨x, H1, I2, rx, q1⟩ => thn (hv.run pins s1 σ H1 _ I2 q1) fun w2 s2 ⟨y, H2, I3, ry, hd, kk, b, ex, hb, dk, q2⟩ => pairTrees_nil_walk ?_))
  subst ex
  obtain rfl : u = Value.ref b := rx
  refine wpAny_holding ?_
  refine wpAny_bind ?_
  rw [List.forIn_cons]
  refine wpAny_bind (wpAny_bind (dn_dictSet hu I3 hd (fun x hx => (nomatch hx)) (by decide) hb dk ry fun s' I4 => wpAny_pure ?_))
  dsimp only
  rw [List.forIn_nil]
  exact wpAny_pure (wpAny_pure (wpAny_pure (wpAny_pure ⟨.ref _, _, I4, rfl, q2⟩)))
end
theorem walks_rawKeys {prog : Program} {w : World} {A : Around} (hh : A.handled = none) (I d : Addr) (hne : d ≠ I) {o : Obj} {es : Array DictEntry} {ep : Nat} (hod : o.data = .dict es ep) :
    Walks prog w A I [I, d] [I] es.size (fun i v => ∃ en, es[i]? = some en ∧ v = en.key) (fun i h => h.IsKeyIter I d i es.size ep ∧ h.get? d = some o) where
  sub := fun b hb => by simp at hb; simp [hb]
  frame := fun _ _ _ st hk => ⟨st.1.at fun o e => hk I (by simp) o e, hk d (by simp) _ st.2⟩
  item := fun i s Q E hi st hQ => by
    obtain ⟨en, hen⟩ : ∃ en, es[i]? = some en := ⟨es[i], by simp [hi]⟩
    refine next_key_item st.1 st.2 hod rfl hen fun h' st' sb => ?_
    exact hQ en.key h' s.toks ⟨en, hen, rfl⟩ ⟨st', (sb.2 d hne).trans st.2⟩ fun b o hb e => (sb.2 b (fun h => hb (by simp [h]))).trans e
  done := fun s Q E st hQ => next_key_end hh st.1 st.2 hod rfl (Nat.le_refl _) fun h' he' => hQ h' s.toks fun b o hb e => he' b o (fun h => hb (by simp [h])) e
  self := fun _ _ _ _ st hQ => wpAny_pyIter_keyiter st.1 hQ
theorem kdl_raw {prog : Program} {w : World} {d : Addr} {o : Obj} {es : Array DictEntry} {ep : Nat} (lo : (d == sysModules) = false) (hx : o.ExactDict) (hod : o.data = .dict es ep) :
    PySem.W.KdlSrc prog w "dict" d d es.size (fun i v => ∃ en, es[i]? = some en ∧ v = en.key) (fun h => h.get? d = some o) where
  type := fun _ hm => ⟨o, hm, hx.1⟩
  there := fun _ hm => ⟨Heap.lt_size hm, Heap.lt_size hm⟩
  keep := fun _ _ hm hk => hk d (.inl rfl) _ hm
  notList := by decide
  notTuple := by decide
  hint := fun _ _ _ _ hm hq => PySem.W.kdl_hint_dict ⟨o, hm, hx.1⟩ hq
  iter := fun A s hh hm => ⟨_, _, (fun _ _ hq => iter_keys lo hm hx hod hq), walks_rawKeys hh _ d (Nat.ne_of_lt (Heap.lt_size hm)) hod, ⟨⟨_, Heap.get?_push_size _ rfl, rfl, rfl⟩, Heap.get?_push_of_some _ hm⟩⟩
def rListN (w : World) : List V → Hp → VK → Prop := fun vs H Q => ∃ (d : Addr) (xs : List EnN), vs = [.ref d] ∧ H d = some (dnO w d xs) ∧ ∀ p, H p = none → Q (.ref p) (upd H p (.lst (xs.map fun e => V.ref e.2.1)))
theorem cr_listN {X : Cx} (hcalm : X.calm = true) : CallR X (.type "list") (rListN X.w) := by
  intro pins s σ H vs us Q I r want
  obtain ⟨d, xs, rfl, hd, q⟩ := want
  rw [Vals.ref1 r]
  obtain ⟨⟨z, hs, ys, pr, o, es, ep, ho, hx, hdt, he, _⟩, rst⟩ := I.hok d _ hd
  have l1 : es.size = ys.length := by rw [← Array.length_toList, he, List.length_map]
  have l2 : xs.length = ys.length := Paired.length pr
  refine PySem.W.kdl_call (kdl_raw (o := o) (es := es) (ep := ep) hs hx hdt) (I.ok.hd hcalm) ho (by omega) fun h' tk acc c hk hS hacc => ?_
  have hv : Vals (xs.map fun e => V.ref e.2.1) acc.toList := by
    have la : acc.toList.length = xs.length := by rw [Array.length_toList, hacc.1]; omega
    have at_ : ∀ (j : Nat) (v : Value), acc.toList[j]? = some v → ∃ e, xs[j]? = some e ∧ v = .ref e.2.1 := fun j v ej => by
      obtain ⟨en, e1, rfl⟩ := hacc.2 j v (by rw [← Array.getElem?_toList]; exact ej)
      have lj : j < xs.length := by
        have := (List.getElem?_eq_some_iff.mp ej).1
        omega
      obtain ⟨b, hb, e2, e3, _⟩ := paired_get pr (i := j) (a := xs[j]) (List.getElem?_eq_getElem lj)
      refine ⟨xs[j], List.getElem?_eq_getElem lj, ?_⟩
      have : es[j]? = some (enNE X.w b) := by
        rw [← Array.getElem?_toList, he, List.getElem?_map, hb]
        rfl
      rw [this] at e1
      cases e1
      show Value.ref b.2.1 = _
      rw [e3]
    clear hS hacc he l1 l2 pr hd z q rst
    generalize acc.toList = l at la at_
    induction xs generalizing l with
    | nil =>
      cases l with
      | nil => exact .nil
      | cons _ _ => cases la
    | cons x xs ih =>
      cases l with
      | nil => cases la
      | cons v l =>
        obtain ⟨e, e1, rfl⟩ := at_ 0 v rfl
        cases e1
        exact .cons rfl (ih l (by simpa using la) fun j v ej => at_ (j + 1) v ej)
  exact ⟨.ref _, _, list_laid (tk := tk) I hk hS (by rw [List.length_map]; omega) hv, rfl, q _ (I.hok.fresh (Nat.le_refl _))⟩
end Fab
set_option maxHeartbeats 2000000
namespace Fab
open PySem L2 PySem.FabX
theorem Same.tr2 {H H1 H2 : Hp} (a : Same H H1) (b : Same H1 H2) : Same H H2 := fun x o h => b _ _ (a _ _ h)
abbrev sWk : Stmt := top 29
local macro_rules | `(tactic| walk_at "s") => `(tactic| simp [tSeq, tAsg, tOp, tUn, tVar, tC, gName, tCons, tNil, tCB, tCall, rI, rI0, rU, tRet, tDrop, tIfS, tNext, tIf, tTest, tNot, tOr, tAnd, tB, L2.start, CMul, CDiv, rIxF, rLenF, rIntF, sq_lst, sq_tup, tLstF, tTupF, gSub, rCatF, rCatTF, rInF, rNe, rEq, tAndV, tOrV, tNotV, tChain, rTupF, rListF, tFldF, tRx, tMake, tMeth, tSl, tPart, tNoPart, rSlTF, rSlF, tRevTF, gTup, gCons, gNil, rIsB, rNotB, tLM, rAppF, tLstRgF, tRg2, tLstRg, iRng1, iRng2])
/-- a row as a key -/
def keyR (ws : List Int) : NestedKey := .tup (ws.map NestedKey.num)
/-- the distances of rows of n, as far as a walk by layers asks -/
structure Lay (n : Nat) (D : List Int → Nat) (M : Nat) : Prop where
  zero : D (firstI n) = 0
  only : ∀ w, IsRow w n → D w = 0 → w = firstI n
  step : ∀ w i j, IsRow w n → i ≤ j → j < n → D (turnL w i j) ≤ D w + 1
  back : ∀ w, IsRow w n → 0 < D w → ∃ i j, i ≤ j ∧ j < n ∧ D (turnL w i j) + 1 = D w
  bd : ∀ w, IsRow w n → D w ≤ M
  all : ∃ A : List (List Int), A.length ≤ 4000 ∧ ∀ w, IsRow w n → w ∈ A
theorem keyR_inj {a b : List Int} (h : keyR a = keyR b) : a = b := by
  unfold keyR at h
  injection h with h
  have key : ∀ {a b : List Int}, a.map NestedKey.num = b.map NestedKey.num → a = b := by
    intro a
    induction a with
    | nil =>
      intro b h
      cases b with
      | nil => rfl
      | cons _ _ => cases h
    | cons x a ih =>
      intro b h
      cases b with
      | nil => cases h
      | cons y b =>
        rw [List.map_cons, List.map_cons] at h
        injection h with h1 h2
        injection h1 with h1
        rw [h1, ih h2]
  exact key h
theorem keyR_depth (w : List Int) : (keyR w).depth ≤ 8 := by
  have key : ∀ w : List Int, NestedKey.depthAll (w.map NestedKey.num) ≤ 0 := by
    intro w
    induction w with
    | nil => simp [NestedKey.depthAll]
    | cons x w ih => rw [List.map_cons, NestedKey.depthAll]; simp [NestedKey.depth] at ih ⊢; omega
  have := key w
  rw [keyR, NestedKey.depth]
  omega
theorem keyR_at {H : Hp} {a : Addr} {w : List Int} (h : H a = some (.tup (w.map V.int))) : NK H (.ref a) (keyR w) := by
  refine .tup h ?_
  clear h
  induction w with
  | nil => exact .nil
  | cons x w ih => exact .cons (.int _) ih
theorem len_in {α : Type} [DecidableEq α] : ∀ {R A : List α}, R.Nodup → (∀ v ∈ R, v ∈ A) → R.length ≤ A.length
  | [], _, _, _ => Nat.zero_le _
  | r :: R, A, nd, h => by
    obtain ⟨n1, n2⟩ := List.nodup_cons.mp nd
    have hr := h r List.mem_cons_self
    have := len_in (R := R) (A := A.erase r) n2 fun v hv => (List.mem_erase_of_ne (by rintro rfl; exact n1 hv)).mpr (h v (List.mem_cons_of_mem _ hv))
    rw [List.length_erase_of_mem hr] at this
    have pos := List.length_pos_of_mem hr
    rw [List.length_cons]
    omega
/-- the dict as it stands: its keys the rows R -/
structure FdR (H : Hp) (D : List Int → Nat) (xs : List EnN) (R : List (List Int)) : Prop where
  fst : xs.map (·.1) = R.map keyR
  val : ∀ e ∈ xs, ∃ v, e.1 = keyR v ∧ e.2.2 = .int (D v : Nat)
  keys : KeysN H xs
  nd : R.Nodup
theorem FdR.get {H : Hp} {D : List Int → Nat} {xs : List EnN} {R : List (List Int)} (h : FdR H D xs R) (v : List Int) : getN xs (keyR v) = if v ∈ R then some (.int (D v : Nat)) else none := by
  by_cases hv : v ∈ R
  · rw [if_pos hv]
    have hm : keyR v ∈ xs.map (·.1) := by rw [h.fst]; exact List.mem_map.mpr ⟨v, hv, rfl⟩
    cases e : getN xs (keyR v) with
    | none => exact absurd hm (getN_none.mp e)
    | some y =>
      unfold getN at e
      obtain ⟨x, hx, rfl⟩ := Option.map_eq_some_iff.mp e
      have k1 : x.1 = keyR v := of_decide_eq_true (List.find?_some (p := fun x : EnN => decide (x.1 = keyR v)) hx)
      obtain ⟨u, h1, h2⟩ := h.val x (List.mem_of_find?_eq_some hx)
      have : u = v := keyR_inj (h1.symm.trans k1)
      subst this
      rw [h2]
  · rw [if_neg hv]
    refine getN_none.mpr ?_
    rw [h.fst]
    intro hm
    obtain ⟨u, hu, e⟩ := List.mem_map.mp hm
    exact hv (keyR_inj e ▸ hu)
theorem FdR.same {H H' : Hp} {D : List Int → Nat} {xs : List EnN} {R : List (List Int)} (h : FdR H D xs R) (s : ∀ b ys, H b = some (.tup ys) → H' b = some (.tup ys)) : FdR H' D xs R := ⟨h.fst, h.val, h.keys.mono s, h.nd⟩
theorem FdR.snoc {H : Hp} {D : List Int → Nat} {xs : List EnN} {R : List (List Int)} (h : FdR H D xs R) {v : List Int} {a : Addr} (ha : H a = some (.tup (v.map V.int))) (hv : v ∉ R) : putN xs (keyR v) a (.int (D v : Nat)) = xs ++ [(keyR v, a, .int (D v : Nat))] ∧ FdR H D (xs ++ [(keyR v, a, .int (D v : Nat))]) (R ++ [v]) := by
  have hn : keyR v ∉ xs.map (·.1) := by
    rw [h.fst]
    intro hm
    obtain ⟨u, hu, e⟩ := List.mem_map.mp hm
    exact hv (keyR_inj e ▸ hu)
  refine ⟨putN_new hn, by rw [List.map_append, List.map_append, h.fst]; rfl, fun e he => ?_, fun e he => ?_, ?_⟩
  · rcases List.mem_append.mp he with z | z
    · exact h.val e z
    · rw [List.mem_singleton.mp z]
      exact ⟨v, rfl, rfl⟩
  · rcases List.mem_append.mp he with z | z
    · exact h.keys e z
    · rw [List.mem_singleton.mp z]
      exact ⟨keyR_at ha, keyR_depth v⟩
  · rw [List.nodup_append]
    exact ⟨h.nd, by simp, fun x hx y hy e => by rw [List.mem_singleton] at hy; subst hy; subst e; exact hv hx⟩
/-- rows as they stand in a list -/
def RwT (H : Hp) : List V → List (List Int) → Prop := Paired fun v w => ∃ a, v = .ref a ∧ H a = some (.tup (w.map V.int))
theorem RwT.keep {H H' : Hp} {us : List V} {R : List (List Int)} (h : RwT H us R) (s : ∀ b ys, H b = some (.tup ys) → H' b = some (.tup ys)) : RwT H' us R := Paired.mapP h fun _ _ ⟨a, e, h⟩ => ⟨a, e, s _ _ h⟩
theorem RwT.get {H : Hp} {us : List V} {R : List (List Int)} (h : RwT H us R) {i : Nat} {v : V} (hv : us[i]? = some v) : ∃ w, R[i]? = some w ∧ ∃ a, v = .ref a ∧ H a = some (.tup (w.map V.int)) := by
  unfold RwT at h
  induction h generalizing i with
  | nil => cases hv
  | cons e _ ih =>
    cases i with
    | zero =>
      cases hv
      exact ⟨_, rfl, e⟩
    | succ i => exact ih hv
section
variable {P : Program} {w : World} {K : PySem.W.Frag} {mg : Str → Option Value} {base : Heap}
def spWk (w : World) : Sp := fun vs H Q _ => ∃ (n M : Nat) (D : List Int → Nat), vs = [.int (n : Nat)] ∧ n ≤ 24 ∧ Lay n D M ∧ ∀ (d : Addr) (xs : List EnN) (H' : Hp), Same H H' → H' d = some (dnO w d xs) → KeysN H' xs → (∀ v, IsRow v n → getN xs (keyR v) = some (.int (D v : Nat))) → (∀ e ∈ xs, ∃ v, IsRow v n ∧ e.1 = keyR v) → (xs.map (·.1)).Nodup → Q (.ref d) H'
theorem scWk : FnScope ["many", "start", "found", "layer", "number", "later", "waggons", "first", "last", "near"] ["many"] (defScope sWk) := ⟨rfl, rfl, rfl, by decide +kernel, rfl, by decide +kernel, by decide +kernel⟩
theorem ok_wk {f fT : Addr} {fd fdT : FuncData} (F : Fun K "_law_walked" "_law_walked" sWk f fd) (B : Blt mg) (cTurn : Dn P w K mg base 1 "_law_turn" fT fdT ["waggons", "first", "last"] spLTurn) : FnOk P w K mg base CX0 2 f fd ["many"] (spWk w) := by
  refine F.ok scWk (fun vs H Q E h => ?_) (fun cdv A outer s H vs Q E hr h => ?_)
  · obtain ⟨n, M, D, rfl, _⟩ := h
    rfl
  · obtain ⟨n, M, D, rfl, hn, L, k⟩ := h
    have hu9 : (A.deeper (PyProof.Rows.envOfC "_law_walked" (defScope sWk) s.heap.objs.size f cdv)).units + 9 < cLine := by
      have := hr.un
      omega
    refine ⟨_, (pss_cons (ps_set (i := 1) scWk.nd rfl (by first | exact Or.inl rfl | exact Or.inr rfl) (pe_tupRg rfl (by rfl) B.tuple (prg_2 (by rfl) B.range pe_int (pe_op op_add (pv 0) pe_int))))
      (pss_cons (ps_par3 (i := 2) (j := 3) (l := 4) (by rfl) scWk.nd rfl rfl rfl (by decide) (by decide) (by decide) rfl rfl rfl (pa_cons (pe_ddispN hu9 (pv 1) pe_int) (pa_cons (pe_lstF (pa_cons (pv 1) pa_nil)) (pa_cons pe_int pa_nil))) (by rfl))
      (pss_cons (ps_while PassesOwn.never (pt_cmpR (op_neD hr.units) (pv 3) (pe_lstF pa_nil) (nomark _)) (pss_cons (ps_par (i := 5) (j := 4) (by rfl) scWk.nd rfl rfl (by decide) rfl rfl (pa_cons (pe_lstF pa_nil) (pa_cons (pe_op op_add (pv 4) pe_int) pa_nil)) (by rfl))
      (pss_cons (ps_for PassesOwn.never rfl (pi_list (pv 3)) (pg_name (i := 6) scWk.nd rfl (by first | exact Or.inl rfl | exact Or.inr rfl)) (pss_one (ps_for PassesOwn.never rfl (pi_range1 (by rfl) B.range (pa_cons (pv 0) pa_nil)) (pg_name (i := 7) scWk.nd rfl (by first | exact Or.inl rfl | exact Or.inr rfl)) (pss_one (ps_for PassesOwn.never rfl (pi_range2 (by rfl) B.range (pa_cons (pv 7) (pa_cons (pv 0) pa_nil))) (pg_name (i := 8) scWk.nd rfl (by first | exact Or.inl rfl | exact Or.inr rfl)) (pss_cons (ps_set (i := 9) scWk.nd rfl (by first | exact Or.inl rfl | exact Or.inr rfl) (pe_call cTurn.ok (hr.mono (by decide)) rfl cTurn.mgf cTurn.kp cTurn.bi .nil pass0 (pa_cons (pv 6) (pa_cons (pv 7) (pa_cons (pv 8) pa_nil)))))
      (pss_one (ps_if (pt_cmp (pc_dnotinN hu9 (pv 9) (pv 2)) (by rfl)) (pss_cons (ps_dputN hu9 (pv 2) (pv 9) (pv 4))
      (pss_one (ps_expr (pe_lm PySem.F.slot_list_append PySem.F.type_list_append appF (pv 5) (pa_cons (pv 9) pa_nil))))) pss_nil))))))))
      (pss_one (ps_set (i := 3) scWk.nd rfl (by first | exact Or.inl rfl | exact Or.inr rfl) (pv 5))))))
      (pss_one (ps_ret (pv 2)))))), ?_⟩
    obtain ⟨AL, lAL, hAL⟩ := L.all
    refine seq_nx (fun σ' H' => ∃ st : Addr, σ' = [some (.int (n : Nat)), some (.ref st), none, none, none, none, none, none, none, none] ∧ Same H H' ∧ H' st = some (.tup ((firstI n).map V.int))) (fun Z hZ => ?_) ?_
    · refine ⟨_, rfl, _, _, rfl, rfl, _, _, rfl, rfl, RgOk.of_le (by omega) (by omega) (by omega) (by omega), fun q hq => ?_⟩
      rw [rg_ints]
      exact hZ _ _ ⟨q, rfl, Same.new hq, upd_same⟩
    rintro σ1 H1 ⟨st, rfl, s1, hst⟩
    have lf : (firstI n).length = n := firstI_len n
    refine seq_nx (fun σ' H' => ∃ (d lo : Addr) (xs : List EnN), σ' = [some (.int (n : Nat)), some (.ref st), some (.ref d), some (.ref lo), some (.int ((0 : Nat) : Int)), none, none, none, none, none] ∧ Same H1 H' ∧ H1 d = none ∧ H' d = some (dnO w d xs) ∧ FdR H' D xs [firstI n] ∧ H' lo = some (.lst [.ref st])) (fun Z hZ => ?_) ?_
    · refine fun d hd => ⟨_, rfl, upd_same, keyR (firstI n), st, rfl, keyR_at (Same.new hd _ _ hst), keyR_depth _, ?_⟩
      have nst : st ≠ d := fun e => by rw [e, hd] at hst; cases hst
      have hstB : upd (upd H1 d (dnO w d [])) d (dnO w d [(keyR (firstI n), st, V.int 0)]) st = some (.tup ((firstI n).map V.int)) := by rw [upd_ne nst, upd_ne nst]; exact hst
      have sB : Same H1 (upd (upd H1 d (dnO w d [])) d (dnO w d [(keyR (firstI n), st, V.int 0)])) := sm_upd (Same.new hd) hd
      refine ⟨_, rfl, sz_le (by simp), view_new (VW.start (H := _)) fun lo A v => ⟨_, _, _, rfl, hZ _ _ ⟨d, lo, [(keyR (firstI n), st, V.int 0)], rfl, Same.tr2 sB v.fr, hd, v.fr _ _ upd_same, ⟨rfl, fun e he => ?_, fun e he => ?_, by simp⟩, v.facts.1⟩⟩⟩
      · rw [List.mem_singleton.mp he]
        exact ⟨firstI n, rfl, by rw [L.zero]; rfl⟩
      · rw [List.mem_singleton.mp he]
        exact ⟨keyR_at (v.fr _ _ hstB), keyR_depth _⟩
    rintro σ2 H2 ⟨d, lo, xs, rfl, s2, nd, hd2, F2, hlo⟩
    have rf : IsRow (firstI n) n := isRow_first n
    refine seq_q (fun σ' H' => ∃ (u3 u4 u5 u6 u7 u8 u9 : Option V) (xs : List EnN) (R : List (List Int)), σ' = [some (.int (n : Nat)), some (.ref st), some (.ref d), u3, u4, u5, u6, u7, u8, u9] ∧ Same H1 H' ∧ H' d = some (dnO w d xs) ∧ FdR H' D xs R ∧ (∀ v ∈ R, IsRow v n) ∧ ∀ v, IsRow v n → v ∈ R) (fun D2 eD2 hZ2 => ?_) ?_
    · refine ⟨fun m σ H' => ∃ (kk : Nat) (lo : Addr) (lu : List V) (u5 u6 u7 u8 u9 : Option V) (xs : List EnN) (R Ly : List (List Int)), kk + m = M + 2 ∧ σ = [some (.int (n : Nat)), some (.ref st), some (.ref d), some (.ref lo), some (.int (kk : Nat)), u5, u6, u7, u8, u9] ∧ Same H1 H' ∧ H' d = some (dnO w d xs) ∧ FdR H' D xs R ∧ H' lo = some (.lst lu) ∧ RwT H' lu Ly ∧ (∀ v ∈ R, IsRow v n ∧ D v ≤ kk) ∧ (∀ v, IsRow v n → D v ≤ kk → v ∈ R) ∧ (∀ v ∈ Ly, IsRow v n ∧ D v = kk) ∧ (∀ v, IsRow v n → D v = kk → v ∈ Ly),
        ⟨M + 2, 0, lo, [.ref st], none, none, none, none, none, xs, [firstI n], [firstI n], by omega, rfl, s2, hd2, F2, hlo, .cons ⟨st, rfl, s2 _ _ hst⟩ .nil, fun v hv => by rw [List.mem_singleton.mp hv]; exact ⟨rf, by rw [L.zero]; exact Nat.le_refl _⟩, fun v hv h0 => by rw [L.only v hv (by omega)]; exact List.mem_cons_self, fun v hv => by rw [List.mem_singleton.mp hv]; exact ⟨rf, L.zero⟩, fun v hv h0 => by rw [L.only v hv h0]; exact List.mem_cons_self⟩, ?_⟩
      rintro m σ A ⟨kk, lo, lu, u5, u6, u7, u8, u9, xs, R, Ly, ekm, rfl, sA, hdA, FA, hloA, hLy, r1, r2, l1, l2⟩
      have llu : lu.length = Ly.length := Paired.length hLy
      have dLy : ∀ {H' : Hp} {us : List V} {S : List (List Int)}, RwT H' us S → DpAll K H' us (NestedKey.datas (S.map keyR)) := fun {H' us S} h => by
        unfold RwT at h
        induction h with
        | nil => exact .nil
        | cons e _ ih =>
          obtain ⟨a, rfl, ha⟩ := e
          exact .cons (NK.dp _ _ (keyR_at ha)) ih
      have nkLy : NKs A lu (Ly.map keyR) := by
        clear l1 l2 llu dLy hloA
        unfold RwT at hLy
        induction hLy with
        | nil => exact .nil
        | cons e _ ih =>
          obtain ⟨a, rfl, ha⟩ := e
          exact .cons (keyR_at ha) ih
      have shL := nkLy.shp fun k hk => by
        obtain ⟨v, _, rfl⟩ := List.mem_map.mp hk
        exact keyR_depth v
      refine ⟨_, rfl, sz_le (by decide), view_new (VW.start (H := A)) fun y A1 w1 => ⟨_, .list (NestedKey.datas []), .lst (SqL.of (w1.fr _ _ hloA)) (NKs.dp _ _ (nkLy.same w1.fr)), .lst (SqL.of w1.facts.1) .nil, shL, by decide +kernel, _, rfl, ?_⟩⟩
      have eqv : PyData.eqv (.list (NestedKey.datas (Ly.map keyR))) (.list (NestedKey.datas [])) = Ly.isEmpty := by
        cases Ly with
        | nil => simp [NestedKey.datas, PyData.eqv, PyData.eqvAll]
        | cons _ _ => simp [NestedKey.datas, PyData.eqv, PyData.eqvAll]
      rw [eqv]
      have sA1 := Same.tr2 sA w1.fr
      cases eL : Ly.isEmpty with
      | true =>
        have e0 : Ly = [] := List.isEmpty_iff.mp eL
        have none_ : ∀ v, IsRow v n → D v < kk := by
          intro v
          have key : ∀ N v, IsRow v n → D v = kk + N → False := by
            intro N
            induction N with
            | zero => intro v hv h; have := l2 v hv (by omega); rw [e0] at this; cases this
            | succ N ih =>
              intro v hv h
              obtain ⟨i, j, hij, hj, h2⟩ := L.back v hv (by omega)
              exact ih (turnL v i j) (hv.turn hij) (by omega)
          intro hv
          exact Classical.byContradiction fun z => key (D v - kk) v hv (by omega)
        exact iteF (hZ2 _ _ ⟨_, _, _, _, _, _, _, xs, R, rfl, sA1, w1.fr _ _ hdA, FA.same fun _ _ e => w1.fr _ _ e, fun v hv => (r1 v hv).1, fun v hv => r2 v hv (Nat.le_of_lt (none_ v hv))⟩)
      | false =>
        have kM : kk ≤ M := by
          obtain ⟨v, hv⟩ := List.exists_mem_of_ne_nil Ly (fun e => by rw [e] at eL; cases eL)
          obtain ⟨h1, h2⟩ := l1 v hv
          have := L.bd v h1
          omega
        refine iteT ⟨fun σ' H' => ∃ m', m' < m ∧ ∃ (kk : Nat) (lo : Addr) (lu : List V) (u5 u6 u7 u8 u9 : Option V) (xs : List EnN) (R Ly : List (List Int)), kk + m' = M + 2 ∧ σ' = [some (.int (n : Nat)), some (.ref st), some (.ref d), some (.ref lo), some (.int (kk : Nat)), u5, u6, u7, u8, u9] ∧ Same H1 H' ∧ H' d = some (dnO w d xs) ∧ FdR H' D xs R ∧ H' lo = some (.lst lu) ∧ RwT H' lu Ly ∧ (∀ v ∈ R, IsRow v n ∧ D v ≤ kk) ∧ (∀ v, IsRow v n → D v ≤ kk → v ∈ R) ∧ (∀ v ∈ Ly, IsRow v n ∧ D v = kk) ∧ (∀ v, IsRow v n → D v = kk → v ∈ Ly), fun _ _ h => h, ?_⟩
        have hd1 := w1.fr _ _ hdA
        have F1 := FA.same fun _ _ e => w1.fr _ _ e
        have hlo1 := w1.fr _ _ hloA
        have hLy1 := hLy.keep fun _ _ e => w1.fr _ _ e
        refine seq_q (fun σ' H' => ∃ la : Addr, σ' = [some (.int (n : Nat)), some (.ref st), some (.ref d), some (.ref lo), some (.int ((kk + 1 : Nat) : Int)), some (.ref la), u6, u7, u8, u9] ∧ Same A1 H' ∧ A1 la = none ∧ H' la = some (.lst [])) (fun D3 eD3 hZ3 => ?_) ?_
        · exact ⟨sz_le (by decide), view_new (VW.start (H := A1)) fun la A3 w3 => ⟨_, rfl, _, _, rfl, rfl, _, _, rfl, hZ3 _ _ ⟨la, rfl, w3.fr, w3.own _ List.mem_cons_self, w3.facts.1⟩⟩⟩
        rintro σ3 A3 ⟨la, rfl, s3, nla, hla⟩
        -- what holds within the walk over a layer
        let Iv : Option V → Option V → Option V → Option V → (List (List Int) → Prop) → St → Hp → Prop := fun u6 u7 u8 u9 Pr σ H' => ∃ (xs : List EnN) (R Lt : List (List Int)) (tu : List V), σ = [some (.int (n : Nat)), some (.ref st), some (.ref d), some (.ref lo), some (.int ((kk + 1 : Nat) : Int)), some (.ref la), u6, u7, u8, u9] ∧ Same H1 H' ∧ H' d = some (dnO w d xs) ∧ FdR H' D xs R ∧ H' lo = some (.lst lu) ∧ RwT H' lu Ly ∧ H' la = some (.lst tu) ∧ RwT H' tu Lt ∧ (∀ v ∈ R, IsRow v n ∧ D v ≤ kk + 1) ∧ (∀ v, IsRow v n → D v ≤ kk → v ∈ R) ∧ (∀ v ∈ Lt, IsRow v n ∧ D v = kk + 1) ∧ (∀ v ∈ R, D v = kk + 1 → v ∈ Lt) ∧ Lt.length ≤ R.length ∧ Pr R
        have nlaH : H1 la = none := not_there sA1 nla
        refine seq_q (fun σ' H' => ∃ u6 u7 u8 u9 : Option V, Iv u6 u7 u8 u9 (fun R => ∀ v ∈ Ly, ∀ i j, i ≤ j → j < n → turnL v i j ∈ R) σ' H') (fun D4 eD4 hZ4 => ?_) ?_
        · have hlo3 := s3 _ _ hlo1
          refine ⟨_, rfl, lo, rfl, ⟨_, SqL.of hlo3⟩, ?_⟩
          refine for_it (walk_list (K := K) (a := lo) (xs := lu)) (fun a σ H' => ∃ u6 u7 u8 u9 : Option V, Iv u6 u7 u8 u9 (fun R => ∀ v ∈ Ly.take a, ∀ i j, i ≤ j → j < n → turnL v i j ∈ R) σ H')
            ⟨u6, u7, u8, u9, xs, R, [], [], rfl, Same.tr2 sA1 s3, s3 _ _ hd1, F1.same fun _ _ e => s3 _ _ e, hlo3, hLy1.keep fun _ _ e => s3 _ _ e, hla, .nil, fun v hv => ⟨(r1 v hv).1, by have := (r1 v hv).2; omega⟩, r2, fun v hv => (nomatch hv), fun v hv h => by have := (r1 v hv).2; omega, Nat.zero_le _, fun v hv => (nomatch hv)⟩ (fun a σ H' _ ⟨_, _, _, _, _, _, _, _, _, _, _, _, h, _⟩ => SqL.of h) ?_ ?_
          rotate_left
          · rintro σ H' ⟨u6, u7, u8, u9, h⟩
            rw [List.take_of_length_le (by omega)] at h
            exact hZ4 _ _ ⟨u6, u7, u8, u9, h⟩
          rintro a x σ B1 B2 ha ⟨u6, u7, u8, u9, xs, R, Lt, tu, rfl, sB, hdB, FB, hloB, hLyB, hlaB, hLt, q1, q2, q3, q4, q5, q6⟩ ⟨rfl, hx⟩
          obtain ⟨v, hv, rv, rfl, hrv⟩ := hLyB.get hx
          have mv := List.mem_of_getElem? hv
          obtain ⟨rv1, rv2⟩ := l1 v mv
          have lv := rv1.len
          have rvat : ∀ {H' : Hp}, RwT H' lu Ly → H' rv = some (.tup (v.map V.int)) := fun {H'} h => by
            obtain ⟨v', hv', r', e, h2⟩ := h.get hx
            rw [hv] at hv'
            cases hv'
            cases e
            exact h2
          have et : Ly.take (a + 1) = Ly.take a ++ [v] := by rw [List.take_succ, hv]; rfl
          refine ⟨_, rfl, (n : Int), rfl, by omega, by omega, ?_⟩
          rw [Int.toNat_natCast]
          refine for_it (walk_range (lo := 0) (n := n)) (fun i σ H' => ∃ u7 u8 u9 : Option V, Iv (some (.ref rv)) u7 u8 u9 (fun R => (∀ v ∈ Ly.take a, ∀ i j, i ≤ j → j < n → turnL v i j ∈ R) ∧ ∀ i', i' < i → ∀ j, i' ≤ j → j < n → turnL v i' j ∈ R) σ H')
            ⟨u7, u8, u9, xs, R, Lt, tu, rfl, sB, hdB, FB, hloB, hLyB, hlaB, hLt, q1, q2, q3, q4, q5, q6, fun i' h => absurd h (Nat.not_lt_zero _)⟩ (fun _ _ _ _ _ => True.intro) ?_ ?_
          rotate_left
          · rintro σ H' ⟨u7, u8, u9, xs, R, Lt, tu, e, h1, h2, h3, h4, h5, h6, h7, h8, h9, h10, h11, h12, h13, h14⟩
            refine ⟨_, u7, u8, u9, xs, R, Lt, tu, e, h1, h2, h3, h4, h5, h6, h7, h8, h9, h10, h11, h12, fun v' hv' i j hij hj => ?_⟩
            rw [et] at hv'
            rcases List.mem_append.mp hv' with z | z
            · exact h13 v' z i j hij hj
            · rw [List.mem_singleton.mp z]
              exact h14 i (by omega) j hij hj
          rintro i x σ C1 C2 hi ⟨u7, u8, u9, xs, R, Lt, tu, rfl, sC, hdC, FC, hloC, hLyC, hlaC, hLtC, q1, q2, q3, q4, q5, q6, q7⟩ ⟨rfl, rfl⟩
          dsimp only
          rw [show (0 : Int) + (i : Int) = ((i : Nat) : Int) by omega]
          refine ⟨_, rfl, _, rfl, _, _, rfl, ⟨by omega, by omega, by omega, by omega⟩, ?_⟩
          rw [show ((n : Int) - (i : Int)).toNat = n - i by omega]
          refine for_it (walk_range (lo := (i : Nat)) (n := n - i)) (fun t σ H' => ∃ u8 u9 : Option V, Iv (some (.ref rv)) (some (.int (i : Nat))) u8 u9 (fun R => ((∀ v ∈ Ly.take a, ∀ i j, i ≤ j → j < n → turnL v i j ∈ R) ∧ ∀ i', i' < i → ∀ j, i' ≤ j → j < n → turnL v i' j ∈ R) ∧ ∀ j, i ≤ j → j < i + t → turnL v i j ∈ R) σ H')
            ⟨u8, u9, xs, R, Lt, tu, rfl, sC, hdC, FC, hloC, hLyC, hlaC, hLtC, q1, q2, q3, q4, q5, ⟨q6, q7⟩, fun j h1 h2 => by omega⟩ (fun _ _ _ _ _ => True.intro) ?_ ?_
          rotate_left
          · rintro σ H' ⟨u8, u9, xs, R, Lt, tu, e, h1, h2, h3, h4, h5, h6, h7, h8, h9, h10, h11, h12, ⟨h13, h14⟩, h15⟩
            refine ⟨_, u8, u9, xs, R, Lt, tu, e, h1, h2, h3, h4, h5, h6, h7, h8, h9, h10, h11, h12, h13, fun i' hi' j hij hj => ?_⟩
            rcases Nat.lt_or_ge i' i with c | c
            · exact h14 i' c j hij hj
            · have : i' = i := by omega
              subst this
              exact h15 j hij (by omega)
          rintro t x σ E1 E2 ht ⟨u8, u9, xs, R, Lt, tu, rfl, sE, hdE, FE, hloE, hLyE, hlaE, hLtE, q1, q2, q3, q4, q5, ⟨q6, q7⟩, q8⟩ ⟨rfl, rfl⟩
          dsimp only
          rw [show (i : Int) + (t : Int) = ((i + t : Nat) : Int) by omega]
          have hjn : i + t < n := by omega
          obtain ⟨near, enear⟩ : ∃ near, near = turnL v i (i + t) := ⟨_, rfl⟩
          have rnear : IsRow near n := by rw [enear]; exact rv1.turn (by omega)
          have dnear : D near ≤ kk + 1 := by
            have := L.step v i (i + t) rv1 (by omega) hjn
            rw [rv2] at this
            rw [enear]
            exact this
          have lR : R.length ≤ 4000 := Nat.le_trans (len_in FE.nd fun v hv => hAL v (q1 v hv).1) lAL
          have lxs : xs.length = R.length := by
            have := congrArg List.length FE.fst
            rwa [List.length_map, List.length_map] at this
          have ltu : tu.length = Lt.length := Paired.length hLtE
          refine seq_q (fun σ' H' => ∃ q : Addr, σ' = [some (.int (n : Nat)), some (.ref st), some (.ref d), some (.ref lo), some (.int ((kk + 1 : Nat) : Int)), some (.ref la), some (.ref rv), some (.int (i : Nat)), some (.int ((i + t : Nat) : Int)), some (.ref q)] ∧ Same E2 H' ∧ H' q = some (.tup (near.map V.int))) (fun D5 eD5 hZ5 => ?_) ?_
          · refine ⟨_, rfl, _, rfl, _, rfl, rv, v, i, i + t, rfl, rvat hLyE, by omega, by omega, by omega, fun q H' s' hq => hZ5 _ _ ⟨q, rfl, s', by rw [enear]; exact hq⟩⟩
          rintro σ5 E3 ⟨q, rfl, s5, hq⟩
          have hd3' := s5 _ _ hdE
          have F3' := FE.same fun _ _ e => s5 _ _ e
          have hLy3 := hLyE.keep fun _ _ e => s5 _ _ e
          have hLt3 := hLtE.keep fun _ _ e => s5 _ _ e
          refine ⟨_, rfl, _, rfl, d, q, xs, keyR near, rfl, rfl, .inl hd3', F3'.keys, keyR_at hq, keyR_depth _, _, rfl, ?_⟩
          rw [F3'.get]
          have done : ∀ (R' : List (List Int)), (∀ v ∈ R, v ∈ R') → near ∈ R' → ((∀ v ∈ Ly.take a, ∀ i j, i ≤ j → j < n → turnL v i j ∈ R') ∧ ∀ i', i' < i → ∀ j, i' ≤ j → j < n → turnL v i' j ∈ R') ∧ ∀ j, i ≤ j → j < i + (t + 1) → turnL v i j ∈ R' := fun R' hs hn' => by
            refine ⟨⟨fun v' hv' i j hij hj => hs _ (q6 v' hv' i j hij hj), fun i' hi' j hij hj => hs _ (q7 i' hi' j hij hj)⟩, fun j h1 h2 => ?_⟩
            rcases Nat.lt_or_ge j (i + t) with c | c
            · exact hs _ (q8 j h1 c)
            · have : j = i + t := by omega
              rw [this, ← enear]
              exact hn'
          by_cases hin : near ∈ R
          · rw [if_pos hin]
            exact iteF ⟨_, _, xs, R, Lt, tu, rfl, Same.tr2 sE s5, hd3', F3', s5 _ _ hloE, hLy3, s5 _ _ hlaE, hLt3, q1, q2, q3, q4, q5, done R (fun _ h => h) hin⟩
          · rw [if_neg hin]
            have dk : D near = kk + 1 := by
              rcases Nat.lt_or_ge (D near) (kk + 1) with c | c
              · exact absurd (q2 near rnear (by omega)) hin
              · omega
            obtain ⟨ep, Fs⟩ := F3'.snoc hq hin
            have hla3 := s5 _ _ hlaE
            have hlo3' := s5 _ _ hloE
            refine iteT ⟨_, rfl, _, rfl, _, rfl, d, q, xs, keyR near, rfl, rfl, hd3', F3'.keys, sz_lt (by omega), keyR_at hq, keyR_depth _, ?_⟩
            rw [show (V.int ((kk + 1 : Nat) : Int)) = V.int (D near : Nat) by rw [dk], ep]
            have nlst : ∀ {b : Addr} {ys : List V}, E3 b = some (.lst ys) → b ≠ d := fun {b ys} h e => by rw [e, hd3'] at h; cases h
            have upl : ∀ {b : Addr} {ys : List V} (o : HO), E3 b = some (.lst ys) → upd E3 d o b = some (.lst ys) := fun {b ys} o h => by rw [upd_ne (nlst h)]; exact h
            have upt : ∀ (o : HO) (b : Addr) (ys : List V), E3 b = some (.tup ys) → upd E3 d o b = some (.tup ys) := fun o b ys h => by rw [upd_ne (fun e => by rw [e, hd3'] at h; cases h)]; exact h
            have hlad := nlst hla3
            refine ⟨_, rfl, la, rfl, _, upl _ hla3, _, rfl, la, _, rfl, rfl, tu, upl _ hla3, sz_lt (by omega), ?_⟩
            have nlo : lo ≠ la := fun e => by rw [← e, hlo1] at nla; cases nla
            have upt2 : ∀ (o : HO) (b : Addr) (ys : List V), E3 b = some (.tup ys) → upd (upd E3 d o) la (.lst (tu ++ [.ref q])) b = some (.tup ys) := fun o b ys h => by
              rw [upd_ne (fun e => by rw [e, hla3] at h; cases h)]
              exact upt o b ys h
            refine ⟨some (.int ((i + t : Nat) : Int)), some (.ref q), xs ++ [(keyR near, q, .int (D near : Nat))], R ++ [near], Lt ++ [near], tu ++ [.ref q], by rw [dk], sm_upd (sm_upd (Same.tr2 sE s5) nd) nlaH, by rw [upd_ne hlad.symm]; exact upd_same, Fs.same (upt2 _), by rw [upd_ne nlo]; exact upl _ hlo3', hLy3.keep (upt2 _), upd_same, Paired.snoc (hLt3.keep (upt2 _)) ⟨q, rfl, upt2 _ _ _ hq⟩, fun v' hv' => ?_, fun v' hv' h => List.mem_append_left _ (q2 v' hv' h), fun v' hv' => ?_, fun v' hv' h => ?_, by rw [List.length_append, List.length_append]; simp; omega, done _ (fun _ h => List.mem_append_left _ h) (by simp)⟩
            · rcases List.mem_append.mp hv' with z | z
              · exact q1 v' z
              · rw [List.mem_singleton.mp z]
                exact ⟨rnear, by omega⟩
            · rcases List.mem_append.mp hv' with z | z
              · exact q3 v' z
              · rw [List.mem_singleton.mp z]
                exact ⟨rnear, dk⟩
            · rcases List.mem_append.mp hv' with z | z
              · exact List.mem_append_left _ (q4 v' z h)
              · exact List.mem_append_right _ z
        rintro σ4 A4 ⟨u6, u7, u8, u9, xs4, R4, Lt, tu, rfl, s4, hd4, F4, _, _, hla4, hLt, q1, q2, q3, q4, _, q5⟩
        refine ⟨_, rfl, m - 1, by omega, kk + 1, la, tu, _, _, _, _, _, xs4, R4, Lt, by omega, rfl, s4, hd4, F4, hla4, hLt, q1, ?_, q3, fun v hv h => q4 v ?_ h⟩
        · intro v hv hle
          rcases Nat.lt_or_ge (D v) (kk + 1) with c | c
          · exact q2 v hv (by omega)
          · obtain ⟨i, j, hij, hj, h2⟩ := L.back v hv (by omega)
            have := q5 (turnL v i j) (l2 _ (hv.turn hij) (by omega)) i j hij hj
            rwa [turn_back hij (by rw [hv.len]; exact hj)] at this
        · obtain ⟨i, j, hij, hj, h2⟩ := L.back v hv (by omega)
          have := q5 (turnL v i j) (l2 _ (hv.turn hij) (by omega)) i j hij hj
          rwa [turn_back hij (by rw [hv.len]; exact hj)] at this
    rintro σ3 H3 ⟨u3, u4, u5, u6, u7, u8, u9, xs3, R3, rfl, s3, hd3, F3, q1, q2⟩
    refine ⟨_, rfl, k d xs3 H3 (Same.tr2 s1 s3) hd3 F3.keys (fun v hv => by rw [F3.get, if_pos (q2 v hv)]) (fun e he => ?_) ?_⟩
    · have : e.1 ∈ xs3.map (·.1) := List.mem_map.mpr ⟨e, he, rfl⟩
      rw [F3.fst] at this
      obtain ⟨v, hv, e2⟩ := List.mem_map.mp this
      exact ⟨v, q1 v hv, e2.symm⟩
    · rw [F3.fst]
      exact List.pairwise_map.mpr (F3.nd.imp fun h e => h (keyR_inj e))
end
end Fab
namespace Fab.Ring
/-- ends below M: far is the other end at the same joint, w the wished one; jt tells the joint -/
structure Ends (M : Nat) (far w jt : Nat → Nat) : Prop where
  fl : ∀ e, e < M → far e < M
  ff : ∀ e, e < M → far (far e) = e
  fn : ∀ e, e < M → far e ≠ e
  wl : ∀ e, e < M → w e < M
  ww : ∀ e, e < M → w (w e) = e
  wn : ∀ e, e < M → w e ≠ e
  jt : ∀ e e', e < M → e' < M → (jt e = jt e' ↔ e' = e ∨ e' = far e)
variable {M : Nat} {far w jt : Nat → Nat} {s : Nat}
def merge (c : Nat → Nat) : List (Nat × Nat) → Nat → Nat
  | [] => c
  | p :: r => merge (fun j => if c j = c p.2 then c p.1 else c j) r
theorem merge_keep : ∀ (l : List (Nat × Nat)) (c : Nat → Nat) {x y : Nat}, c x = c y → merge c l x = merge c l y
  | [], _, _, _, h => h
  | p :: r, c, x, y, h => merge_keep r _ (by rw [h])
theorem merge_eq : ∀ (l : List (Nat × Nat)) (c : Nat → Nat) {p : Nat × Nat}, p ∈ l → merge c l p.1 = merge c l p.2
  | q :: r, c, p, h => by
    rcases List.mem_cons.mp h with rfl | h
    · refine merge_keep r _ ?_
      show (if c p.1 = c p.2 then c p.1 else c p.1) = if c p.2 = c p.2 then c p.1 else c p.2
      rw [if_pos (rfl : c p.2 = c p.2)]
      split <;> rfl
    · exact merge_eq r _ h
def wsh (e : Nat) : Nat := if e % 2 = 0 then e + 1 else e - 1
/-- ph tells the end at a side, th the side of an end -/
structure Bij (m : Nat) (ph th : Nat → Nat) : Prop where
  pl : ∀ x, x < 2 * m → ph x < 2 * m
  tl : ∀ x, x < 2 * m → th x < 2 * m
  tp : ∀ x, x < 2 * m → th (ph x) = x
  pt : ∀ x, x < 2 * m → ph (th x) = x
theorem Bij.symm {m : Nat} {ph th : Nat → Nat} (b : Bij m ph th) : Bij m th ph := ⟨b.tl, b.pl, b.pt, b.tp⟩
abbrev jtB (th : Nat → Nat) (e : Nat) : Nat := th e / 2
/-- pairs of joints that a wished pair of ends ties -/
structure Links (m : Nat) (th : Nat → Nat) (l : List (Nat × Nat)) : Prop where
  of_ : ∀ p ∈ l, ∃ e, e < 2 * m ∧ p = (jtB th e, jtB th (wsh e))
  all_ : ∀ e, e < 2 * m → (jtB th e, jtB th (wsh e)) ∈ l ∨ (jtB th (wsh e), jtB th e) ∈ l
theorem Links.eq {m : Nat} {th : Nat → Nat} {l : List (Nat × Nat)} (L : Links m th l) {e : Nat} (h : e < 2 * m) : merge id l (jtB th e) = merge id l (jtB th (wsh e)) := by
  rcases L.all_ e h with h | h
  · exact merge_eq l id h
  · exact (merge_eq l id h).symm
/-- all joints of one colour -/
def cls (c : Nat → Nat) (m j : Nat) : List Nat := (List.range m).filter fun i => c i == c j
end Fab.Ring
namespace Fab.Part
open Fab.Ring
end Fab.Part
namespace Fab.Part
end Fab.Part
namespace Fab.All
/-- a put in at every place -/
def insA (a : Int) : List Int → List (List Int)
  | [] => [[a]]
  | b :: l => (a :: b :: l) :: (insA a l).map (b :: ·)
def allR : Nat → List (List Int)
  | 0 => [[]]
  | n + 1 => (allR n).flatMap fun w => insA ((n + 1 : Nat) : Int) w ++ insA (-((n + 1 : Nat) : Int)) w
theorem mem_insA (a : Int) (s t : List Int) : s ++ a :: t ∈ insA a (s ++ t) := by
  induction s with
  | nil =>
    cases t with
    | nil => simp [insA]
    | cons b l => simp [insA]
  | cons b s ih =>
    simp only [List.cons_append, insA]
    exact List.mem_cons_of_mem _ (List.mem_map.mpr ⟨_, ih, rfl⟩)
theorem mem_allR {n : Nat} : ∀ {w : List Int}, (w.map Int.natAbs).Perm (List.range' 1 n) → w ∈ allR n := by
  induction n with
  | zero =>
    intro w h
    have e : w.map Int.natAbs = [] := List.perm_nil.mp h
    rw [List.map_eq_nil_iff.mp e]
    simp [allR]
  | succ n ih =>
    intro w h
    have hm : n + 1 ∈ w.map Int.natAbs := h.mem_iff.mpr (List.mem_range'_1.mpr ⟨by omega, by omega⟩)
    obtain ⟨z, hz, ez⟩ := List.mem_map.mp hm
    obtain ⟨s, t, rfl⟩ := List.append_of_mem hz
    have h1 : ((s ++ t).map Int.natAbs).Perm (List.range' 1 n) := by
      rw [List.range'_1_concat, List.map_append, List.map_cons, ez] at h
      have h2 := (List.perm_middle.symm.trans h).trans (List.perm_append_comm)
      rw [Nat.add_comm 1 n] at h2
      rw [List.map_append]
      exact List.Perm.cons_inv h2
    have h3 := ih h1
    refine List.mem_flatMap.mpr ⟨_, h3, List.mem_append.mpr ?_⟩
    by_cases p : 0 ≤ z
    · have : z = ((n + 1 : Nat) : Int) := by omega
      subst this
      exact .inl (mem_insA _ s t)
    · have : z = -((n + 1 : Nat) : Int) := by omega
      subst this
      exact .inr (mem_insA _ s t)
end Fab.All
set_option maxHeartbeats 4000000
namespace Fab
open PySem PySem.Spec PyProof.Rows L2 PySem.W PySem.SeqAt Builtin
/-- v is a list of these ints -/
def IsLL (h : Heap) (v : Value) (ns : List Int) : Prop := ∃ (a : Addr) (items : Array Value), v = .ref a ∧ h.IsList a items ∧ IntsAre items.toList ns
theorem IsLL.keeps {h h' : Heap} {v : Value} {ns : List Int} (x : IsLL h v ns) (k : ∀ b o, v = .ref b → h.get? b = some o → h'.get? b = some o) : IsLL h' v ns := by
  obtain ⟨a, items, e, ⟨o, ho, hc⟩, i⟩ := x
  exact ⟨a, items, e, ⟨o, k _ _ e ho, hc⟩, i⟩
theorem IsLL.type {M : Model} {h : Heap} {v : Value} {ns : List Int} (x : IsLL h v ns) : Looks M h (typeOf v) (.type "list") := by
  obtain ⟨a, items, rfl, ⟨o, ho, hc, _⟩, i⟩ := x
  rw [← hc]
  exact (Looks.ld ho).andThen .now
end Fab
set_option maxHeartbeats 4000000
namespace Fab
open PySem PySem.Spec PyProof.Rows L2 PySem.W PySem.SeqAt Builtin
/-- v is a pair of these -/
def IsPr (h : Heap) (v : Value) (q : Nat × Nat) : Prop := ∃ (a : Addr) (t u : Tok), v = .ref a ∧ IsTup h a #[.int (q.1 : Nat) t, .int (q.2 : Nat) u]
inductive ArePr (h : Heap) : List Value → List (Nat × Nat) → Prop
  | nil : ArePr h [] []
  | cons {v vs q qs} : IsPr h v q → ArePr h vs qs → ArePr h (v :: vs) (q :: qs)
def IsCh (h : Heap) (v : Value) (c : List (Nat × Nat)) : Prop := ∃ (a : Addr) (items : Array Value), v = .ref a ∧ IsTup h a items ∧ ArePr h items.toList c
theorem IsPr.keeps {h h' : Heap} {v : Value} {q : Nat × Nat} (x : IsPr h v q) (k : ∀ b o, h.get? b = some o → h'.get? b = some o) : IsPr h' v q := by
  obtain ⟨a, t, u, e, o, ho, r⟩ := x
  exact ⟨a, t, u, e, o, k _ _ ho, r⟩
theorem ArePr.keeps {h h' : Heap} {vs : List Value} {qs : List (Nat × Nat)} (x : ArePr h vs qs) (k : ∀ b o, h.get? b = some o → h'.get? b = some o) : ArePr h' vs qs := by
  induction x with
  | nil => exact .nil
  | cons a _ ih => exact .cons (a.keeps k) ih
theorem IsCh.keeps {h h' : Heap} {v : Value} {c : List (Nat × Nat)} (x : IsCh h v c) (k : ∀ b o, h.get? b = some o → h'.get? b = some o) : IsCh h' v c := by
  obtain ⟨a, items, e, ⟨o, ho, r⟩, p⟩ := x
  exact ⟨a, items, e, ⟨o, k _ _ ho, r⟩, p.keeps k⟩
section
variable {prog : Program} {w : World} {A : Around} {E : Value → Shared → Prop} {s : Shared}
/-- where a chain begins -/
def hd0 (c : List (Nat × Nat)) : Nat := (c.head?.map (·.1)).getD 0
end
theorem refs_ofC : ∀ {ts : List Addr} {us : List Value}, Vals (ts.map V.ref) us → us = ts.map Value.ref
  | [], us, r => by
    rw [List.map_nil] at r
    cases r
    rfl
  | t :: ts, us, r => by
    rw [List.map_cons] at r
    cases r with
    | cons h q =>
      cases h
      rw [List.map_cons, ← refs_ofC q]
end Fab
set_option maxHeartbeats 4000000
namespace Fab
open PySem PySem.Spec PyProof.Rows L2 PySem.W PySem.SeqAt Builtin
section
variable {X : Cx}
/-- sorted(xs), xs data of one kind -/
def rSortD (K : PySem.W.Frag) {β : Type} (enc : β → PyData) : List V → Hp → VK → Prop := fun vs H Q => ∃ (a : Addr) (ts : List Addr) (bs : List β), vs = [V.ref a] ∧ SqL K H a (ts.map V.ref) ∧ EachIs (fun t b => Dp K H (.ref t) (enc b)) ts bs ∧ AllAlike (bs.map enc) ∧ (Sortable (bs.map enc) ∨ bs.length < 2 ∧ ∀ b ∈ bs, enc b ≠ .none) ∧ (∀ b ∈ bs, (enc b).depth ≤ 20) ∧
  ∀ (p : Addr) (us : List Addr), H p = none → EachIs (fun t b => Dp K H (.ref t) (enc b)) us (bs.mergeSort (dataLe false enc)) → Q (.ref p) (upd H p (.lst (us.map V.ref)))
theorem each_ref {β : Type} {R : Addr → β → Prop} : ∀ {ts : List Addr} {bs : List β}, EachIs R ts bs → EachIs (fun v b => ∃ t, v = Value.ref t ∧ R t b) (ts.map Value.ref) bs
  | _, _, .nil => .nil
  | _, _, .cons h t => .cons ⟨_, rfl, h⟩ (each_ref t)
theorem each_unref {β : Type} {R : Addr → β → Prop} : ∀ {vs : List Value} {bs : List β}, EachIs (fun v b => ∃ t, v = Value.ref t ∧ R t b) vs bs → ∃ ts : List Addr, vs = ts.map Value.ref ∧ EachIs R ts bs
  | _, _, .nil => ⟨[], rfl, .nil⟩
  | _, _, .cons ⟨t, e, h⟩ tl => by
    obtain ⟨ts, e2, h2⟩ := each_unref tl
    exact ⟨t :: ts, by rw [e, e2]; rfl, .cons h h2⟩
theorem each_dp {K : PySem.W.Frag} {H : Hp} {β : Type} {enc : β → PyData} : ∀ {ts : List Addr} {bs : List β}, EachIs (fun t b => Dp K H (.ref t) (enc b)) ts bs → DpAll K H (ts.map V.ref) (bs.map enc)
  | _, _, .nil => .nil
  | _, _, .cons h t => .cons h (each_dp t)
theorem keyLt_gen (x y : Value) : keyLt' general' x y = oneLt' false x y := rfl
/-- one value alone -/
theorem sorts_one {prog : Program} {w : World} {A : Around} {s : Shared} {vs : List Value} {ds : List PyData} (e : EachIs (fun v d => ∃ as, Reads s.heap v d as) vs ds) (hal : AllAlike ds) (hl : vs.length < 2) (hn : ∀ d ∈ ds, d ≠ .none) (hu : ∀ d, d ∈ ds → A.units + d.depth < cLine) : SortsAt prog w A s (dataKind s.heap ds) vs := by
  refine ⟨fun v hv => ?_, general', ?_, fun h2 => absurd h2 (by omega)⟩
  · obtain ⟨d, hd, as, r⟩ := e.left v hv
    exact ⟨_, dataKind_some hal hd r⟩
  · intro E x y a b Q ha hb hq
    obtain ⟨d, as, hd, ra, rfl⟩ := dataKind_inv ha
    obtain ⟨d', as', hd', rb, rfl⟩ := dataKind_inv hb
    rw [keyLt_gen]
    exact oneLt_alike (fun z => by cases z) ra rb (hal d hd d' hd') (hn d hd) (Nat.lt_of_le_of_lt (Nat.add_le_add_left (Nat.min_le_left _ _) _) (hu d hd)) hq
theorem cr_sortedD {β : Type} (enc : β → PyData) (hu : X.A.units + 64 < cLine) : CallR X (.builtin "sorted") (rSortD X.K enc) := by
  intro pins s σ H vs us Q I r h
  obtain ⟨a, ts, bs, rfl, hs, hk, hal, hso, hdp, q⟩ := h
  obtain ⟨its, rv, hl, hz⟩ := I.list hs
  rw [Vals.ref1 r]
  have ei : its = ts.map Value.ref := by
    have := refs_ofC rv
    exact this
  have e0 : EachIs (fun v b => ∃ t, v = Value.ref t ∧ Dp X.K H (.ref t) (enc b)) its bs := by rw [ei]; exact each_ref hk
  have er : ∀ h' : Heap, (∀ b o, s.heap.get? b = some o → h'.get? b = some o) → EachIs (fun v b => ∃ as, Reads h' v (enc b) as) its bs := fun h' kp => e0.mono fun v b ⟨t, ev, hd⟩ => by
    obtain ⟨as, rd⟩ := Dp.reads I (enc b) (.ref t) (.ref t) hd rfl
    exact ⟨as, by rw [ev]; exact Reads.keeps kp rd⟩
  have hl2 : its.length ≤ sizeLine := by rw [← rv.length]; exact hz
  have hk' : ∀ b o, s.heap.get? b = some o → (sortingHeap (copyHeap s.heap its) (s.heap.objs.size + 1) its).get? b = some o := fun b o g => sorting_copy_old g
  have hdep : ∀ d, d ∈ bs.map enc → X.A.in1.in1.units + d.depth < cLine := fun d hd => by
    obtain ⟨b, hb, rfl⟩ := List.mem_map.mp hd
    have := hdp b hb
    show X.A.units + 1 + 1 + (enc b).depth < cLine
    omega
  have heach := each_map enc (R := fun v d => ∃ as, Reads (sortingHeap (copyHeap s.heap its) (s.heap.objs.size + 1) its) v d as) (er _ hk')
  have hsa : SortsAt X.prog X.w X.A.in1.in1 { s with heap := sortingHeap (copyHeap s.heap its) (s.heap.objs.size + 1) its } (dataKind (sortingHeap (copyHeap s.heap its) (s.heap.objs.size + 1) its) (bs.map enc)) its := by
    rcases hso with hso | ⟨h2, hn⟩
    · exact SortsAt.data (s := { s with heap := sortingHeap (copyHeap s.heap its) (s.heap.objs.size + 1) its }) heach hal hso hdep
    · exact sorts_one (s := { s with heap := sortingHeap (copyHeap s.heap its) (s.heap.objs.size + 1) its }) heach hal (by rw [heach.length, List.length_map]; exact h2) (fun d hd => by
        obtain ⟨b, hb, rfl⟩ := List.mem_map.mp hd
        exact hn b hb) hdep
  refine sorted_vals (κ := dataKind (sortingHeap (copyHeap s.heap its) (s.heap.objs.size + 1) its) (bs.map enc)) hl.isList hsa hl2 ?_
  · have eo := sortVals_data false e0 (er _ hk') hal
    obtain ⟨out, e1, e2⟩ := each_unref eo
    have hlen := sortVals_length (κ := dataKind (sortingHeap (copyHeap s.heap its) (s.heap.objs.size + 1) its) (bs.map enc)) false (ks := its) (vs := its) rfl
    obtain ⟨ep, he'⟩ := PyProof.Rows.sortedAll_at s.heap its (sortVals (dataKind (sortingHeap (copyHeap s.heap its) (s.heap.objs.size + 1) its) (bs.map enc)) false its its).toArray
    have rvo : Vals (out.map V.ref) (sortVals (dataKind (sortingHeap (copyHeap s.heap its) (s.heap.objs.size + 1) its) (bs.map enc)) false its its) := by
      rw [e1]
      exact of_nts _
    have hlen2 : (out.map V.ref).length ≤ sizeLine := by
      rw [rvo.length, hlen]
      exact hl2
    exact ⟨.ref _, upd H (s.heap.objs.size + 1) (.lst (out.map V.ref)), I.laid (t' := s.toks) (fun _ _ => PyProof.Rows.sortedAll_old) (Nat.le_succ _) ⟨hlen2, _, ep, rvo, he'⟩, rfl, q _ _ (I.hok.fresh (Nat.le_succ _)) e2⟩
end
end Fab
set_option maxHeartbeats 2000000
namespace Fab
open PySem L2 PySem.FabX PySem.W
/-- w leads to the row onward in d turnings -/
def Rch (n : Nat) : Nat → List Int → Prop
  | 0, w => w = firstI n
  | d + 1, w => ∃ i j, i ≤ j ∧ j < n ∧ Rch n d (turnL w i j)
theorem least {p : Nat → Prop} (h : ∃ d, p d) : ∃ d, p d ∧ ∀ e, p e → d ≤ e := by
  obtain ⟨d, hd⟩ := h
  induction d using Nat.strongRecOn with
  | ind d ih =>
    by_cases c : ∃ e, e < d ∧ p e
    · obtain ⟨e, h1, h2⟩ := c
      exact ih e h1 h2
    · exact ⟨d, hd, fun e he => Nat.le_of_not_lt fun z => c ⟨e, z, he⟩⟩
open Classical in
noncomputable def dL (n : Nat) (w : List Int) : Nat := if h : ∃ d, Rch n d w then (least h).choose else 0
theorem dL_rch {n d : Nat} {w : List Int} (h : Rch n d w) : Rch n (dL n w) w ∧ dL n w ≤ d := by
  have hx : ∃ d, Rch n d w := ⟨d, h⟩
  unfold dL
  rw [dif_pos hx]
  exact ⟨(least hx).choose_spec.1, (least hx).choose_spec.2 d h⟩
theorem turn_bk {ws : List Int} {n i j : Nat} (h : IsRow ws n) (hij : i ≤ j) (hj : j < n) : turnL (turnL ws i j) i j = ws := turn_back hij (by rw [h.len]; exact hj)
theorem turn_head {w : List Int} {i j : Nat} (hij : i ≤ j) (hj : j < w.length) : (turnL w i j).take i = w.take i ∧ (turnL w i j)[i]? = some (0 - w[j]) := by
  have li : (w.take i).length = i := by rw [List.length_take]; omega
  unfold turnL
  rw [List.append_assoc]
  constructor
  · exact List.take_left' li
  · rw [List.getElem?_append_right (by omega), li, Nat.sub_self, List.getElem?_append_left (by simp; omega), List.getElem?_reverse (by simp; omega), List.getElem?_map, List.getElem?_take_of_lt (by simp; omega), List.getElem?_drop]
    have e : i + ((List.map (fun z => 0 - z) (List.take (j + 1 - i) (List.drop i w))).length - 1 - 0) = j := by simp; omega
    rw [e, List.getElem?_eq_getElem hj]
    rfl
theorem first_get {n i : Nat} (h : i < n) : (firstI n)[i]? = some ((i : Int) + 1) := by
  unfold firstI
  rw [List.getElem?_map, List.getElem?_range h]
  simp
  omega
theorem first_take {n k : Nat} (h : k ≤ n) : (firstI n).take k = firstI k := by
  unfold firstI
  rw [← List.map_take, List.take_range, Nat.min_eq_left h]
theorem rch_from {n : Nat} : ∀ (m k : Nat), k + m = n → ∀ {w : List Int}, IsRow w n → w.take k = firstI k → ∃ d, d ≤ 2 * m ∧ Rch n d w
  | 0, k, e, w, h, ht => ⟨0, Nat.le_refl _, by
    have : k = n := by omega
    subst this
    rw [List.take_of_length_le (by rw [h.len]; exact Nat.le_refl _)] at ht
    exact ht⟩
  | m + 1, k, e, w, h, ht => by
    have hm : k + 1 ∈ w.map Int.natAbs := h.mem_iff.mpr (List.mem_range'_1.mpr ⟨by omega, by omega⟩)
    obtain ⟨z, hz, ez⟩ := List.mem_map.mp hm
    obtain ⟨j, hj, rfl⟩ := List.getElem_of_mem hz
    have lw := h.len
    have kj : k ≤ j := Classical.byContradiction fun c => by
      have h1 : (w.take k)[j]? = some w[j] := by rw [List.getElem?_take_of_lt (by omega), List.getElem?_eq_getElem hj]
      rw [ht, first_get (by omega)] at h1
      have := Option.some.inj h1
      omega
    obtain ⟨t1, g1⟩ := turn_head kj hj
    have h1 := h.turn (j := j) kj
    have key : ∀ {v : List Int}, IsRow v n → v.take k = firstI k → v[k]? = some ((k : Int) + 1) → v.take (k + 1) = firstI (k + 1) := fun {v} hv a b => by
      rw [List.take_succ, a, b, ← first_take (n := k + 1) (k := k) (by omega)]
      have : (firstI (k + 1)).take (k + 1) = firstI (k + 1) := first_take (Nat.le_refl _)
      rw [List.take_succ, first_get (by omega)] at this
      exact this
    by_cases c : 0 - w[j] = ((k : Int) + 1)
    · obtain ⟨d, hd, r⟩ := rch_from m (k + 1) (by omega) h1 (key h1 (t1.trans ht) (by rw [g1, c]))
      exact ⟨d + 1, by omega, k, j, kj, by omega, r⟩
    · have c2 : w[j] = ((k : Int) + 1) := by omega
      have l1 := h1.len
      have hk : k < (turnL w k j).length := by omega
      obtain ⟨t2, g2⟩ := turn_head (Nat.le_refl k) hk
      have e1 : (turnL w k j)[k] = 0 - w[j] := by rw [List.getElem?_eq_getElem hk] at g1; exact Option.some.inj g1
      have h2 := h1.turn (j := k) (Nat.le_refl k)
      obtain ⟨d, hd, r⟩ := rch_from m (k + 1) (by omega) h2 (key h2 (t2.trans (t1.trans ht)) (by rw [g2, e1, c2]; simp))
      exact ⟨d + 2, by omega, k, j, kj, by omega, k, k, Nat.le_refl _, by omega, r⟩
theorem rch_all {n : Nat} (hn : n ≤ 5) {w : List Int} (h : IsRow w n) : ∃ d, d ≤ 12 ∧ Rch n d w := by
  obtain ⟨d, hd, r⟩ := rch_from n 0 (by omega) h rfl
  exact ⟨d, by omega, r⟩
theorem len_all : ∀ n : Nat, n ≤ 5 → (All.allR n).length ≤ 4000
  | 0, _ => by decide +kernel
  | 1, _ => by decide +kernel
  | 2, _ => by decide +kernel
  | 3, _ => by decide +kernel
  | 4, _ => by decide +kernel
  | 5, _ => by decide +kernel
  | n + 6, h => absurd h (by omega)
theorem lay_rows {n : Nat} (hn : n ≤ 5) : Lay n (dL n) 12 where
  zero := Nat.le_zero.mp (dL_rch (n := n) (d := 0) (w := firstI n) rfl).2
  only := fun w hw e => by
    obtain ⟨d, _, h⟩ := rch_all hn hw
    have := (dL_rch h).1
    rw [e] at this
    exact this
  step := fun w i j hw hij hj => by
    obtain ⟨d, _, h⟩ := rch_all hn hw
    refine (dL_rch (d := dL n w + 1) ?_).2
    exact ⟨i, j, hij, hj, by rw [turn_bk hw hij hj]; exact (dL_rch h).1⟩
  back := fun w hw h0 => by
    obtain ⟨d, _, h⟩ := rch_all hn hw
    have h1 := (dL_rch h).1
    obtain ⟨e, ee⟩ : ∃ e, dL n w = e + 1 := ⟨dL n w - 1, by omega⟩
    rw [ee] at h1
    obtain ⟨i, j, hij, hj, h2⟩ := h1
    refine ⟨i, j, hij, hj, ?_⟩
    have h3 := (dL_rch h2).2
    have h4 : dL n w ≤ dL n (turnL w i j) + 1 := (dL_rch (d := dL n (turnL w i j) + 1) ⟨i, j, hij, hj, (dL_rch h2).1⟩).2
    omega
  bd := fun w hw => by
    obtain ⟨d, hd, h⟩ := rch_all hn hw
    exact Nat.le_trans (dL_rch h).2 hd
  all := ⟨All.allR n, len_all n hn, fun w h => All.mem_allR h⟩
/-- the waggons that can stand behind these -/
def leftL (ah : List Int) (n : Nat) : List Int := ((List.range (2 * n + 1)).map fun k => ((k : Nat) : Int) - (n : Nat)).filter fun z => decide (z ≠ 0) && !((ah.map fun a => ((a.natAbs : Nat) : Int)).contains ((z.natAbs : Nat) : Int))
def begL (n : Nat) : Nat → List (List Int)
  | 0 => [[]]
  | p + 1 => (begL n p).flatMap fun ah => (leftL ah n).map fun z => ah ++ [z]
def rowsL (n : Nat) : List (List Int) := begL n n
def ascB : List (List Int) → Bool
  | [] => true
  | [_] => true
  | a :: b :: l => HT.lexLt a b && ascB (b :: l)
def goodB (n c : Nat) : Bool := ascB (rowsL n) && (rowsL n).all (fun v => (v.map Int.natAbs).isPerm (List.range' 1 n)) && decide ((rowsL n).length = c) && decide ((All.allR n).length = c)
def manyR : Nat → Nat
  | 0 => 1
  | 1 => 2
  | 2 => 8
  | 3 => 48
  | 4 => 384
  | _ => 3840
theorem good_all : ∀ n : Nat, n ≤ 5 → goodB n (manyR n) = true
  | 0, _ => by decide +kernel
  | 1, _ => by decide +kernel
  | 2, _ => by decide +kernel
  | 3, _ => by decide +kernel
  | 4, _ => by decide +kernel
  | 5, _ => by decide +kernel
  | n + 6, h => absurd h (by omega)
theorem lex_trans' {a b c : List Int} (h1 : HT.lexLt a b = true) (h2 : HT.lexLt b c = true) : HT.lexLt a c = true := (NtL.swo_lexL id).ltle h1 (NtL.lex_asym _ _ h2)
theorem asc_pair : ∀ {L : List (List Int)}, ascB L = true → L.Pairwise fun a b => HT.lexLt a b = true
  | [], _ => .nil
  | [a], _ => List.pairwise_singleton _ a
  | a :: b :: l, h => by
    simp only [ascB, Bool.and_eq_true] at h
    have ih := asc_pair h.2
    refine .cons (fun x hx => ?_) ih
    rcases List.mem_cons.mp hx with rfl | hx
    · exact h.1
    · exact lex_trans' h.1 ((List.pairwise_cons.mp ih).1 x hx)
theorem rows_facts {n : Nat} (hn : n ≤ 5) : (rowsL n).Pairwise (fun a b => HT.lexLt a b = true) ∧ (∀ v ∈ rowsL n, IsRow v n) ∧ (rowsL n).length = manyR n ∧ (rowsL n).Nodup ∧ ∀ v, IsRow v n → v ∈ rowsL n := by
  have h := good_all n hn
  simp only [goodB, Bool.and_eq_true, decide_eq_true_eq, List.all_eq_true] at h
  obtain ⟨⟨⟨h1, h2⟩, h3⟩, h4⟩ := h
  have p := asc_pair h1
  have r : ∀ v ∈ rowsL n, IsRow v n := fun v hv => List.isPerm_iff.mp (h2 v hv)
  have nd : (rowsL n).Nodup := p.imp fun {a b} q e => by
    rw [e] at q
    have z : HT.lexLt b b = false := (NtL.swo_lexL id).refl b
    rw [z] at q
    cases q
  refine ⟨p, r, h3, nd, fun v hv => Classical.byContradiction fun c => ?_⟩
  have := len_in (R := v :: rowsL n) (A := All.allR n) (List.nodup_cons.mpr ⟨c, nd⟩) fun u hu => by
    rcases List.mem_cons.mp hu with rfl | hu
    · exact All.mem_allR hv
    · exact All.mem_allR (r u hu)
  rw [List.length_cons, h3, h4] at this
  omega
def encI (v : List Int) : PyData := .tuple (v.map PyData.int)
theorem alikeAllI : ∀ a b : List Int, alikeAll (a.map PyData.int) (b.map PyData.int) = true
  | [], b => by cases b <;> simp [alikeAll]
  | _ :: _, [] => by simp [alikeAll]
  | x :: a, y :: b => by
    rw [List.map_cons, List.map_cons, alikeAll, alikeAllI a b]
    simp [alike]
theorem alikeI (a b : List Int) : alike (encI a) (encI b) = true := by
  unfold encI
  rw [alike]
  exact alikeAllI a b
theorem ltI : ∀ a b : List Int, dataLt (encI a) (encI b) = HT.lexLt a b
  | [], [] => by decide +kernel
  | [], y :: b => by
    unfold encI
    rw [dataLt_tuple]
    rfl
  | x :: a, [] => by
    unfold encI
    rw [dataLt_tuple]
    rfl
  | x :: a, y :: b => by
    have ih := ltI a b
    unfold encI at ih ⊢
    rw [dataLt_tuple] at ih ⊢
    rw [List.map_cons, List.map_cons, HT.lexLt_cons]
    by_cases c : x = y
    · rw [if_pos c, dataLt_all_yes (by simp [alike]) (by rw [c]; simp [PyData.eqv])]
      exact ih
    · rw [if_neg c, dataLt_all_no (by simp [alike]) (by simp only [PyData.eqv, beq_eq_false_iff_ne, ne_eq]; exact c), dataLt_int]
theorem lex_total : ∀ a b : List Int, HT.lexLt a b = false → HT.lexLt b a = false → a = b
  | [], [], _, _ => rfl
  | [], _ :: _, h, _ => by rw [HT.lexLt_nil_cons] at h; cases h
  | _ :: _, [], _, h => by rw [HT.lexLt_nil_cons] at h; cases h
  | x :: a, y :: b, h1, h2 => by
    rw [HT.lexLt_cons] at h1 h2
    by_cases c : x = y
    · rw [if_pos c] at h1
      rw [if_pos c.symm] at h2
      rw [c, lex_total a b h1 h2]
    · rw [if_neg c] at h1
      rw [if_neg (fun z => c z.symm)] at h2
      have h1 := of_decide_eq_false h1
      have h2 := of_decide_eq_false h2
      omega
/-- the rows in any order, sorted -/
theorem sort_rows {n : Nat} (hn : n ≤ 5) {R : List (List Int)} (nd : R.Nodup) (h1 : ∀ v ∈ R, IsRow v n) (h2 : ∀ v, IsRow v n → v ∈ R) : R.mergeSort (dataLe false encI) = rowsL n := by
  obtain ⟨p, r, _, nd2, al⟩ := rows_facts hn
  have pm : R.Perm (rowsL n) := (List.perm_ext_iff_of_nodup nd nd2).mpr fun v => ⟨fun h => al v (h1 v h), fun h => h2 v (r v h)⟩
  have le : ∀ a b : List Int, dataLe false encI a b = !HT.lexLt b a := fun a b => by
    show (!dataLt (encI b) (encI a)) = _
    rw [ltI]
  have hs : (R.mergeSort (dataLe false encI)).Pairwise fun a b => dataLe false encI a b = true := by
    refine List.pairwise_mergeSort (fun a b c x y => ?_) (fun a b => ?_) R
    · rw [le, Bool.not_eq_true'] at x y ⊢
      exact (NtL.swo_lexL id).tr _ _ _ x y
    · rw [le, le]
      cases q : HT.lexLt b a with
      | false => rfl
      | true =>
        rw [NtL.lex_asym _ _ q]
        rfl
  refine List.Perm.eq_of_pairwise (le := fun a b => dataLe false encI a b = true) (fun a b _ _ x y => ?_) hs (p.imp fun {a b} q => ?_) ((List.mergeSort_perm _ _).trans pm)
  · rw [le, Bool.not_eq_true'] at x y
    exact lex_total _ _ y x
  · rw [le, NtL.lex_asym _ _ q]
    rfl
end Fab
set_option maxHeartbeats 1000000
namespace Hu
open PySem
open PySem.Sem (wp)
def NoGen (fs : List Frame) : Prop := splitAtGen fs = none
theorem NoGen.split {fs : List Frame} (h : NoGen fs) : splitAtGen fs = none := h
theorem NoGen.nil : NoGen [] := rfl
theorem NoGen.tl {fs : List Frame} {f : Frame} (h : NoGen (f :: fs)) : NoGen fs := by
  cases f with
  | ret k h' g l c p kp =>
    have h : (splitAtGen fs).map _ = none := h
    exact Option.map_eq_none_iff.mp h
  | gen g k l c p => exact nomatch (show some _ = none from h)
theorem NoGen.app {fs gs : List Frame} (h : NoGen fs) (h2 : NoGen gs) : NoGen (fs ++ gs) := by
  induction fs with
  | nil => exact h2
  | cons f fs ih =>
    have h3 := ih h.tl
    cases f with
    | ret k h' g l c p kp =>
      show (splitAtGen (fs ++ gs)).map _ = none
      rw [show splitAtGen (fs ++ gs) = none from h3]
      rfl
    | gen g k l c p => exact nomatch (show some _ = none from h)
/-- as it is, but nothing can be had of it -/
def still : GenState → GenState
  | .suspended _ l c p fs cl => .suspended (fun _ => .unsupported "") l c p fs cl
  | x => x
def Sus : GenState → Prop
  | .suspended .. => True
  | _ => False
def Fine : GenState → Prop
  | .suspended _ _ _ _ fs _ => NoGen fs
  | _ => True
def FineE : End → Prop
  | .susp _ _ _ _ _ _ fs => NoGen fs
  | _ => True
theorem FineE.state {e : End} (h : FineE e) : Fine e.genState := by
  cases e with
  | ret _ => exact True.intro
  | susp _ _ _ _ _ _ _ => exact h
theorem still_seen (a : GenState) : (still a).seen = a.seen := by cases a <;> rfl
theorem still_bare (a : GenState) : (still a).bare = a.bare := by cases a <;> rfl
section
variable {M : Model}
theorem no_runs {Γ : Ctx} {p : Pos} {t : Sem PySem.Fin} {fs : List Frame} {s s' : Shared} {e : End} (h : Runs M Γ p t fs s e s') : ∀ x, t = .unsupported x → False := by
  induction h <;> intro x q <;> first
    | (cases q; done)
    | (rename_i ih _ ; exact ih x q)
    | (rename_i ih ; exact ih x q)
    | (rename_i ih _ _; exact ih x q)
structure Ok (F : Nat → Option GenState) (s : Shared) : Prop where
  held : ∀ i a, F i = some a → Sus a ∧ s.gens[i]? = some (still a)
  fine : ∀ i st, F i = none → s.gens[i]? = some st → Fine st
def rep (F : Nat → Option GenState) (G : Array GenState) : Array GenState := G.mapIdx fun i x => (F i).getD x
def real (F : Nat → Option GenState) (s : Shared) : Shared := { s with gens := rep F s.gens }
variable {F : Nat → Option GenState}
theorem rep_size (G : Array GenState) : (rep F G).size = G.size := by simp [rep]
theorem rep_get (G : Array GenState) (i : Nat) : (rep F G)[i]? = G[i]?.map fun x => (F i).getD x := by simp [rep]
theorem rep_set {G : Array GenState} {g : Nat} {x : GenState} (h : F g = none) : rep F (G.setIfInBounds g x) = (rep F G).setIfInBounds g x := by
  refine Array.ext_getElem? fun i => ?_
  rw [rep_get, Array.getElem?_setIfInBounds, Array.getElem?_setIfInBounds, rep_size, rep_get]
  by_cases c : g = i
  · subst c
    by_cases l : g < G.size
    · simp [l, h]
    · simp [l]
  · simp [c]
theorem rep_push {G : Array GenState} {x : GenState} (h : F G.size = none) : rep F (G.push x) = (rep F G).push x := by
  refine Array.ext_getElem? fun i => ?_
  rw [rep_get, Array.getElem?_push, Array.getElem?_push, rep_size, rep_get]
  by_cases c : i = G.size
  · subst c
    simp [h]
  · simp [c]
theorem Ok.top {s : Shared} (o : Ok F s) : F s.gens.size = none := by
  cases q : F s.gens.size with
  | none => rfl
  | some a =>
    have := (o.held _ _ q).2
    simp at this
theorem Ok.out {s : Shared} (o : Ok F s) {g : Nat} {st : GenState} (h : s.gens[g]? = some st) (n : ¬ Sus st) : F g = none := by
  cases q : F g with
  | none => rfl
  | some a =>
    obtain ⟨h1, h2⟩ := o.held _ _ q
    rw [h] at h2
    cases a <;> first | exact h1.elim | (cases h2; exact absurd True.intro n)
theorem Ok.push {s : Shared} (o : Ok F s) (c : Code) : Ok F { s with gens := s.gens.push (.fresh c) } where
  held := fun i a q => by
    obtain ⟨h1, h2⟩ := o.held i a q
    refine ⟨h1, ?_⟩
    show (s.gens.push _)[i]? = _
    rw [Array.getElem?_push, if_neg, h2]
    rintro rfl
    rw [o.top] at q
    cases q
  fine := fun i st q h => by
    have h : (s.gens.push (.fresh c))[i]? = some st := h
    rw [Array.getElem?_push] at h
    by_cases z : i = s.gens.size
    · rw [if_pos z] at h
      cases h
      exact True.intro
    · rw [if_neg z] at h
      exact o.fine i st q h
theorem Ok.set {s : Shared} (o : Ok F s) {g : Nat} {x : GenState} (hg : F g = none) (hx : Fine x) : Ok F (s.setGen g x) where
  held := fun i a q => by
    obtain ⟨h1, h2⟩ := o.held i a q
    refine ⟨h1, ?_⟩
    show (s.gens.setIfInBounds g x)[i]? = _
    rw [Array.getElem?_setIfInBounds_ne (fun z => by rw [z, q] at hg; cases hg)]
    exact h2
  fine := fun i st q h => by
    have h : (s.gens.setIfInBounds g x)[i]? = some st := h
    rw [Array.getElem?_setIfInBounds] at h
    by_cases z : g = i
    · rw [if_pos z] at h
      by_cases l : g < s.gens.size
      · rw [if_pos l] at h
        cases h
        exact hx
      · rw [if_neg l] at h
        cases h
    · rw [if_neg z] at h
      exact o.fine i st q h
theorem real_set {s : Shared} {g : Nat} {x : GenState} (hg : F g = none) : real F (s.setGen g x) = (real F s).setGen g x := by
  unfold real Shared.setGen
  rw [rep_set hg]
theorem real_push {s : Shared} (o : Ok F s) (c : Code) : real F { s with gens := s.gens.push (.fresh c) } = { real F s with gens := (real F s).gens.push (.fresh c) } := by
  unfold real
  rw [rep_push o.top]
theorem real_size (s : Shared) : (real F s).gens.size = s.gens.size := rep_size s.gens
theorem Ok.like {s s' : Shared} (o : Ok F s) (h : s'.gens = s.gens) : Ok F s' := ⟨fun i a q => by rw [h]; exact o.held i a q, fun i st q => by rw [h]; exact o.fine i st q⟩
theorem real_get {s : Shared} {g : Nat} {st : GenState} (h : s.gens[g]? = some st) (hg : F g = none) : (real F s).gens[g]? = some st := by
  show (rep F s.gens)[g]? = _
  rw [rep_get, h, hg]
  rfl
theorem Ok.seen {s : Shared} (o : Ok F s) {g : Nat} {st : GenState} (h : s.gens[g]? = some st) : ∃ st', (real F s).gens[g]? = some st' ∧ st'.seen = st.seen := by
  cases q : F g with
  | none => exact ⟨st, real_get h q, rfl⟩
  | some a =>
    obtain ⟨_, h2⟩ := o.held _ _ q
    rw [h] at h2
    cases h2
    refine ⟨a, ?_, (still_seen a).symm⟩
    show (rep F s.gens)[g]? = _
    rw [rep_get, h, q]
    rfl
/-- no such state runs on -/
theorem Ok.live {s : Shared} (o : Ok F s) {g : Nat} {k : Resume → Sem PySem.Fin} {l : List Value} {c : Code} {p : Pos} {fs : List Frame} {cl : Bool} (h : s.gens[g]? = some (.suspended k l c p fs cl)) {Γ : Ctx} {r : Resume} {s1 s2 : Shared} {e : End} (hr : Runs M Γ p (k r) fs s1 e s2) : F g = none ∧ NoGen fs := by
  have hn : F g = none := by
    cases q : F g with
    | none => rfl
    | some a =>
      obtain ⟨h1, h2⟩ := o.held _ _ q
      rw [h] at h2
      cases a with
      | suspended _ _ _ _ _ _ =>
        cases h2
        exact (no_runs hr _ rfl).elim
      | _ => exact h1.elim
  exact ⟨hn, o.fine _ _ hn h⟩
theorem runs_real {Γ : Ctx} {p : Pos} {t : Sem PySem.Fin} {fs : List Frame} {s s' : Shared} {e : End} (h : Runs M Γ p t fs s e s') : NoGen fs → Ok F s → Ok F s' ∧ FineE e ∧ Runs M Γ p t fs (real F s) e (real F s') := by
  induction h with
  | done => exact fun _ o => ⟨o, True.intro, .done⟩
  | raise => exact fun _ o => ⟨o, True.intro, .raise⟩
  | again hq _ ih => exact fun n o => let ⟨a, b, c⟩ := ih n o; ⟨a, b, .again hq c⟩
  | rule _ ih => exact fun n o => let ⟨a, b, c⟩ := ih n o; ⟨a, b, .rule c⟩
  | «at» _ ih => exact fun n o => let ⟨a, b, c⟩ := ih n o; ⟨a, b, .at c⟩
  | load hl _ ih => exact fun n o => let ⟨a, b, c⟩ := ih n o; ⟨a, b, .load hl c⟩
  | update hl _ ih => exact fun n o => let ⟨a, b, c⟩ := ih n ⟨o.held, o.fine⟩; ⟨a, b, .update hl c⟩
  | loadIfAlive _ ih => exact fun n o => let ⟨a, b, c⟩ := ih n o; ⟨a, b, .loadIfAlive c⟩
  | point _ ih => exact fun n o => let ⟨a, b, c⟩ := ih n o; ⟨a, b, .point c⟩
  | alloc _ ih => exact fun n o => let ⟨a, b, c⟩ := ih n ⟨o.held, o.fine⟩; ⟨a, b, .alloc c⟩
  | fresh _ ih => exact fun n o => let ⟨a, b, c⟩ := ih n ⟨o.held, o.fine⟩; ⟨a, b, .fresh c⟩
  | ask _ ih => exact fun n o => let ⟨a, b, c⟩ := ih n o; ⟨a, b, .ask c⟩
  | choose hn _ ih => exact fun n o => let ⟨a, b, c⟩ := ih n ⟨o.held, o.fine⟩; ⟨a, b, .choose hn c⟩
  | os _ ih => exact fun n o => let ⟨a, b, c⟩ := ih n ⟨o.held, o.fine⟩; ⟨a, b, .os c⟩
  | handled _ ih => exact fun n o => let ⟨a, b, c⟩ := ih n o; ⟨a, b, .handled c⟩
  | genState hg _ ih =>
    intro n o
    obtain ⟨a, b, c⟩ := ih n o
    obtain ⟨st', h1, h2⟩ := o.seen hg
    exact ⟨a, b, .genState h1 (by rw [h2]; exact c)⟩
  | stack _ ih => exact fun n o => let ⟨a, b, c⟩ := ih n o; ⟨a, b, .stack c⟩
  | thread _ ih => exact fun n o => let ⟨a, b, c⟩ := ih n o; ⟨a, b, .thread c⟩
  | newGen _ ih =>
    intro n o
    obtain ⟨a, b, c⟩ := ih n (o.push _)
    rw [real_push o] at c
    refine ⟨a, b, .newGen ?_⟩
    rw [real_size]
    exact c
  | call _ _ ih1 ih2 =>
    intro n o
    obtain ⟨a, _, c⟩ := ih1 NoGen.nil o
    obtain ⟨a2, b2, c2⟩ := ih2 NoGen.nil a
    exact ⟨a2, b2, .call c c2⟩
  | callSusp _ ih =>
    intro n o
    obtain ⟨a, b, c⟩ := ih NoGen.nil o
    exact ⟨a, NoGen.app b rfl, .callSusp c⟩
  | yield => exact fun _ o => ⟨o, NoGen.nil, .yield⟩
  | resumeFresh hg _ hq _ ih1 ih2 =>
    intro n o
    have f := o.out hg (fun z => z)
    obtain ⟨a, b, c⟩ := ih1 NoGen.nil (o.set f True.intro)
    obtain ⟨a2, b2, c2⟩ := ih2 NoGen.nil (a.set f b.state)
    rw [real_set f] at c c2
    exact ⟨a2, b2, .resumeFresh (real_get hg f) c hq c2⟩
  | resumeSuspended hg hr hq _ ih1 ih2 =>
    intro n o
    obtain ⟨f, nf⟩ := o.live hg hr
    obtain ⟨a, b, c⟩ := ih1 nf (o.set f True.intro)
    obtain ⟨a2, b2, c2⟩ := ih2 NoGen.nil (a.set f b.state)
    rw [real_set f] at c c2
    exact ⟨a2, b2, .resumeSuspended (real_get hg f) c hq c2⟩
  | resumeJustStarted hg hv _ ih =>
    intro n o
    obtain ⟨a, b, c⟩ := ih n o
    exact ⟨a, b, .resumeJustStarted (real_get hg (o.out hg (fun z => z))) hv c⟩
  | resumeThrowFresh hg _ ih =>
    intro n o
    have f := o.out hg (fun z => z)
    obtain ⟨a, b, c⟩ := ih n (o.set f True.intro)
    rw [real_set f] at c
    exact ⟨a, b, .resumeThrowFresh (real_get hg f) c⟩
  | resumeRunning hg _ ih =>
    intro n o
    obtain ⟨a, b, c⟩ := ih n o
    exact ⟨a, b, .resumeRunning (real_get hg (o.out hg (fun z => z))) c⟩
  | resumeFinished hg _ ih =>
    intro n o
    obtain ⟨a, b, c⟩ := ih n o
    exact ⟨a, b, .resumeFinished (real_get hg (o.out hg (fun z => z))) c⟩
  | segRet _ _ ih1 ih2 =>
    intro n o
    obtain ⟨a, _, c⟩ := ih1 NoGen.nil o
    obtain ⟨a2, b2, c2⟩ := ih2 n.tl a
    exact ⟨a2, b2, .segRet c c2⟩
  | segGen _ _ _ _ => exact fun n _ => nomatch (show some _ = none from n)
  | segSuspOut hs _ ih =>
    intro n o
    obtain ⟨a, b, c⟩ := ih NoGen.nil o
    exact ⟨a, NoGen.app b n, .segSuspOut hs c⟩
  | segSuspGen hs _ _ _ _ _ =>
    intro n o
    rw [n.split] at hs
    cases hs
theorem wakes_real {Γ : Ctx} {p : Pos} {g : Nat} {r : Resume} {s s' : Shared} {res : GenResult} (o : Ok F s) (h : Wakes M Γ p g r s res s') : Ok F s' ∧ Wakes M Γ p g r (real F s) res (real F s') := by
  unfold Wakes at h
  cases hg : s.gens[g]? with
  | none => rw [hg] at h; exact h.elim
  | some st =>
    rw [hg] at h
    cases st with
    | fresh c =>
      have f := o.out hg (fun z => z)
      have hr := real_get hg f
      unfold Wakes
      rw [hr]
      cases r with
      | send v =>
        cases v with
        | none =>
          obtain ⟨e1, s1, h1, h2, h3, rfl⟩ := h
          obtain ⟨a, b, c⟩ := runs_real h1 NoGen.nil (o.set f True.intro)
          rw [real_set f] at c
          exact ⟨a.set f b.state, e1, _, c, h2, h3, real_set f⟩
        | _ =>
          obtain ⟨h1, rfl⟩ := h
          exact ⟨o, h1, rfl⟩
      | throw x =>
        obtain ⟨h1, rfl⟩ := h
        exact ⟨o.set f True.intro, h1, real_set f⟩
    | suspended k l c p0 fs cl =>
      obtain ⟨e1, s1, h1, h2, h3, rfl⟩ := h
      obtain ⟨f, nf⟩ := o.live hg h1
      obtain ⟨a, b, c⟩ := runs_real h1 nf (o.set f True.intro)
      rw [real_set f] at c
      refine ⟨a.set f b.state, ?_⟩
      unfold Wakes
      rw [real_get hg f]
      exact ⟨e1, _, c, h2, h3, real_set f⟩
    | running =>
      obtain ⟨h1, rfl⟩ := h
      refine ⟨o, ?_⟩
      unfold Wakes
      rw [real_get hg (o.out hg (fun z => z))]
      exact ⟨h1, rfl⟩
    | finished =>
      obtain ⟨h1, rfl⟩ := h
      refine ⟨o, ?_⟩
      unfold Wakes
      rw [real_get hg (o.out hg (fun z => z))]
      exact ⟨h1, rfl⟩
theorem wp_real {α : Type} (Γ : Ctx) (t : Sem α) : ∀ (Q : α → Pos → Shared → Prop) (E : Value → Pos → Shared → Prop) (p : Pos) (s : Shared), Ok F s → wp M Γ t Q E p s →
    wp M Γ t (fun a p' s' => ∃ s2, Ok F s2 ∧ s' = real F s2 ∧ Q a p' s2) (fun e p' s' => ∃ s2, Ok F s2 ∧ s' = real F s2 ∧ E e p' s2) p (real F s) := by
  induction t with
  | pure a => intro Q E p s o h; exact ⟨s, o, rfl, h⟩
  | raise e => intro Q E p s o h; exact ⟨s, o, rfl, h⟩
  | unsupported _ => intro Q E p s _ h; exact h
  | finish _ => intro Q E p s _ h; exact h
  | rule _ k ih => intro Q E p s o h; exact ih () Q E p s o h
  | «at» p' k ih => intro Q E p s o h; exact ih () Q E p' s o h
  | load a _ k ih => intro Q E p s o h; obtain ⟨ob, ho, h⟩ := h; exact ⟨ob, ho, ih ob Q E p s o h⟩
  | update a _ f k ih => intro Q E p s o h; exact ⟨h.1, ih () Q E p { s with heap := s.heap.update a f } (o.like rfl) h.2⟩
  | loadIfAlive a k ih => intro Q E p s o h; exact ih _ Q E p s o h
  | point _ k ih => intro Q E p s o h; exact ih () Q E p s o h
  | register _ _ => intro Q E p s _ h; exact h
  | alloc ob k ih => intro Q E p s o h; exact ih _ Q E p { s with heap := s.heap.push ob } (o.like rfl) h
  | fresh k ih => intro Q E p s o h; exact ih _ Q E p { s with toks := s.toks + 1 } (o.like rfl) h
  | ask k ih => intro Q E p s o h; exact ih _ Q E p s o h
  | choose src m k ih => intro Q E p s o h; exact ⟨h.1, ih _ Q E p { s with drawn := s.drawn.bump src } (o.like rfl) h.2⟩
  | os q _ k ih => intro Q E p s o h; exact ih _ Q E p { s with os := (Os.step s.os q).1 } (o.like rfl) h
  | call c hd _ _ k ih =>
    intro Q E p s o h
    obtain ⟨r, s', hr, h⟩ := h
    obtain ⟨a, _, c⟩ := runs_real hr NoGen.nil o
    exact ⟨r, _, c, ih r Q E p s' a h⟩
  | handled own k ih => intro Q E p s o h; exact ih _ Q E p s o h
  | genState g k ih =>
    intro Q E p s o h
    obtain ⟨st, hs, h⟩ := h
    obtain ⟨st', h1, h2⟩ := o.seen hs
    exact ⟨st', h1, by rw [h2]; exact ih _ Q E p s o h⟩
  | newGen c k ih =>
    intro Q E p s o h
    have := ih _ Q E p _ (o.push c) h
    rw [real_push o] at this
    show wp M Γ (k (rep F s.gens).size) _ _ _ _
    rw [rep_size]
    exact this
  | resume g r _ k ih =>
    intro Q E p s o h
    obtain ⟨res, s', hw, h⟩ := h
    obtain ⟨a, b⟩ := wakes_real o hw
    exact ⟨res, _, b, ih res Q E p s' a h⟩
  | yield _ _ _ _ => intro Q E p s _ h; exact h
  | stack k ih => intro Q E p s o h; exact ih _ Q E p s o h
  | fork _ _ => intro Q E p s _ h; exact h
  | thread k ih => intro Q E p s o h; exact ih _ Q E p s o h
  | await _ _ _ _ _ => intro Q E p s _ h; exact h
open Classical in
/-- what is held: the one that sleeps, and those that hold another's frame -/
noncomputable def heldOf (s : Shared) (g i : Nat) : Option GenState := match s.gens[i]? with
  | some st => if Sus st ∧ (i = g ∨ ¬ Fine st) then some st else none
  | none => none
noncomputable def hush (s : Shared) (g : Nat) : Shared := { s with gens := s.gens.mapIdx fun i x => match heldOf s g i with | some _ => still x | none => x }
theorem held_some {s : Shared} {g i : Nat} {a : GenState} (h : heldOf s g i = some a) : s.gens[i]? = some a ∧ Sus a ∧ (i = g ∨ ¬ Fine a) := by
  unfold heldOf at h
  split at h
  · rename_i st hs
    split at h
    · rename_i c
      cases h
      exact ⟨hs, c⟩
    · cases h
  · cases h
theorem held_none {s : Shared} {g i : Nat} {st : GenState} (h : heldOf s g i = none) (hs : s.gens[i]? = some st) : ¬ (Sus st ∧ (i = g ∨ ¬ Fine st)) := by
  unfold heldOf at h
  rw [hs] at h
  simp only at h
  split at h
  · cases h
  · assumption
theorem held_one {s : Shared} {g : Nat} {st : GenState} (hs : s.gens[g]? = some st) (h : Sus st) : heldOf s g g = some st := by
  unfold heldOf
  rw [hs]
  simp only
  rw [if_pos ⟨h, .inl rfl⟩]
theorem hush_get (s : Shared) (g i : Nat) : (hush s g).gens[i]? = s.gens[i]?.map fun x => match heldOf s g i with | some _ => still x | none => x := by simp [hush]
theorem hush_ok (s : Shared) (g : Nat) : Ok (heldOf s g) (hush s g) where
  held := fun i a q => by
    obtain ⟨h1, h2, _⟩ := held_some q
    refine ⟨h2, ?_⟩
    rw [hush_get, h1, q]
    rfl
  fine := fun i st q h => by
    rw [hush_get, q] at h
    have hs : s.gens[i]? = some st := by
      cases z : s.gens[i]? with
      | none => rw [z] at h; cases h
      | some y => rw [z] at h; exact h
    have := held_none q hs
    cases st with
    | suspended _ _ _ _ _ _ =>
      exact Classical.byContradiction fun nf => this ⟨True.intro, .inr nf⟩
    | _ => exact True.intro
theorem hush_real (s : Shared) (g : Nat) : real (heldOf s g) (hush s g) = s := by
  unfold real
  have : rep (heldOf s g) (hush s g).gens = s.gens := by
    refine Array.ext_getElem? fun i => ?_
    rw [rep_get, hush_get]
    cases z : s.gens[i]? with
    | none => rfl
    | some y =>
      cases q : heldOf s g i with
      | none => rfl
      | some a =>
        have := (held_some q).1
        rw [z] at this
        cases this
        rfl
  rw [this]
  rfl
theorem hush_bare {s : Shared} {g : Nat} (h : ∀ x ∈ s.gens, x.bare = true) : ∀ x ∈ (hush s g).gens, x.bare = true := fun x hx => by
  obtain ⟨i, hi⟩ := Array.mem_iff_getElem?.mp hx
  rw [hush_get] at hi
  cases z : s.gens[i]? with
  | none => rw [z] at hi; cases hi
  | some y =>
    rw [z] at hi
    have hy := h y (Array.mem_of_getElem? z)
    cases q : heldOf s g i with
    | none =>
      rw [q] at hi
      cases hi
      exact hy
    | some a =>
      rw [q] at hi
      cases hi
      show (still y).bare = true
      rw [still_bare]
      exact hy
/-- behind it: as behind the hushed one, but the sleeper stands as it stood -/
structure Back (s : Shared) (g : Nat) (s2 s' : Shared) : Prop where
  heap : s'.heap = s2.heap
  os : s'.os = s2.os
  toks : s'.toks = s2.toks
  drawn : s'.drawn = s2.drawn
  bare : (∀ x ∈ s.gens, x.bare = true) → (∀ x ∈ s2.gens, x.bare = true) → ∀ x ∈ s'.gens, x.bare = true
  one : ∀ st, s.gens[g]? = some st → Sus st → s'.gens[g]? = some st
theorem wpAny_asleep {α : Type} {A : Around} {t : Sem α} {Q : α → Shared → Prop} {E : Value → Shared → Prop} {s : Shared} (g : Nat) (h : wpAny M A t Q E (hush s g)) :
    wpAny M A t (fun a s' => ∃ s2, Back s g s2 s' ∧ Q a s2) (fun e s' => ∃ s2, Back s g s2 s' ∧ E e s2) s := by
  intro Γ p hΓ
  have key := wp_real (F := heldOf s g) Γ t _ _ p _ (hush_ok s g) (h Γ p hΓ)
  rw [hush_real] at key
  have bk : ∀ {s2 : Shared}, Ok (heldOf s g) s2 → Back s g s2 (real (heldOf s g) s2) := fun {s2} o => by
    refine ⟨rfl, rfl, rfl, rfl, fun h1 h2 x hx => ?_, fun st hs hu => ?_⟩
    · obtain ⟨i, hi⟩ := Array.mem_iff_getElem?.mp hx
      have hi : (rep (heldOf s g) s2.gens)[i]? = some x := hi
      rw [rep_get] at hi
      cases z : s2.gens[i]? with
      | none => rw [z] at hi; cases hi
      | some y =>
        rw [z] at hi
        cases q : heldOf s g i with
        | none =>
          rw [q] at hi
          cases hi
          exact h2 y (Array.mem_of_getElem? z)
        | some a =>
          rw [q] at hi
          cases hi
          exact h1 _ (Array.mem_of_getElem? (held_some q).1)
    · have q := held_one hs hu
      show (rep (heldOf s g) s2.gens)[g]? = _
      rw [rep_get, (o.held _ _ q).2, q]
      rfl
  exact Sem.wp_mono M Γ t (fun a p' s' ⟨s2, o, e, q⟩ => ⟨s2, e ▸ bk o, q⟩) (fun a p' s' ⟨s2, o, e, q⟩ => ⟨s2, e ▸ bk o, q⟩) p s key
end
end Hu
set_option maxHeartbeats 1000000
namespace Gq
open PySem PySem.Spec PyProof.Rows GenW
open PySem.Sem (wp)
section
variable {M : Model} {A : Around} {Φ : End → Shared → Prop} {c : Code} {fs : List Frame} {s : Shared}
/-- the code runs to an end that is told -/
def To (M : Model) (A : Around) (Φ : End → Shared → Prop) (c : Code) (t : Sem PySem.Fin) (fs : List Frame) (s : Shared) : Prop :=
  ∀ Γ p, Γ.code = c → Γ.Woken A → ∃ e z, Runs M Γ p t fs s e z ∧ Φ e z
theorem to_wrap {α : Type} {m : Sem α} {K : α → Sem PySem.Fin} {J : Value → Sem PySem.Fin} {gd : Bool → Bool} {lv : List Value → List Value}
    (h : wpAny M (A.over c fs) m (fun a z => To M A Φ c (K a) fs z) (fun x z => To M A Φ c (J x) fs z) s) : To M A Φ c (m.wrap K J gd lv) fs s := by
  rintro Γ p rfl hw
  exact runs_wrap_of_wp K J gd lv m (h (Γ.over fs) p (hw.over fs)) (fun a q z y => y Γ q rfl hw) (fun x q z y => y Γ q rfl hw)
theorem to_call {c' : Code} {h : Option Value} {g : Bool} {l : List Value} {k : Result → Sem PySem.Fin} (hc : ∀ p, To M A Φ c' (M.den c') (.ret k h g l c p [] :: fs) s) : To M A Φ c (.call c' h g l k) fs s := by
  rintro Γ p rfl hw
  obtain ⟨e, z, r, q⟩ := hc p (Γ.goto c') p rfl (hw.goto c')
  exact ⟨e, z, runs_call_seg r, q⟩
theorem to_leaf {k : Result → Sem PySem.Fin} {h : Option Value} {g : Bool} {l kp : List Value} {c1 : Code} {p1 : Pos} (r : Result) (hk : To M A Φ c1 (k r) fs s) : To M A Φ c (leafOf r) (.ret k h g l c1 p1 kp :: fs) s := by
  rintro Γ p rfl hw
  obtain ⟨e, z, q, y⟩ := hk (Γ.goto c1) p1 rfl (hw.goto c1)
  exact ⟨e, z, Runs.pop r q, y⟩
theorem to_again {c' : Code} (hq : c'.quiet = true) (hc : To M A Φ c' (M.den c') fs s) : To M A Φ c (.pure (.again c')) fs s := by
  rintro Γ p rfl hw
  obtain ⟨e, z, r, y⟩ := hc (Γ.goto c') p rfl (hw.goto c')
  exact ⟨e, z, Runs.head (c₁ := c') (fun _ _ x => .again hq x) r, y⟩
theorem to_end (r : Result) (h : Φ (.ret r) s) : To M A Φ c (leafOf r) [] s := by
  rintro Γ p rfl _
  exact ⟨.ret r, s, Runs.leaf r, h⟩
theorem to_at {p' : Pos} {k : Unit → Sem PySem.Fin} (h : To M A Φ c (k ()) fs s) : To M A Φ c (.at p' k) fs s :=
  to_wrap (m := standAt p') (K := k) (J := .raise) (gd := id) (lv := id) (wpAny_standAt h)
theorem to_point {l : List Value} {k : Unit → Sem PySem.Fin} (h : To M A Φ c (k ()) fs s) : To M A Φ c (.point l k) fs s :=
  to_wrap (m := point) (K := k) (J := .raise) (gd := id) (lv := fun _ => l) (wpAny_point h)
theorem to_yield {v : Value} {g : Bool} {l : List Value} {k : Resume → Sem PySem.Fin} (hfs : splitAtGen fs = none) (h : ∀ p, Φ (.susp v g l k c p fs) s) : To M A Φ c (.yield v g l k) fs s := by
  rintro Γ p rfl _
  exact ⟨_, s, Runs.yield' fs hfs, h p⟩
variable {env : Env} {K : Flow → Sem PySem.Fin} {J : Value → Sem PySem.Fin} {gd : Bool → Bool} {lv : List Value → List Value}
theorem to_nil (h : To M A Φ c (K .next) fs s) : To M A Φ c ((execs [] env).wrap K J gd lv) fs s := h
theorem to_cons {st : Stmt} {rest : List Stmt} (h : To M A Φ c ((exec st env).wrap (fun f => match f with | .next => (execs rest env).wrap K J gd lv | f => K f) J gd lv) fs s) :
    To M A Φ c ((execs (st :: rest) env).wrap K J gd lv) fs s := by
  rw [execs_cons_wrap]
  exact h
theorem to_Yield {e : Expr} {yp pos : Pos} (hfs : splitAtGen fs = none) (hgd : gd false = false) (hco : env.scope.isCoroutine = false) (hi : interactive env = false)
    (h : wpAny M (A.over c fs) (eval e env) (fun v z => ∀ (g : Bool) (l : List Value) (k : Resume → Sem PySem.Fin) (p : Pos), g = false → (∀ Ψ z2, To M A Ψ c (K .next) fs z2 → To M A Ψ c (k (.send .none)) fs z2) → Φ (.susp v g l k c p fs) z) (fun x z => To M A Φ c (J x) fs z) s) :
    To M A Φ c ((exec (.Expr (.Yield (some e) yp) pos) env).wrap K J gd lv) fs s := by
  rw [exec_Expr env _ pos hi rfl]
  show To M A Φ c (.at pos fun _ => ((eval e env >>= fun v => (standAt yp >>= fun _ => yieldOut env v)) >>= fun x => dropValue (.Yield (some e) yp) pos x).wrap K J gd lv) fs s
  have hy : ∀ v, yieldOut env v = yieldValue v := fun v => by simp only [yieldOut, hco, Bool.false_eq_true, if_false]
  simp only [hy]
  refine to_at ?_
  rw [Sem.bind_eq_wrap', Sem.bind_eq_wrap', Sem.wrap_wrap, Sem.wrap_wrap]
  refine to_wrap (wpAny_mono h (fun v z y => ?_) fun _ _ x => x)
  refine to_at (to_yield hfs fun p => ?_)
  exact y _ _ _ p hgd fun Ψ z2 q => q
theorem to_For {tg iter : Expr} {body : List Stmt} {pos : Pos} (hs : ∀ x, foldedSetIterable iter env x = pure x)
    (h : wpAny M (A.over c fs) (eval iter env) (fun v z => wpAny M (A.over c fs) (pyIter v) (fun it z2 => ∀ p, To M A Φ (.forLoop tg it body [] env) (M.den (.forLoop tg it body [] env))
      (.ret (fun r => ((match r with | .ok f => (.pure f : Sem Flow) | .error e => .raise e).onRaise (L2.cameBack env)).wrap K J gd lv) none (gd false) (lv []) c p [] :: fs) z2) (fun _ _ => False) z) (fun _ _ => False) s) :
    To M A Φ c ((exec (.For tg iter body [] pos) env).wrap K J gd lv) fs s := by
  rw [exec_For, Sem.bind_eq_wrap', Sem.wrap_wrap]
  refine to_wrap (wpAny_standAt ?_)
  try dsimp only
  rw [Sem.bind_eq_wrap', Sem.wrap_wrap]
  refine to_wrap (wpAny_mono h (fun v z y => ?_) fun _ _ x => x.elim)
  rw [hs, Sem.bind_eq_wrap', Sem.wrap_wrap]
  refine to_wrap (wpAny_pure ?_)
  rw [Sem.bind_eq_wrap', Sem.wrap_wrap]
  refine to_wrap (wpAny_standAt ?_)
  try dsimp only
  rw [Sem.bind_eq_wrap', Sem.wrap_wrap]
  refine to_wrap (wpAny_holding (wpAny_mono y (fun it z2 q => ?_) fun _ _ x => x.elim))
  exact to_call q
end
section
variable {prog : Program} {w : World} {A : Around} {Φ : End → Shared → Prop} {fs : List Frame} {s : Shared} {env : Env}
theorem to_forLoop {tg : Expr} {it : Value} {body : List Stmt}
    (h : wpAny (model prog w) (A.over (.forLoop tg it body [] env) fs) (pyNext it) (fun r z => match r with
      | none => To (model prog w) A Φ (.forLoop tg it body [] env) (.pure (.again (.block [] env))) fs z
      | some v => wpAny (model prog w) (A.over (.forLoop tg it body [] env) fs) (letOwnedTupleGo tg it v) (fun _ z2 => wpAny (model prog w) (A.over (.forLoop tg it body [] env) fs) (assign tg env v) (fun _ z3 => ∀ J', To (model prog w) A Φ (.forLoop tg it body [] env)
          ((execs body env).wrap (fun f => match f with
            | .next | .cont => .pure (.again (.forLoop tg it body [] env))
            | .brk => .pure (.done .next)
            | .ret v => .pure (.done (.ret v))) J' id id) fs z3) (fun _ _ => False) z2) (fun _ _ => False) z) (fun _ _ => False) s) :
    To (model prog w) A Φ (.forLoop tg it body [] env) ((model prog w).den (.forLoop tg it body [] env)) fs s := by
  show To _ A Φ _ ((forTurn tg it body [] env).onRaise (fun x => do noteFrame x env; theTreesLotGoes x)) fs s
  unfold forTurn
  rw [Sem.onRaise_eq_wrap, Sem.bind_eq_wrap', Sem.wrap_wrap]
  refine to_wrap (wpAny_standAt ?_)
  try dsimp only
  rw [Sem.bind_eq_wrap', Sem.wrap_wrap]
  refine to_wrap (wpAny_onRaise (wpAny_mono h (fun r z y => ?_) fun _ _ x => x.elim))
  cases r with
  | none => exact y
  | some v =>
    dsimp only at y ⊢
    rw [Sem.bind_eq_wrap', Sem.wrap_wrap]
    refine to_wrap (wpAny_mono y (fun _ z2 y2 => ?_) fun _ _ x => x.elim)
    try dsimp only
    rw [Sem.bind_eq_wrap', Sem.wrap_wrap]
    refine to_wrap (wpAny_mono y2 (fun _ z3 y3 => ?_) fun _ _ x => x.elim)
    try dsimp only
    rw [Sem.bind_eq_wrap', Sem.wrap_wrap]
    rw [Sem.wrap_congr (execs body env) _ _ (K' := fun f => match f with
            | .next | .cont => .pure (.again (.forLoop tg it body [] env))
            | .brk => .pure (.done .next)
            | .ret v => .pure (.done (.ret v))) (H' := _) (fun f => by cases f <;> rfl) (fun e => rfl)]
    exact y3 _
theorem to_over {tg : Expr} {it : Value} {body : List Stmt} (h : To (model prog w) A Φ (.block [] env) (.pure (.done .next)) fs s) : To (model prog w) A Φ (.forLoop tg it body [] env) (.pure (.again (.block [] env))) fs s := by
  refine to_again rfl ?_
  exact h
theorem to_func {body : List Stmt}
    (h : ∀ J', To (model prog w) A Φ (.func body env) ((execs body env).wrap (fun f => .pure (.done (.ret (match f with | .ret v => v | _ => .none)))) J' id id) fs s) :
    To (model prog w) A Φ (.func body env) ((model prog w).den (.func body env)) fs s := by
  show To _ A Φ _ (.point [] fun _ => ((execs body env).onRaise (leaving env)) >>= _) fs s
  refine to_point ?_
  rw [Sem.onRaise_eq_wrap, Sem.bind_eq_wrap', Sem.wrap_wrap]
  rw [Sem.wrap_congr (execs body env) _ _ (K' := fun f => .pure (.done (.ret (match f with | .ret v => v | _ => .none)))) (H' := _) (fun f => by cases f <;> rfl) (fun e => rfl)]
  exact h _
end
def Go (M : Model) (A : Around) (Φ : End → Shared → Prop) (gs : GenState) (r : Resume) (s : Shared) : Prop :=
  match gs with
  | .fresh c => r = .send .none ∧ To M A Φ c (M.den c) [] s
  | .suspended k _ c _ fs _ => To M A Φ c (k r) fs s
  | _ => False
theorem wpAny_resumeX {M : Model} {A : Around} {Φ : End → Shared → Prop} {E : Value → Shared → Prop} {s : Shared} {g : Nat} {gs : GenState} {r : Resume} {l : List Value} {α : Type} {k : GenResult → Sem α} {Q : α → Shared → Prop} (hg : s.gens[g]? = some gs)
    (hgo : Go M A Φ gs r (s.setGen g .running)) (h : ∀ e z, Φ e z → e.quiet = true ∧ wpAny M A (k e.result) Q E (z.setGen g e.genState)) : wpAny M A (.resume g r l k) Q E s := by
  intro Γ p hΓ
  rw [Sem.wp_resume]
  cases gs with
  | fresh c =>
    obtain ⟨rfl, hs⟩ := hgo
    obtain ⟨e, z, hr, he⟩ := hs (Γ.wake c p) p rfl (hΓ.wake c p)
    obtain ⟨q1, q2⟩ := h e z he
    exact ⟨_, _, by unfold Wakes; rw [hg]; exact ⟨e, z, hr, q1, rfl, rfl⟩, q2 Γ p hΓ⟩
  | suspended k0 l0 c0 p0 fs0 cl =>
    obtain ⟨e, z, hr, he⟩ := hgo (Γ.wake c0 p) p0 rfl (hΓ.wake c0 p)
    obtain ⟨q1, q2⟩ := h e z he
    exact ⟨_, _, by unfold Wakes; rw [hg]; exact ⟨e, z, hr, q1, rfl, rfl⟩, q2 Γ p hΓ⟩
  | running => exact hgo.elim
  | finished => exact hgo.elim
theorem next_X {P : Program} {w : World} {A : Around} {E : Value → Shared → Prop} {s : Shared} {Φ : End → Shared → Prop} {a : Addr} {g : Nat} {gs : GenState} {Q : Option Value → Shared → Prop} (hh : A.handled = none)
    (hl : s.heap.NoLimit) (hroom : A.depth < recursionLimit) (hg : s.heap.IsGen a g) (hgs : s.gens[g]? = some gs) (hgo : Go (model P w) A.in1 Φ gs (.send .none) (s.setGen g .running))
    (hE : ∀ e z, Φ e z → e.quiet = true ∧ match e with
      | .ret r => (r = .ok (.ret .none) ∨ r = .ok .next) ∧ ∀ h', (∀ b o, z.heap.get? b = some o → h'.get? b = some o) → Q none { z.setGen g .finished with heap := h' }
      | .susp v g0 l k c p fs => Q (some v) (z.setGen g (End.susp v g0 l k c p fs).genState)) : wpAny (model P w) A (pyNext (.ref a)) Q E s := by
  unfold pyNext
  refine wpAny_bind (wpAny_attempt (wpAny_callSpecial?_slot (name := Str.ofString "__next__") hg.typeIs slot_gen_next
    (wpAny_call_entry slot_gen_next hg.typeIs entry_gen_next ?_ (args_gen_next _))))
  show wpAny _ A.in1 (Builtin.Generator.genWake (.ref a) (.send .none)) _ _ s
  unfold Builtin.Generator.genWake
  refine wpAny_bind (wpAny_holding (wpAny_genNumber hg (wpAny_bind (wpAny_genState hgs ?_))))
  cases gs with
  | running => exact hgo.elim
  | finished => exact hgo.elim
  | _ =>
    refine wpAny_bind (wpAny_roomToWake hl hroom ?_)
    show wpAny _ A.in1 (.resume g (.send .none) [] _) _ _ s
    refine wpAny_resumeX hgs hgo fun e z he => ?_
    obtain ⟨q1, q2⟩ := hE e z he
    refine ⟨q1, ?_⟩
    cases e with
    | ret r =>
      obtain ⟨hr, hp⟩ := q2
      have hres : End.result (.ret r) = .returned .none := by
        rcases hr with hr | hr <;> rw [hr] <;> rfl
      first | rw [hres] | simp only [hres]
      show wpAny _ A.in1 (newExc (.type "StopIteration") [] >>= _) _ _ _
      refine wpAny_bind ?_
      simp only [newExc, newTuple]
      refine wpAny_bind (wpAny_newObj_type ?_ (by size_fits))
      refine wpAny_bind (m := firstArgMember _ _) (wpAny_of_eq (a := Value.none) (by first | rfl | (simp only [firstArgMember]; rfl)) ?_)
      refine wpAny_newObj_type ?_ (by size_fits)
      simp only [raiseNew]
      refine wpAny_bind (wpAny_bind (wpAny_handled ?_))
      first | rw [show A.in1.handled = none from hh] | rw [hh]
      refine wpAny_throw ?_
      refine wpAny_bind (wpAny_isInstance (T := "StopIteration") (b := true) ⟨_, Heap.get?_push_size _ rfl, rfl⟩ isSubtype_stop ?_)
      exact wpAny_pure (hp _ fun b o hb => Heap.get?_push_of_some _ (Heap.get?_push_of_some _ hb))
    | susp v g0 l k c p fs => exact wpAny_pure ⟨v, rfl, wpAny_pure q2⟩
end Gq
set_option maxHeartbeats 1000000
namespace L2
open PySem PySem.Spec PyProof.Rows GenW
/-- what two that share a heap both know -/
structure Sh (P : Program) (w : World) (fs : List Addr) (H1 : Hp) (sc : Shared) (H : Hp) (s : Shared) : Prop where
  os : s.os = sc.os
  bare : AllBare s.gens
  un : Un fs [] H1 H sc.heap s.heap
  hok : HOk P w H s.heap
theorem Inv.sh {X : Cx} {pins : List (Addr × Obj)} {σ : St} {H : Hp} {s : Shared} (I : Inv X pins σ H s) (hex : X.ex = []) : Sh X.prog X.w X.fs X.H_0 X.s_0 H s := ⟨I.os, I.bare, by rw [← hex]; exact I.base, I.hok⟩
theorem Inv.given {X : Cx} {pins pins' : List (Addr × Obj)} {σ : St} {H H' : Hp} {s s' : Shared} (I : Inv X pins σ H s) (hex : X.ex = []) (S : Sh X.prog X.w X.fs X.H_0 X.s_0 H' s')
    (hl : ∀ o, s.heap.get? X.env.locals = some o → s'.heap.get? X.env.locals = some o) (hf : H' X.env.locals = none) (hc : ∀ x c, X.env.cells.lookup x = some c → H' c = none ∧ ∀ v, s.heap.IsCell c v → s'.heap.IsCell c v)
    (hp : ∀ p ∈ X.pn ++ pins', s'.heap.get? p.1 = some p.2 ∧ H' p.1 = none ∧ p.1 ≠ X.env.locals ∧ p.1 ∉ X.fs ∧ ∀ v, p.2.data ≠ .cell v) : Inv X pins' σ H' s' := by
  refine ⟨I.ok, S.os, S.bare, by rw [hex]; exact S.un, ?_, fun x c e => let ⟨v, q⟩ := I.cell x c e; ⟨v, (hc x c e).2 v q⟩, hf, fun x c e => (hc x c e).1, hp, S.hok, I.len⟩
  obtain ⟨m, ⟨o, es, ep, ho, r⟩, hl2⟩ := I.loc
  refine ⟨m, ⟨o, es, ep, hl o ho, r⟩, fun i x v h1 h2 h3 => ?_⟩
  obtain ⟨u, r1, l⟩ := hl2 i x v h1 h2 h3
  refine ⟨u, r1, ?_⟩
  rcases l with l | ⟨k, c, e, q⟩
  · exact .inl l
  · exact .inr ⟨k, c, e, (hc x c e).2 _ q⟩
theorem Inv.nofs0 {X : Cx} {pins : List (Addr × Obj)} {σ : St} {H : Hp} {s : Shared} (I : Inv X pins σ H s) {b : Addr} (h : X.s_0.heap.objs.size ≤ b) : b ∉ X.fs := fun hb => by
  obtain ⟨_, o, ho, _⟩ := I.ok.funs.mem hb
  exact absurd (Nat.lt_of_lt_of_le (Heap.lt_size ho) h) (Nat.lt_irrefl _)
def KeepB (D : Addr) (H H' : Hp) : Prop := ∀ b u, b ≠ D → H b = some u → H' b = some u
def SameH (H H' : Hp) : Prop := ∀ b u, H b = some u → H' b = some u
/-- the generator's private objects -/
def PriOk (sc : Shared) (Pri : List Addr) (H : Hp) (h : Heap) : Prop := ∀ b ∈ Pri, sc.heap.objs.size ≤ b ∧ H b = none ∧ ∃ o, h.get? b = some o ∧ ∀ v, o.data ≠ .cell v
/-- the consumer's state as it wakes the generator -/
structure Wk (P : Program) (w : World) (fs : List Addr) (H1 : Hp) (sc : Shared) (D : Addr) (Pri : List Addr) (Hy : Hp) (hy : Heap) (C : Addr) (H2 : Hp) (s2 : Shared) : Prop where
  sh : Sh P w fs H1 sc H2 s2
  own : ∀ b ∈ Pri, (∀ o, hy.get? b = some o → s2.heap.get? b = some o) ∧ H2 b = none
  keep : KeepB D Hy H2
  tr : ∃ xs, H2 D = some (.lst xs)
  con : ∃ o, s2.heap.get? C = some o ∧ ∀ v, o.data ≠ .cell v
  free : H2 C = none
  young : sc.heap.objs.size ≤ C
  ne : C ∉ Pri
/-- behind its turn -/
structure Bh (P : Program) (w : World) (fs : List Addr) (H1 : Hp) (sc : Shared) (a : Addr) (g : Nat) (C : Addr) (H2 : Hp) (s2 : Shared) (H3 : Hp) (z : Shared) : Prop where
  sh : Sh P w fs H1 sc H3 z
  same : SameH H2 H3
  con : ∀ o, s2.heap.get? C = some o → z.heap.get? C = some o
  free : H3 C = none
  lim : z.heap.NoLimit
  gen : z.heap.IsGen a g
/-- it sleeps (or has not begun), m items are to come, the next of number i -/
def GSlp (P : Program) (w : World) (fs : List Addr) (H1 : Hp) (sc : Shared) (A : Around) (a : Addr) (g : Nat) (D : Addr) (Pr : Nat → V → Hp → Prop) : Nat → Nat → List Addr → Hp → Heap → GenState → Prop
  | 0, _, Pri, Hy, hy, gs => ∀ C H2 s2, Wk P w fs H1 sc D Pri Hy hy C H2 s2 → Gq.Go (model P w) A (fun e z => ∃ r, e = .ret r ∧ (r = .ok (.ret .none) ∨ r = .ok .next) ∧ ∃ H3, Bh P w fs H1 sc a g C H2 s2 H3 z) gs (.send .none) s2
  | m + 1, i, Pri, Hy, hy, gs => ∀ C H2 s2, Wk P w fs H1 sc D Pri Hy hy C H2 s2 → Gq.Go (model P w) A (fun e z => ∃ v g0 l kk c p ff, e = .susp v g0 l kk c p ff ∧ e.quiet = true ∧ ∃ y H3 Pri', RelV y v ∧ Bh P w fs H1 sc a g C H2 s2 H3 z ∧ Pr i y H3 ∧ C ∉ Pri' ∧ a ∈ Pri' ∧ PriOk sc Pri' H3 z.heap ∧
      GSlp P w fs H1 sc A a g D Pr m (i + 1) Pri' H3 z.heap e.genState) gs (.send .none) s2
/-- the end of a turn -/
def TEnd (P : Program) (w : World) (fs : List Addr) (H1 : Hp) (sc : Shared) (A : Around) (a : Addr) (g : Nat) (D : Addr) (Pr : Nat → V → Hp → Prop) (C : Addr) (H2 : Hp) (s2 : Shared) : Nat → Nat → End → Shared → Prop
  | 0, _ => fun e z => ∃ r, e = .ret r ∧ (r = .ok (.ret .none) ∨ r = .ok .next) ∧ ∃ H3, Bh P w fs H1 sc a g C H2 s2 H3 z
  | m + 1, i => fun e z => ∃ v g0 l kk c p ff, e = .susp v g0 l kk c p ff ∧ e.quiet = true ∧ ∃ y H3 Pri', RelV y v ∧ Bh P w fs H1 sc a g C H2 s2 H3 z ∧ Pr i y H3 ∧ C ∉ Pri' ∧ a ∈ Pri' ∧ PriOk sc Pri' H3 z.heap ∧
      GSlp P w fs H1 sc A a g D Pr m (i + 1) Pri' H3 z.heap e.genState
theorem gslp_of {P : Program} {w : World} {fs : List Addr} {H1 : Hp} {sc : Shared} {A : Around} {a : Addr} {g : Nat} {D : Addr} {Pr : Nat → V → Hp → Prop} {m i : Nat} {Pri : List Addr} {Hy : Hp} {hy : Heap} {gs : GenState}
    (h : ∀ C H2 s2, Wk P w fs H1 sc D Pri Hy hy C H2 s2 → Gq.Go (model P w) A (TEnd P w fs H1 sc A a g D Pr C H2 s2 m i) gs (.send .none) s2) : GSlp P w fs H1 sc A a g D Pr m i Pri Hy hy gs := by
  cases m with
  | zero => exact h
  | succ m => exact h
theorem gslp_go {P : Program} {w : World} {fs : List Addr} {H1 : Hp} {sc : Shared} {A : Around} {a : Addr} {g : Nat} {D : Addr} {Pr : Nat → V → Hp → Prop} {m i : Nat} {Pri : List Addr} {Hy : Hp} {hy : Heap} {gs : GenState}
    (h : GSlp P w fs H1 sc A a g D Pr m i Pri Hy hy gs) : ∀ C H2 s2, Wk P w fs H1 sc D Pri Hy hy C H2 s2 → Gq.Go (model P w) A (TEnd P w fs H1 sc A a g D Pr C H2 s2 m i) gs (.send .none) s2 := by
  cases m with
  | zero => exact h
  | succ m => exact h
/-- the context of a generator that raises nothing -/
abbrev gx (P : Program) (w : World) (K : PySem.W.Frag) (mg : Str → Option Value) (base : Heap) (N : List Str) (qual : Str) (scope : Scope) (f : Addr) (cd : Value) (A : Around) (outer : List Env) (s : Shared) (H : Hp) (pn : List (Addr × Obj)) : Cx :=
  { cxOf C8.CX0 P w K mg base N qual scope f cd A outer s H C8.E0 with pn := pn, xe := fun _ _ => False }
section
variable {P : Program} {w : World} {K : PySem.W.Frag} {mg : Str → Option Value} {base : Heap} {N : List Str} {qual : Str} {scope : Scope} {f : Addr} {cd : Value} {A : Around} {outer : List Env} {sc : Shared} {H1 : Hp} {a : Addr} {go : Obj} {g : Nat}
theorem mem_at {C : Addr} {h : Heap} {p : Addr × Obj} (hp : p ∈ pinsAt [C] h) : p.1 = C ∧ h.get? C = some p.2 := by
  obtain ⟨h1, h2⟩ := of_pinsAt hp
  have e : p.1 = C := by simpa using h1
  rw [e] at h2
  exact ⟨e, h2⟩
theorem gz_loop {tg e : Expr} {yp pos : Pos} {J : It} {fp : List Addr} {it : Addr} {tn : Nat → Heap → Prop} {gt : TG} {te : TE} {D : Addr} {Pr : Nat → V → Hp → Prop} {n : Nat} {Wv : Nat → St → Hp → Prop}
    {body : List Stmt} {K0 : Flow → Sem PySem.Fin} {J0 : Value → Sem PySem.Fin} {p0 : Pos}
    (T : Turn P w K tg J fp it tn) (hg : PG (gx P w K mg base N qual scope f cd A outer sc H1 [(a, go)]) tg gt) (he : PE (gx P w K mg base N qual scope f cd A outer sc H1 [(a, go)]) e te)
    (hnc : ∀ x, (envOfC qual scope sc.heap.objs.size f cd).cells.lookup x = none) (hco : scope.isCoroutine = false) (hi : interactive (envOfC qual scope sc.heap.objs.size f cd) = false) (hgen : ∀ h : Heap, h.get? a = some go → h.IsGen a g) (ha : sc.heap.objs.size ≤ a)
    (hK : ∀ C H2 s2 z H3, Bh P w (frs outer) H1 sc a g C H2 s2 H3 z → ∀ i, Gq.To (model P w) A (TEnd P w (frs outer) H1 sc A a g D Pr C H2 s2 0 i) (.func body (envOfC qual scope sc.heap.objs.size f cd)) (K0 .next) [] z)
    (hW : ∀ i σ H, Wv i σ H → (i = n ∧ J.stop i H) ∨ (i < n ∧ J.go i H ∧ ∀ x H', J.yld i H x H' → gt x σ H' fun σ2 H2 => te σ2 H2 fun y H3 => SameH H H3 ∧ Pr i y H3 ∧ ∀ H4, KeepB D H3 H4 → (∃ xs, H4 D = some (.lst xs)) → Wv (i + 1) σ2 H4)) :
    ∀ (m i : Nat), i + m = n → ∀ (σ : St) (H : Hp) (s : Shared) (C : Addr) (H2 : Hp) (s2 : Shared), Inv (gx P w K mg base N qual scope f cd A outer sc H1 [(a, go)]) (pinsAt [C] s2.heap) σ H s → (∃ o, s2.heap.get? C = some o ∧ ∀ v, o.data ≠ .cell v) → C ≠ a → tn i s.heap →
      (∀ b ∈ fp, FpOk (gx P w K mg base N qual scope f cd A outer sc H1 [(a, go)]) (pinsAt [C] s2.heap) H b) → Wv i σ H → SameH H2 H →
      Gq.To (model P w) A (TEnd P w (frs outer) H1 sc A a g D Pr C H2 s2 m i) (.forLoop tg (.ref it) [.Expr (.Yield (some e) yp) pos] [] (envOfC qual scope sc.heap.objs.size f cd))
        ((model P w).den (.forLoop tg (.ref it) [.Expr (.Yield (some e) yp) pos] [] (envOfC qual scope sc.heap.objs.size f cd)))
        [.ret (fun r => ((match r with | .ok f => (.pure f : Sem Flow) | .error e => .raise e).onRaise (cameBack (envOfC qual scope sc.heap.objs.size f cd))).wrap K0 J0 id id) none false [] (.func body (envOfC qual scope sc.heap.objs.size f cd)) p0 []] s := by
  have hov : ∀ (c' : Code) (k : Result → Sem PySem.Fin), c'.weight = 0 → c'.cUnits = 0 → A.over c' [.ret k none false [] (.func body (envOfC qual scope sc.heap.objs.size f cd)) p0 []] = A.deeper (envOfC qual scope sc.heap.objs.size f cd) := fun c' k h1 h2 => (over_loop h1 h2).trans over_func
  intro m
  induction m with
  | zero =>
    intro i hm σ H s C H2 s2 I hC hCa st hf hw hs
    rcases hW i σ H hw with ⟨_, stop⟩ | ⟨lt, _⟩
    · refine Gq.to_forLoop ?_
      rw [hov _ _ rfl rfl]
      refine wpAny_mono (T.done (gx P w K mg base N qual scope f cd A outer sc H1 [(a, go)]) rfl rfl rfl rfl i _ s σ H (fun _ _ => False) I hf st stop) (fun r z ⟨hr, I4⟩ => ?_) fun _ _ x => x
      subst hr
      refine Gq.to_over (Gq.to_leaf (.ok .next) ?_)
      have hCI : ∀ o, s2.heap.get? C = some o → z.heap.get? C = some o ∧ H C = none := fun o eo => let q := I4.pin (C, o) (List.mem_append_right _ (mem_pinsAt (by simp) eo)); ⟨q.1, q.2.1⟩
      obtain ⟨oC, eC, _⟩ := hC
      exact hK C H2 s2 z H ⟨I4.sh rfl, hs, fun o eo => (hCI o eo).1, (hCI oC eC).2, I4.nolimit, hgen _ (I4.pin (a, go) (List.mem_append_left _ (List.mem_singleton.mpr rfl))).1⟩ i
    · omega
  | succ m ih =>
    intro i hm σ H s C H2 s2 I hC hCa st hf hw hs
    rcases hW i σ H hw with ⟨e0, _⟩ | ⟨lt, go', step⟩
    · omega
    refine Gq.to_forLoop ?_
    rw [hov _ _ rfl rfl]
    refine wpAny_mono (T.item (gx P w K mg base N qual scope f cd A outer sc H1 [(a, go)]) rfl rfl rfl rfl i _ s σ H (fun _ _ => False) I hf st go') (fun r z ⟨u, hr, h4⟩ => ?_) fun _ _ x => x
    subst hr
    refine wpAny_mono h4 (fun _ z5 ⟨x, H5, I5, r5, y5, st5, fr5⟩ => ?_) fun _ _ x => x
    have f5 : ∀ b ∈ fp, FpOk (gx P w K mg base N qual scope f cd A outer sc H1 [(a, go)]) (pinsAt [C] s2.heap) H5 b := fun b hb => ⟨fr5 b hb, (hf b hb).2⟩
    have I5' := I5.pinned f5 (T.obj _ _ st5)
    refine wpAny_mono (hg.run _ z5 σ H5 x u _ I5' r5 (step x H5 y5)) (fun _ z6 ⟨σ6, H6, I6, q6⟩ => ?_) fun _ _ x => x
    intro J'
    refine Gq.to_cons (Gq.to_Yield rfl rfl hco hi ?_)
    rw [hov _ _ rfl rfl]
    refine wpAny_mono (he.run _ z6 σ6 H6 _ I6 q6) (fun v z7 ⟨y, H7, I7, r7, sm, pr, nx⟩ => ?_) fun _ _ x => x.elim
    intro g0 l k p hg0 back
    have pa := I7.pin (a, go) (List.mem_append_left _ (List.mem_singleton.mpr rfl))
    have pC : ∀ o, s2.heap.get? C = some o → z7.heap.get? C = some o ∧ H7 C = none ∧ C ≠ (envOfC qual scope sc.heap.objs.size f cd).locals := fun o eo => let q := I7.pin (C, o) (List.mem_append_right _ (List.mem_append_left _ (mem_pinsAt (by simp) eo))); ⟨q.1, q.2.1, q.2.2.1⟩
    have pf : ∀ b ∈ fp, ∃ o, z5.heap.get? b = some o ∧ z7.heap.get? b = some o ∧ H7 b = none ∧ ∀ v, o.data ≠ .cell v := fun b hb => by
      obtain ⟨o, eo, d⟩ := T.obj _ _ st5 b hb
      have q := I7.pin (b, o) (List.mem_append_right _ (List.mem_append_right _ (mem_pinsAt hb eo)))
      exact ⟨o, eo, q.1, q.2.1, d⟩
    obtain ⟨oC, eC, _⟩ := hC
    have young : ∀ b ∈ fp, sc.heap.objs.size ≤ b := fun b hb => by
      rcases (f5 b hb).2.2.2.1 with z | z
      · exact absurd (show b ∈ ([] : List Addr) from z) (by simp)
      · exact z
    refine ⟨v, g0, l, k, _, p, _, rfl, by subst hg0; rfl, y, H7, (envOfC qual scope sc.heap.objs.size f cd).locals :: a :: fp, r7, ⟨I7.sh rfl, fun b u h => sm b u (hs b u h), fun o eo => (pC o eo).1, (pC oC eC).2.1, I7.nolimit, hgen _ pa.1⟩, pr, ?_, by simp, ?_, gslp_of fun C' H2' s2' W => ?_⟩
    · simp only [List.mem_cons, not_or]
      refine ⟨(pC oC eC).2.2, hCa, fun z => ?_⟩
      exact (hf C z).2.2.2.2.2 (C, oC) (List.mem_append_right _ (mem_pinsAt (by simp) eC)) rfl
    · intro b hb
      rcases List.mem_cons.mp hb with rfl | hb
      · obtain ⟨mm, ⟨o, es, ep, ho, hd, _⟩, _⟩ := I7.loc
        exact ⟨I7.ok.above, I7.free, o, ho, fun v q => by rw [hd] at q; cases q⟩
      · rcases List.mem_cons.mp hb with rfl | hb
        · exact ⟨ha, pa.2.1, go, pa.1, pa.2.2.2.2⟩
        · obtain ⟨o, _, e2, e3, e4⟩ := pf b hb
          exact ⟨young b hb, e3, o, e2, e4⟩
    · show Gq.To _ _ _ _ (k (.send .none)) _ s2'
      refine back _ _ (Gq.to_nil (Gq.to_again rfl ?_))
      have oL := W.own (envOfC qual scope sc.heap.objs.size f cd).locals (by simp)
      have oA := W.own a (by simp)
      have oF : ∀ b ∈ fp, (∀ o, z7.heap.get? b = some o → s2'.heap.get? b = some o) ∧ H2' b = none := fun b hb => W.own b (by simp [hb])
      have neC := W.ne
      simp only [List.mem_cons, not_or] at neC
      refine ih (i + 1) (by omega) σ6 H2' s2' C' H2' s2' (I7.given rfl W.sh oL.1 oL.2 (fun x c e => by have e : (envOfC qual scope sc.heap.objs.size f cd).cells.lookup x = some c := e; rw [hnc] at e; cases e) fun q hq => ?_) W.con neC.2.1 (T.keep _ _ _ st5 fun b hb o eo => ?_) (fun b hb => ?_) (nx H2' W.keep W.tr) fun _ _ h => h
      · rcases List.mem_append.mp hq with hq | hq
        · rw [List.mem_singleton.mp hq]
          exact ⟨oA.1 _ pa.1, oA.2, pa.2.2.1, pa.2.2.2.1, pa.2.2.2.2⟩
        · obtain ⟨e1, e2⟩ := mem_at hq
          obtain ⟨o, ho, hd⟩ := W.con
          rw [e2] at ho
          cases ho
          exact ⟨by rw [e1]; exact e2, by rw [e1]; exact W.free, by rw [e1]; exact neC.1, by rw [e1]; exact I7.nofs0 W.young, hd⟩
      · obtain ⟨o', e1, e2, _⟩ := pf b hb
        rw [eo] at e1
        cases e1
        exact (oF b hb).1 _ e2
      · have q := f5 b hb
        refine ⟨(oF b hb).2, q.2.1, q.2.2.1, q.2.2.2.1, q.2.2.2.2.1, fun r hr => ?_⟩
        rcases List.mem_append.mp hr with hr | hr
        · exact q.2.2.2.2.2 r (List.mem_append_left _ hr)
        · obtain ⟨e1, _⟩ := mem_at hr
          rw [e1]
          exact fun z => neC.2.2 (z ▸ hb)
/-- what its body must do: the statement ahead, the walk, what it yields -/
def tGY (t1 : TS) (wi : TI) (gt : TG) (te : TE) (n : Nat) (Pr : Nat → V → Hp → Prop) (D : Addr) : St → Hp → Prop := fun σ H =>
  t1 { nx := fun σ1 Ha => wi σ1 Ha fun J Hb => SameH H Hb ∧ ∃ Wv : Nat → St → Hp → Prop, Wv 0 σ1 Hb ∧ ∀ i σ H, Wv i σ H → (i = n ∧ J.stop i H) ∨ (i < n ∧ J.go i H ∧ ∀ x H', J.yld i H x H' → gt x σ H' fun σ2 H2 => te σ2 H2 fun y H3 => SameH H H3 ∧ Pr i y H3 ∧ ∀ H4, KeepB D H3 H4 → (∃ xs, H4 D = some (.lst xs)) → Wv (i + 1) σ2 H4)
       rt := fun _ _ => False, bk := fun _ _ => False, ct := fun _ _ => False } σ H
theorem gz_start {st : Stmt} {tg iter e : Expr} {yp pos fpos : Pos} {t1 : TS} {wi : TI} {gt : TG} {te : TE} {D : Addr} {Pr : Nat → V → Hp → Prop} {n : Nat} {σ0 : St} {s1 : Shared}
    (hps : PS (gx P w K mg base N qual scope f cd A outer sc H1 [(a, go)]) st t1) (hit : PI (gx P w K mg base N qual scope f cd A outer sc H1 [(a, go)]) tg iter wi) (hg : PG (gx P w K mg base N qual scope f cd A outer sc H1 [(a, go)]) tg gt) (he : PE (gx P w K mg base N qual scope f cd A outer sc H1 [(a, go)]) e te)
    (hs : ∀ x, foldedSetIterable iter (envOfC qual scope sc.heap.objs.size f cd) x = pure x)
    (hnc : ∀ x, (envOfC qual scope sc.heap.objs.size f cd).cells.lookup x = none) (hco : scope.isCoroutine = false) (hi : interactive (envOfC qual scope sc.heap.objs.size f cd) = false) (hgen : ∀ h : Heap, h.get? a = some go → h.IsGen a g) (ha : sc.heap.objs.size ≤ a)
    (I0 : Inv (gx P w K mg base N qual scope f cd A outer sc H1 [(a, go)]) [] σ0 H1 s1) (h : ∀ H2, KeepB D H1 H2 → (∃ xs, H2 D = some (.lst xs)) → tGY t1 wi gt te n Pr D σ0 H2) :
    GSlp P w (frs outer) H1 sc A a g D Pr n 0 [(envOfC qual scope sc.heap.objs.size f cd).locals, a] H1 s1.heap (.fresh (.func [st, .For tg iter [.Expr (.Yield (some e) yp) pos] [] fpos] (envOfC qual scope sc.heap.objs.size f cd))) := by
  refine gslp_of fun C H2 s2 W => ⟨rfl, Gq.to_func fun J' => ?_⟩
  have oL := W.own (envOfC qual scope sc.heap.objs.size f cd).locals (by simp)
  have oA := W.own a (by simp)
  have neC := W.ne
  simp only [List.mem_cons, List.not_mem_nil, or_false, not_or] at neC
  have pa := I0.pin (a, go) (List.mem_append_left _ (List.mem_singleton.mpr rfl))
  have I2 : Inv (gx P w K mg base N qual scope f cd A outer sc H1 [(a, go)]) (pinsAt [C] s2.heap) σ0 H2 s2 := I0.given rfl W.sh oL.1 oL.2 (fun x c e => by have e : (envOfC qual scope sc.heap.objs.size f cd).cells.lookup x = some c := e; rw [hnc] at e; cases e) fun q hq => by
    rcases List.mem_append.mp hq with hq | hq
    · rw [List.mem_singleton.mp hq]
      exact ⟨oA.1 _ pa.1, oA.2, pa.2.2.1, pa.2.2.2.1, pa.2.2.2.2⟩
    · obtain ⟨e1, e2⟩ := mem_at hq
      obtain ⟨o, ho, hd⟩ := W.con
      rw [e2] at ho
      cases ho
      exact ⟨by rw [e1]; exact e2, by rw [e1]; exact W.free, by rw [e1]; exact neC.1, by rw [e1]; exact I0.nofs0 W.young, hd⟩
  refine Gq.to_cons (Gq.to_wrap ?_)
  rw [over_func]
  refine wpAny_mono (hps.run _ s2 σ0 H2 _ I2 (h H2 W.keep W.tr)) (fun fl z q => ?_) fun _ _ x => x.elim
  cases fl with
  | brk => obtain ⟨_, _, _, q⟩ := q; exact False.elim q
  | cont => obtain ⟨_, _, _, q⟩ := q; exact False.elim q
  | ret u => obtain ⟨_, _, _, _, _, q⟩ := q; exact False.elim q
  | next =>
    obtain ⟨σ1, Ha, Ia, q⟩ := q
    refine Gq.to_cons (Gq.to_For hs ?_)
    rw [over_func]
    refine wpAny_mono (hit.run _ z σ1 Ha _ Ia q) (fun v z1 h1 => wpAny_mono h1 (fun itv z2 h2 => ?_) fun _ _ x => x) fun _ _ x => x
    obtain ⟨it, fp, tn, J, Hb, rfl, Ib, T, st, fpok, sm, Wv, w0, hW⟩ := h2
    intro p
    refine gz_loop T hg he hnc hco hi hgen ha (fun C H2 s2 z H3 B i => ?_) hW n 0 (by omega) σ1 Hb z2 C H2 s2 Ib W.con neC.2 st fpok w0 sm
    exact Gq.to_nil (Gq.to_end (.ok (.ret .none)) ⟨_, rfl, .inl rfl, H3, B⟩)
end
/-- a call gives n items, the i-th of them is such a value -/
abbrev SpY := List V → Hp → (Nat → (Nat → V → Hp → Prop) → Prop) → Prop
def GYMade (P : Program) (w : World) (k : Nat) (outer : List Env) (H : Hp) (s : Shared) (n : Nat) (Pr : Nat → V → Hp → Prop) (u : Value) (s' : Shared) : Prop :=
  ∃ (a : Addr) (g : Nat) (gs : GenState) (Pri : List Addr), u = .ref a ∧ s.heap.objs.size ≤ a ∧ a < s'.heap.objs.size ∧ s'.heap.IsGen a g ∧ s'.gens[g]? = some gs ∧ s'.os = s.os ∧ AllBare s'.gens ∧ s'.heap.NoLimit ∧ (∀ b o, s.heap.get? b = some o → s'.heap.get? b = some o) ∧ a ∈ Pri ∧
    (∀ b ∈ Pri, s.heap.objs.size ≤ b ∧ ∃ o, s'.heap.get? b = some o ∧ ∀ v, o.data ≠ .cell v) ∧
    ∀ (A : Around) (D : Addr), Room k A → A.frames = some outer → s'.heap.objs.size ≤ D → GSlp P w (frs outer) H s A a g D Pr n 0 Pri H s'.heap gs
structure GYn (P : Program) (w : World) (K : PySem.W.Frag) (mg : Str → Option Value) (base : Heap) (k : Nat) (f : Addr) (fd : FuncData) (ps : List Str) (sp : SpY) : Prop where
  len : ∀ vs H R, sp vs H R → vs.length = ps.length
  run : ∀ (A : Around) (outer : List Env) (s : Shared) (H : Hp) (args : Args) (us : List Value) (vs : List V) (R : Nat → (Nat → V → Hp → Prop) → Prop), Room k A → Env0 P w K mg base A outer s H → BindsTo s fd args (ps.zip us) → Vals vs us → sp vs H R →
    codeAny (model P w) A (.call (.ref f) args) (fun r s' => match r with | .ok (.ret u) => ∃ n Pr, R n Pr ∧ GYMade P w k outer H s n Pr u s' | _ => False) s
theorem gyn_of {P : Program} {w : World} {K : PySem.W.Frag} {mg : Str → Option Value} {base : Heap} {k : Nat} {f : Addr} {name qual : Str} {params : Arguments} {scope : Scope} {dV kV doc pm cdv ct oc : Value} {an od : Option Addr}
    {osl : Array (Option Value)} {N ps : List Str} {sp : SpY} {st : Stmt} {tg iter e : Expr} {yp pos fpos : Pos} (lk : K.lookup f = some ⟨oc, od, .func (PySem.W.fnOf name qual params [st, .For tg iter [.Expr (.Yield (some e) yp) pos] [] fpos] scope dV kV doc pm an cdv ct), osl⟩) (hcd : PySem.W.codeIn K cdv qual = true) (S : GScope N ps scope)
    (len : ∀ vs H R, sp vs H R → vs.length = ps.length) (hcell : ∀ n : Nat, cellsFrom n scope.names [] = []) (hs : ∀ env x, foldedSetIterable iter env x = pure x := by intro _ _; rfl) (hin : ∀ n, interactive (envOfC qual scope n f cdv) = false := by intro _; rfl)
    (hbody : ∀ (outer : List Env) (s : Shared) (H : Hp) (vs : List V) (R : Nat → (Nat → V → Hp → Prop) → Prop), sp vs H R → ∃ n Pr, R n Pr ∧ ∀ (A : Around) (pn : List (Addr × Obj)) (D : Addr), Room k (A.deeper (envOfC qual scope s.heap.objs.size f cdv)) → H D = none →
      ∃ t1 wi gt te, PS (gx P w K mg base N qual scope f cdv A outer s H pn) st t1 ∧ PI (gx P w K mg base N qual scope f cdv A outer s H pn) tg iter wi ∧ PG (gx P w K mg base N qual scope f cdv A outer s H pn) tg gt ∧ PE (gx P w K mg base N qual scope f cdv A outer s H pn) e te ∧
        ∀ H2, KeepB D H H2 → (∃ xs, H2 D = some (.lst xs)) → tGY t1 wi gt te n Pr D (start N vs) H2) :
    GYn P w K mg base (k + 1) f (PySem.W.fnOf name qual params [st, .For tg iter [.Expr (.Yield (some e) yp) pos] [] fpos] scope dV kV doc pm an cdv ct) ps sp := by
  refine ⟨len, fun A outer s H args us vs R hr e0 hb r hsp => ?_⟩
  have hl := len _ _ _ hsp
  have KX : K.In s.heap := e0.mod.kin.keeps fun b o q => (e0.bs b o q).1
  have lim : s.heap.NoLimit := e0.mod.nolimit.keeps fun b o q => (e0.bs b o q).1
  have hkind : ∀ y ∈ ps.zip us, scope.names.lookup y.1 = some .local ∨ (scope.names.lookup y.1 = some .cell ∧ ((cellsFrom (s.heap.objs.size + 1) scope.names []).lookup y.1).isSome = true) := fun ⟨x, v⟩ hy => by
    rcases S.par x (List.of_mem_zip hy).1 with q | q
    · exact .inl q
    · exact .inr ⟨q, PySem.W.cellsFrom_some _ _ _ (.inl q)⟩
  refine codeAny_call_generator hr.depth (KX _ _ lk) rfl S.co S.gen rfl (PySem.W.codeRec_of KX hcd) (hb _ _ _ _ ?_)
  refine wpAny_newFunctionEnv_cells S.kind hkind fun env he s1 x => ?_
  subst he
  have lim1 : s1.heap.NoLimit := lim.keeps x.toInCall.keep
  refine ⟨lim1, ?_⟩
  obtain ⟨h1, tk, es1, hk1⟩ := x.done
  have os1 : s1.os = s.os := by rw [es1]
  have gen1 : s1.gens = s.gens := by rw [es1]
  have lt1 : s.heap.objs.size < s1.heap.objs.size := x.toInCall.ns.lt
  have kp1 : ∀ b o, s.heap.get? b = some o → s1.heap.get? b = some o := x.toInCall.keep
  obtain ⟨n, Pr, hR, hB⟩ := hbody outer s H vs R hsp
  have main : ∀ (go : Obj) (nm qn : Value) (tk2 : Nat), go.cls = .type "generator" → go.data = .fields #[.int s1.gens.size 0, nm, qn] → go.slots = #[] → (∀ h : Heap, (h.push go).get? h.objs.size = some go) →
      ∃ n Pr, R n Pr ∧ GYMade P w (k + 1) outer H s n Pr (.ref s1.heap.objs.size) { s1 with gens := s1.gens.push (.fresh (.func [st, .For tg iter [.Expr (.Yield (some e) yp) pos] [] fpos] (envOfC qual scope s.heap.objs.size f cdv))), toks := tk2, heap := s1.heap.push go } := by
    intro go nm qn tk2 hgc hgd0 hgs hgp
    have hgen : ∀ h : Heap, h.get? s1.heap.objs.size = some go → h.IsGen s1.heap.objs.size s1.gens.size := fun h q => ⟨go, nm, qn, q, hgc, hgd0, hgs⟩
    have hpushed : (s1.heap.push go).get? s1.heap.objs.size = some go := hgp _
    have hgd : ∀ v, go.data ≠ .cell v := fun v q => by rw [hgd0] at q; cases q
    refine ⟨n, Pr, hR, s1.heap.objs.size, s1.gens.size, _, [(envOfC qual scope s.heap.objs.size f cdv).locals, s1.heap.objs.size], rfl, Nat.le_of_lt lt1, ?_, hgen _ hpushed, Array.getElem?_push_size .., os1, ?_, lim1.keeps fun b o q => Heap.get?_push_of_some _ q, fun b o q => Heap.get?_push_of_some _ (kp1 b o q), by simp, ?_, ?_⟩
    · show _ < (s1.heap.push _).objs.size
      rw [Heap.size_push]
      exact Nat.lt_succ_self _
    · exact AllBare.push (by rw [gen1]; exact e0.bare) rfl
    · intro b hb
      rcases List.mem_cons.mp hb with rfl | hb
      · obtain ⟨o, es, ep, ho, hd, _⟩ := x.toInCall.ns
        exact ⟨Nat.le_refl _, o, Heap.get?_push_of_some _ ho, fun v q => by rw [hd] at q; cases q⟩
      · rw [List.mem_singleton.mp hb]
        exact ⟨Nat.le_of_lt lt1, go, hpushed, hgd⟩
    · intro Aw D hrw hfr hD
      have e0w : Env0 P w K mg base Aw outer s H := ⟨hfr, e0.mod, e0.bs, e0.bsz, e0.funs, e0.frf, e0.hok, e0.bare⟩
      have I1 : Inv (gcxOf P w K mg base N qual scope f cdv Aw outer s H C8.E0 []) [] (start N vs) H s1 := inv_startG S hrw.hd e0w hl r x
      have lts : s1.heap.objs.size ≤ D := by
        have hD' : (s1.heap.push go).objs.size ≤ D := hD
        rw [Heap.size_push] at hD'
        omega
      have hDn : H D = none := I1.hok.fresh lts
      obtain ⟨t1, wi, gt, te, q1, q2, q3, q4, q5⟩ := hB Aw [(s1.heap.objs.size, go)] D (hrw.deeper _) hDn
      have I2 : Inv (gx P w K mg base N qual scope f cdv Aw outer s H [(s1.heap.objs.size, go)]) [] (start N vs) H { s1 with gens := s1.gens.push (.fresh (.func [st, .For tg iter [.Expr (.Yield (some e) yp) pos] [] fpos] (envOfC qual scope s.heap.objs.size f cdv))), toks := tk2, heap := s1.heap.push go } := by
        have I3 : Inv (gcxOf P w K mg base N qual scope f cdv Aw outer s H C8.E0 []) [] (start N vs) H { s1 with gens := s1.gens.push (.fresh (.func [st, .For tg iter [.Expr (.Yield (some e) yp) pos] [] fpos] (envOfC qual scope s.heap.objs.size f cdv))), toks := tk2, heap := s1.heap.push go } :=
          I1.call' (ch := []) rfl (Un.kept fun b o q => Heap.get?_push_of_some _ q) (I1.hok.kept fun b o q => Heap.get?_push_of_some _ q) (AllBare.push (by rw [gen1]; exact e0.bare) rfl) fun b z => by simp at z
        refine ⟨⟨I3.ok.mod, I3.ok.kind, I3.ok.glob, I3.ok.blt, I3.ok.above, I3.ok.inj, I3.ok.has, I3.ok.cab, I3.ok.hd, I3.ok.frames, I3.ok.stk, I3.ok.exf, I3.ok.bs, I3.ok.bsz, I3.ok.noex, I3.ok.exfs, I3.ok.funs, I3.ok.frf⟩, I3.os, I3.bare, I3.base, I3.loc, I3.cell, I3.free, I3.freeC, fun p hp => ?_, I3.hok, I3.len⟩
        rw [List.append_nil] at hp
        rw [List.mem_singleton.mp hp]
        exact ⟨hpushed, I1.hok.fresh (Nat.le_refl _), Nat.ne_of_gt lt1, I1.nofs (Nat.le_refl _), hgd⟩
      exact gz_start q1 q2 q3 q4 (fun y => hs _ y) (fun y => by show (cellsFrom (s.heap.objs.size + 1) scope.names []).lookup y = none; rw [hcell]; rfl) S.co (hin _) hgen (Nat.le_of_lt lt1) I2 q5
  exact main _ _ _ _ rfl rfl rfl fun h => Heap.get?_push_size _ rfl
end L2
set_option maxHeartbeats 1000000
namespace L2
open PySem PySem.Spec PyProof.Rows GenW
theorem Inv.hushed {X : Cx} {pins : List (Addr × Obj)} {σ : St} {H : Hp} {s : Shared} (I : Inv X pins σ H s) (g : Nat) : Inv X pins σ H (Hu.hush s g) :=
  ⟨I.ok, I.os, Hu.hush_bare I.bare, I.base, I.loc, I.cell, I.free, I.freeC, I.pin, I.hok, I.len⟩
theorem Inv.back {X : Cx} {pins : List (Addr × Obj)} {σ : St} {H : Hp} {s s2 s' : Shared} {g : Nat} (I : Inv X pins σ H s2) (b : Hu.Back s g s2 s') (hb : AllBare s.gens) : Inv X pins σ H s' := by
  obtain ⟨h1, h2, h3, h4, h5, _⟩ := b
  exact ⟨I.ok, h2.trans I.os, h5 hb I.bare, by rw [h1]; exact I.base, by rw [h1]; exact I.loc, by rw [h1]; exact I.cell, I.free, I.freeC, by rw [h1]; exact I.pin, by rw [h1]; exact I.hok, I.len⟩
theorem asleepF {α : Type} {M : Model} {A : Around} {t : Sem α} {Q Q' : α → Shared → Prop} {E : Value → Shared → Prop} {s : Shared} (g : Nat) (h : wpAny M A t Q (fun _ _ => False) (Hu.hush s g)) (hQ : ∀ a s2 s', Hu.Back s g s2 s' → Q a s2 → Q' a s') : wpAny M A t Q' E s :=
  wpAny_mono (Hu.wpAny_asleep g h) (fun a s' ⟨s2, b, q⟩ => hQ a s2 s' b q) fun _ _ ⟨_, _, x⟩ => x.elim
/-- an expression whose value is a generator that has not begun: how many items it will hand out, and what they are -/
abbrev TYg := L2.St → Hp → (Nat → (Nat → V → Hp → Prop) → Hp → Prop) → Prop
structure PYg (X : Cx) (k : Nat) (e : Expr) (t : TYg) : Prop where
  run : ∀ (pins : List (Addr × Obj)) (s : Shared) (σ : L2.St) (H : Hp) (R : Nat → (Nat → V → Hp → Prop) → Hp → Prop), Inv X pins σ H s → t σ H R → wpAny (model X.prog X.w) X.A (eval e X.env)
    (fun u s' => ∃ H1 sc n Pr, Inv X pins σ H1 sc ∧ R n Pr H1 ∧ GYMade X.prog X.w k X.stack H1 sc n Pr u s') X.xe s
def tYCall (sp : SpY) (dvs : List V) (t : TA) : TYg := fun σ H R => t σ H fun vs H1 => sp (vs ++ dvs) H1 fun n Pr => R n Pr H1
theorem run_gy {X : Cx} {k : Nat} {f : Addr} {fd : FuncData} {ps : List Str} {sp : SpY} {dvs : List V} {ds : List Value} {pins : List (Addr × Obj)} {σ : L2.St} {H : Hp} {s : Shared} {us : List Value} {vs : List V} {R : Nat → (Nat → V → Hp → Prop) → Hp → Prop} {E1 : Value → Shared → Prop} (F : GYn X.prog X.w X.K X.mg X.base k f fd ps sp) (hr : Room k X.A) (hb : Binds X.K fd ps ds) (hd : Vals dvs ds)
    (I : Inv X pins σ H s) (r : Vals vs us) (h : sp (vs ++ dvs) H fun n Pr => R n Pr H) :
    wpAny (model X.prog X.w) X.A (call (.ref f) us) (fun u s' => ∃ H1 sc n Pr, Inv X pins σ H1 sc ∧ R n Pr H1 ∧ GYMade X.prog X.w k X.stack H1 sc n Pr u s') E1 s := by
  have r2 : Vals (vs ++ dvs) (us ++ ds) := r.append hd
  have hl2 : (us ++ ds).length = ps.length := by rw [← r2.length]; exact F.len _ _ _ h
  refine wpAny_call (codeAny_mono (F.run X.A X.stack s H ⟨us, []⟩ (us ++ ds) (vs ++ dvs) _ hr I.env0 (hb s us I.kIn hl2) r2 h) fun r s' hq => ?_)
  cases r with
  | error e => exact False.elim hq
  | ok fl =>
    cases fl with
    | ret u =>
      obtain ⟨n, Pr, q1, q2⟩ := hq
      exact ⟨H, s, n, Pr, I, q1, q2⟩
    | next => exact False.elim hq
    | brk => exact False.elim hq
    | cont => exact False.elim hq
/-- f(e, ..) of a generator def -/
theorem pyg_call {X : Cx} {k : Nat} {f : Addr} {fd : FuncData} {ps : List Str} {sp : SpY} {dvs : List V} {ds : List Value} {x : Str} {p p' : Pos} {e : Expr} {es : List Expr} {t : TA} (F : GYn X.prog X.w X.K X.mg X.base k f fd ps sp) (hr : Room k X.A) (hg : Gl X x) (hm : X.mg x = some (.ref f)) (hk : PySem.W.keepIn X.K (.ref f) = true) (hb : Binds X.K fd ps ds) (hd : Vals dvs ds)
    (ha : PA X (e :: es) t) (hdb : (x == ("__debug__" : Str)) = false := by decide) (he : starEach (e :: es) X.env = (false, eval e X.env) :: starEach es X.env := by rfl) (hpl : (backTo p' (starEach es X.env)).any (·.1) = false := by rfl) :
    PYg X k (.Call (.Name x p) (e :: es) [] p') (tYCall sp dvs t) := by
  refine ⟨fun pins s σ H R I h => ?_⟩
  refine wpAny_Call_Name_kw (ld_glob I hg hm ?_ hdb)
  refine PySem.W.callWith_K (h₀ := X.base) I.ok.mod.kin hk (thn (ha.run p' pins s σ H _ I h) fun us s1 ⟨vs, H1, I1, r, q⟩ => ⟨I1.kIn, ?_⟩) he hpl
  exact run_gy F hr hb hd I1 r q
section
variable {X : Cx}
def tLcG (ty : TYg) (gt : TG) (tt : TT) (te : TE) (vs : List Nat) : TE := fun σ H Q => ty σ H fun n Pr H1 => ∀ D, H1 D = none → ∃ W : Nat → Hp → Prop, W 0 (upd H1 D (.lst [])) ∧ (∀ H H', W n H → SameH H H' → Q (.ref D) H') ∧
  ∀ i H, i < n → W i H → ∀ y H', SameH H H' → Pr i y H' → gt y (wipe σ vs) H' fun σ2 H2 => wipe σ2 vs = wipe σ vs ∧ tt σ2 H2 fun b H3 =>
    if b = true then te σ2 H3 fun z H4 => ∃ acc, H4 D = some (.lst acc) ∧ acc.length < sizeLine ∧ KeepB D H' (upd H4 D (.lst (acc ++ [z]))) ∧ (∃ xs, upd H4 D (.lst (acc ++ [z])) D = some (.lst xs)) ∧ W (i + 1) (upd H4 D (.lst (acc ++ [z])))
    else KeepB D H' H3 ∧ (∃ xs, H3 D = some (.lst xs)) ∧ W (i + 1) H3
theorem lcG_core {pins : List (Addr × Obj)} {s : Shared} {σ : L2.St} {H : Hp} {Q : VK} {k : Nat} {elt tg iter : Expr} {ifs : List Expr} {scope : Scope} {own : List (Str × Nat)} {pos pos' : Pos} {ty : TYg} {gt : TG} {tt : TT} {te : TE} {use : Option (Value → Sem Unit)} {Qf : Value → Shared → Prop}
    (hc : X.calm = true) (hN : X.N.Nodup) (I : Inv X pins σ H s) (hi : PYg X k iter ty) (hr : Room (k + 1) X.A) (ok : BlkOk X.N X.env.scope scope own) (hcl : ∀ (n : Nat) (cl : List (Str × Addr)), cellsFrom n scope.names cl = cl)
    (hg : ∀ (s : Shared) (H : Hp) (C : Addr) (cl : List (Str × Addr)) (fp : List Addr), PG (X.blk s H scope (compEnvC scope cl C X.env) fp) tg gt) (ht : ∀ (s : Shared) (H : Hp) (C : Addr) (cl : List (Str × Addr)) (fp : List Addr), PTs (X.blk s H scope (compEnvC scope cl C X.env) fp) ifs tt)
    (he : ∀ (s : Shared) (H : Hp) (C : Addr) (cl : List (Str × Addr)) (fp : List Addr), PE (X.blk s H scope (compEnvC scope cl C X.env) fp) elt te) (hs : ∀ x, foldedSetIterable iter X.env x = pure x)
    (h : tLcG ty gt tt te (own.map (·.2)) σ H Q)
    (hRR : ∀ D C s' m H', Inv X pins σ H' s' → Q (.ref D) H' → s'.heap.Ns C m → FpOk X pins H' C → compPost (model X.prog X.w) X.A X.xe use Qf (.ref D) C (.ok .next) s') :
    wpAny (model X.prog X.w) X.A (comprehension (.ListComp elt [⟨tg, iter, ifs, 0⟩] scope pos) scope X.env pos' (newList []) false (eval iter X.env) use) Qf X.xe s := by
  have hfree : ∀ y ∈ scope.names, y.2 = .free → ∃ c, X.env.cells.lookup y.1 = some c := fun y hy e => by
    rcases ok.free y hy e with k | k
    · exact I.ok.has _ (.inl k)
    · exact I.ok.has _ (.inr k)
  refine wpAny_comprehension_free (use := use) rfl hs (closure_ok hfree) ok.kind (fun y hy e => by rw [ok.uniq y hy, e])
    (thn (hi.run pins s σ H _ I h) fun xv s2 hx => ?_)
  obtain ⟨H1, sc, n, Pr, Isc, q, a, g, gs0, Pri0, rfl, ha1, ha2, hgen0, hgs0, hos, hbare, hlim, hkp, haP, hPri0, hmk⟩ := hx
  refine wpAny_pyIter_gen hgen0 ?_
  have I2 : Inv X pins σ H1 s2 := Isc.call' (ch := []) hos (Un.kept hkp) (Isc.hok.kept hkp) hbare fun b z => by simp at z
  refine wpAny_newObj_type (newEnv_comp ?_) (by show 0 ≤ sizeLine; decide)
  generalize hD : s2.heap.objs.size = D
  have hDn : H1 D = none := I2.hok.fresh (Nat.le_of_eq hD)
  obtain ⟨W, w0, wend, step⟩ := q D hDn
  -- the new list
  generalize hs3 : ({ s2 with heap := s2.heap.push { cls := .type "list", data := .seq ([] : List Value).toArray } } : Shared) = s3
  have I3 : Inv X pins σ (upd H1 D (.lst [])) s3 := by
    rw [← hs3]
    refine I2.laid (t' := s2.toks) (fun b o e => Heap.get?_push_of_some _ e) (Nat.le_of_eq hD) ⟨Nat.zero_le _, [], 0, .nil, ?_⟩
    rw [← hD]
    exact Heap.get?_push_size _ rfl
  have h3 : s3.heap = s2.heap.push { cls := .type "list", data := .seq ([] : List Value).toArray } := by rw [← hs3]
  have g3 : s3.gens = s2.gens := by rw [← hs3]
  have I4 := block_start (fp := []) I3 ok hN (fun b hb => by simp at hb)
  have pg := hg sc H1 s3.heap.objs.size (cellsFrom (s3.heap.objs.size + 1) scope.names (cloFrom X.env.cells scope.names [])) []
  have pt := ht sc H1 s3.heap.objs.size (cellsFrom (s3.heap.objs.size + 1) scope.names (cloFrom X.env.cells scope.names [])) []
  have pe := he sc H1 s3.heap.objs.size (cellsFrom (s3.heap.objs.size + 1) scope.names (cloFrom X.env.cells scope.names [])) []
  show codeAny _ _ (.compStart (.ListComp elt [⟨tg, iter, ifs, 0⟩] scope pos) 0 (.ref a) (.ref D) (compEnvC scope (cellsFrom (s3.heap.objs.size + 1) scope.names (cloFrom X.env.cells scope.names [])) s3.heap.objs.size X.env)) (compPost (model X.prog X.w) X.A X.xe use Qf (.ref D) s3.heap.objs.size) { s3 with heap := pushCells (s3.heap.push { cls := .type "dict", data := .dict #[] }) scope.names }
  have hcells : cellsFrom (s3.heap.objs.size + 1) scope.names (cloFrom X.env.cells scope.names []) = cloFrom X.env.cells scope.names [] := hcl _ _
  generalize hce : compEnvC scope (cellsFrom (s3.heap.objs.size + 1) scope.names (cloFrom X.env.cells scope.names [])) s3.heap.objs.size X.env = ce at I4 pg pt pe ⊢
  have cL : ce.locals = s3.heap.objs.size := by subst hce; rfl
  have cC : ∀ x c, ce.cells.lookup x = some c → X.env.cells.lookup x = some c := fun x c e => by
    subst hce
    have e : (cellsFrom (s3.heap.objs.size + 1) scope.names (cloFrom X.env.cells scope.names [])).lookup x = some c := e
    rw [hcells] at e
    rcases cloFrom_mem (PySem.mem_of_lookup e) with hm | ⟨k1, k2⟩
    · cases hm
    · obtain ⟨c', hc'⟩ := hfree _ k1 rfl
      have hc' : X.env.cells.lookup x = some c' := hc'
      rw [hc'] at k2
      rw [hc', k2]
      rfl
  have cell0 : ∀ x c, ce.cells.lookup x = some c → ∃ v o, sc.heap.get? c = some o ∧ o.data = .cell v ∧ sc.heap.IsCell c v ∧ H1 c = none := fun x c e => by
    obtain ⟨v, o, ho, hd⟩ := Isc.cell x c (cC x c e)
    exact ⟨v, o, ho, hd, ⟨o, ho, hd⟩, Isc.freeC x c (cC x c e)⟩
  have cell1 : ∀ {c : Addr} {v : Option Value} {H' : Hp} {h' : Heap}, Un (frs X.stack) [] H1 H' sc.heap h' → H1 c = none → sc.heap.IsCell c v → h'.IsCell c v := fun {c v H' h'} un nn ⟨o, ho, hv⟩ => by
    obtain ⟨sl, q⟩ := un.any ho nn (by simp)
    exact ⟨_, q, hv⟩
  generalize hs4 : ({ s3 with heap := pushCells (s3.heap.push { cls := .type "dict", data := .dict #[] }) scope.names } : Shared) = s4 at I4 ⊢
  have k24 : ∀ b o, s2.heap.get? b = some o → s4.heap.get? b = some o := fun b o e => by
    rw [← hs4]
    exact pushCells_keeps _ _ _ _ (Heap.get?_push_of_some _ (by rw [h3]; exact Heap.get?_push_of_some _ e))
  have g4 : s4.gens = s2.gens := by rw [← hs4]; exact g3
  have scs2 : sc.heap.objs.size ≤ s2.heap.objs.size := Nat.le_trans ha1 (Nat.le_of_lt ha2)
  have scD : sc.heap.objs.size ≤ D := by rw [← hD]; exact scs2
  have s23 : s2.heap.objs.size ≤ s3.heap.objs.size := by rw [h3, Heap.size_push]; exact Nat.le_succ _
  have scs3 : sc.heap.objs.size ≤ s3.heap.objs.size := Nat.le_trans scs2 s23
  -- the block's context, told from the generator's call on
  have I5 : Inv (X.blk sc H1 scope ce []) [] (wipe σ (own.map (·.2))) (upd H1 D (.lst [])) s4 := by
    refine ⟨⟨I4.ok.mod, I4.ok.kind, I4.ok.glob, I4.ok.blt, Nat.le_trans scs3 I4.ok.above, I4.ok.inj, I4.ok.has, fun y c e1 e2 => Nat.le_trans scs3 (I4.ok.cab y c e1 e2), I4.ok.hd, I4.ok.frames, I4.ok.stk, fun b hb => by simp at hb, Isc.bs, Nat.le_trans Isc.ok.bsz Isc.sz, fun b o _ hb => by simp at hb, fun b hb => by simp at hb, Isc.stack, Isc.stkFree⟩,
      ?_, I4.bare, ?_, I4.loc, I4.cell, I4.free, I4.freeC, fun p hp => absurd (show p ∈ ([] : List (Addr × Obj)) ++ [] from hp) (by simp), I4.hok, I4.len⟩
    · show s4.os = sc.os
      rw [← hs4, ← hs3]
      exact hos
    · have ne : ∀ b o, sc.heap.get? b = some o → b ≠ D := fun b o e => Nat.ne_of_lt (Nat.lt_of_lt_of_le (Heap.lt_size e) scD)
      have kp : ∀ b o, sc.heap.get? b = some o → s4.heap.get? b = some o := fun b o e => k24 b o (hkp b o e)
      exact ⟨fun b o e _ _ _ => kp b o e, fun b o e _ _ _ => ⟨o.slots, kp b o e⟩, fun b o e nn _ => by rw [upd_ne (ne b o e)]; exact nn, fun b o e _ => ⟨o, kp b o e⟩, fun b xs e => by rw [upd_ne (ne_of_none e hDn)]; exact e, fun b o u e => by rw [upd_ne (ne_of_none e hDn)]; exact e, fun b qs e => ⟨#[], by rw [upd_ne (ne_of_none e hDn)]; simpa using e⟩⟩
  have nCA : ∀ b ∈ Pri0, b < s2.heap.objs.size := fun b hb => by
    obtain ⟨_, o, ho, _⟩ := hPri0 b hb
    exact Heap.lt_size ho
  have hroomA : Room k X.A.in1 := hr.in1
  have hG0 := hmk X.A.in1 D hroomA Isc.ok.frames (Nat.le_of_eq hD)
  have loop : codeAny (model X.prog X.w) X.A (.compLoop (.ListComp elt [⟨tg, iter, ifs, 0⟩] scope pos) 0 (.ref a) (.ref D) ce) (compPost (model X.prog X.w) X.A X.xe use Qf (.ref D) s3.heap.objs.size) s4 := by
    refine compLoop_any (fun m s' => ∃ (i : Nat) (H' : Hp) (gs : GenState) (Pri : List Addr) (Hy : Hp) (hy : Heap), i + m = n ∧ Inv (X.blk sc H1 scope ce []) [] (wipe σ (own.map (·.2))) H' s' ∧ s'.gens[g]? = some gs ∧ GSlp X.prog X.w (frs X.stack) H1 sc X.A.in1 a g D Pr m i Pri Hy hy gs ∧
      (∀ b ∈ Pri, (∀ o, hy.get? b = some o → s'.heap.get? b = some o) ∧ H' b = none) ∧ a ∈ Pri ∧ s3.heap.objs.size ∉ Pri ∧ KeepB D Hy H' ∧ (∃ xs, H' D = some (.lst xs)) ∧ W i H' ∧ s'.heap.IsGen a g) ?_ n ?_
    rotate_left
    · refine ⟨0, upd H1 D (.lst []), gs0, Pri0, H1, s2.heap, by omega, I5, by rw [g4]; exact hgs0, hG0, fun b hb => ⟨fun o e => k24 b o e, ?_⟩, haP, fun z => absurd (nCA _ z) (Nat.not_lt.mpr s23), fun b u hb e => by rw [upd_ne hb]; exact e, ⟨[], upd_same⟩, w0, hgen0.keeps k24⟩
      have := nCA b hb
      rw [upd_ne (by rw [← hD]; exact Nat.ne_of_lt this)]
      obtain ⟨h1, o, ho, hd⟩ := hPri0 b hb
      exact Isc.hok.fresh h1
    rintro m s5 ⟨i, H5, gs, Pri, Hy, hy, him, I6, hgs, hG, hown, haPri, hCP, hkb, htr, hw, hgen⟩
    have oC : ∃ o, s5.heap.get? s3.heap.objs.size = some o ∧ ∀ v, o.data ≠ .cell v := by
      obtain ⟨mm, ⟨o, es, ep, ho, hd, _⟩, _⟩ := I6.loc
      have ho : s5.heap.get? ce.locals = some o := ho
      rw [cL] at ho
      exact ⟨o, ho, fun v q => by rw [hd] at q; cases q⟩
    have fC : H5 s3.heap.objs.size = none := by
      have z : H5 ce.locals = none := I6.free
      rw [cL] at z
      exact z
    have S6 := I6.sh rfl
    have wk : Wk X.prog X.w (frs X.stack) H1 sc D Pri Hy hy s3.heap.objs.size H5 (s5.setGen g .running) := ⟨⟨S6.os, allBare_setGen S6.bare rfl, S6.un, S6.hok⟩, hown, hkb, htr, oC, fC, scs3, hCP⟩
    have hgl : g < s5.gens.size := (Array.getElem?_eq_some_iff.mp hgs).1
    refine wpAny_gsz (n := g + 1) hgl (wpAny_mono (Gq.next_X (E := fun _ _ => False) (I6.ok.hd hc) I6.nolimit hr.depth hgen hgs (gslp_go hG _ _ _ wk) fun e z hz => ?_) (fun r z hz => hz) fun _ _ x => False.elim x)
    cases m with
    | zero =>
      obtain ⟨r, rfl, hr1, H3, B⟩ := hz
      refine ⟨rfl, hr1, fun h' hk _ => ?_⟩
      have I7 : Inv X pins σ H3 { z.setGen g .finished with heap := h' } := Isc.call' (ch := []) B.sh.os (B.sh.un.trans (Un.kept hk)) (B.sh.hok.kept hk) (allBare_setGen B.sh.bare rfl) fun b zz => by simp at zz
      obtain ⟨mm, ⟨o, es, ep, ho, r2⟩, _⟩ := I6.loc
      have ho : s5.heap.get? ce.locals = some o := ho
      rw [cL] at ho
      have hi0 : i = n := by omega
      subst hi0
      exact hRR D s3.heap.objs.size _ mm H3 I7 (wend H5 H3 hw B.same) ⟨o, es, ep, hk _ _ (B.con _ ho), r2⟩ (Isc.fpOk scs3 B.free)
    | succ m =>
      obtain ⟨v, g0, l, kk, c, p, ff, rfl, hq, y, H3, Pri', rv, B, hPr, hCP', haP', hPO, hG'⟩ := hz
      refine ⟨hq, ?_⟩
      intro hsz
      show wpAny _ _ (letOwnedTupleGo tg (.ref a) v) _ _ _
      obtain ⟨og, nm, qn, hog, hogc, hogd, _⟩ := id B.gen
      refine go_of (o := og) hog hogc hogd (by decide) ?_
      generalize hz' : z.setGen g (End.susp v g0 l kk c p ff).genState = z'
      have zh : z'.heap = z.heap := by rw [← hz']; rfl
      have zb : AllBare z'.gens := by rw [← hz']; exact allBare_setGen B.sh.bare (End.bare_of_quiet hq)
      have zo : z'.os = z.os := by rw [← hz']; rfl
      have hgz : g < z.gens.size := by
        have e : (z.setGen g (End.susp v g0 l kk c p ff).genState).gens.size = z.gens.size := setGen_size _ _ _
        have hsz : g + 1 ≤ (z.setGen g (End.susp v g0 l kk c p ff).genState).gens.size := hsz
        omega
      have zg : z'.gens[g]? = some (End.susp v g0 l kk c p ff).genState := by rw [← hz']; exact setGen_at hgz
      have I7 : Inv (X.blk sc H1 scope ce []) [] (wipe σ (own.map (·.2))) H3 z' := I6.given rfl ⟨zo.trans B.sh.os, zb, by rw [zh]; exact B.sh.un, by rw [zh]; exact B.sh.hok⟩ (fun o e => by
        have e : s5.heap.get? ce.locals = some o := e
        show z'.heap.get? ce.locals = some o
        rw [zh]
        rw [cL] at e ⊢
        exact B.con o e) (by show H3 ce.locals = none; rw [cL]; exact B.free) (fun x c e => by
          obtain ⟨v0, o0, e0, _, hc0, n0⟩ := cell0 x c e
          refine ⟨B.sh.un.free c o0 e0 n0 (by simp), fun v hv => ?_⟩
          have h5 := cell1 (I6.sh rfl).un n0 hc0
          obtain ⟨o1, q1, d1⟩ := hv
          obtain ⟨o2, q2, d2⟩ := h5
          rw [q1] at q2
          cases q2
          rw [d1] at d2
          cases d2
          rw [zh]
          exact cell1 B.sh.un n0 hc0) fun p hp => absurd (show p ∈ ([] : List (Addr × Obj)) ++ [] from hp) (by simp)
      have fP : ∀ b ∈ Pri', FpOk (X.blk sc H1 scope ce []) [] H3 b := fun b hb => by
        obtain ⟨q1, q2, o, q3, q4⟩ := hPO b hb
        exact ⟨q2, fun zz => hCP' (by have zz : b = ce.locals := zz; rw [cL] at zz; exact zz ▸ hb), I7.nofs0 q1, .inr q1, fun x c e zz => (by obtain ⟨_, o0, e0, _⟩ := cell0 x c e; exact absurd (Nat.lt_of_lt_of_le (Heap.lt_size e0) (zz ▸ q1)) (Nat.lt_irrefl _)), fun p hp => absurd (show p ∈ ([] : List (Addr × Obj)) ++ [] from hp) (by simp)⟩
      have I8 := I7.pinned fP (fun b hb => by
        obtain ⟨_, _, o, q3, q4⟩ := hPO b hb
        exact ⟨o, by rw [zh]; exact q3, q4⟩)
      have sus : Hu.Sus (End.susp v g0 l kk c p ff).genState := True.intro
      refine asleepF g (pg.run _ _ _ H3 y v _ (I8.hushed g) rv (step i H5 (by omega) hw y H3 B.same hPr)) fun _ s2' s8 bk8 ⟨σ8, H8, I9, hw8, q8⟩ => ?_
      have I9 := I9.back bk8 zb
      have g8 := bk8.one _ zg sus
      refine asleepF g (pt.run _ _ σ8 H8 _ (I9.hushed g) q8) fun b s2'' s9 bk9 ⟨H9, I10, q9⟩ => ?_
      have I10 := I10.back bk9 I9.bare
      have g9 := bk9.one _ g8 sus
      -- the turn's end
      have fin : ∀ {s' : Shared} {H' : Hp}, Inv (X.blk sc H1 scope ce []) ([] ++ pinsAt Pri' z'.heap) σ8 H' s' → s'.gens[g]? = some (End.susp v g0 l kk c p ff).genState → KeepB D H3 H' → (∃ xs, H' D = some (.lst xs)) → W (i + 1) H' → ∃ m', m' < m + 1 ∧ ∃ (i : Nat) (H' : Hp) (gs : GenState) (Pri : List Addr) (Hy : Hp) (hy : Heap), i + m' = n ∧ Inv (X.blk sc H1 scope ce []) [] (wipe σ (own.map (·.2))) H' s' ∧ s'.gens[g]? = some gs ∧ GSlp X.prog X.w (frs X.stack) H1 sc X.A.in1 a g D Pr m' i Pri Hy hy gs ∧
          (∀ b ∈ Pri, (∀ o, hy.get? b = some o → s'.heap.get? b = some o) ∧ H' b = none) ∧ a ∈ Pri ∧ s3.heap.objs.size ∉ Pri ∧ KeepB D Hy H' ∧ (∃ xs, H' D = some (.lst xs)) ∧ W i H' ∧ s'.heap.IsGen a g := fun {s' H'} I' hgs' hk' ht' hw' => by
        have pin' : ∀ b ∈ Pri', ∀ o, z.heap.get? b = some o → s'.heap.get? b = some o ∧ H' b = none := fun b hb o e =>
          let q := I'.pin (b, o) (List.mem_append_right _ (List.mem_append_right _ (mem_pinsAt hb (by rw [zh]; exact e))))
          ⟨q.1, q.2.1⟩
        have hl : (wipe σ (own.map (·.2))).length = σ8.length := by rw [← hw8, wipe_length]
        refine ⟨m, Nat.lt_succ_self _, i + 1, H', _, Pri', H3, z.heap, by omega, (I'.unpinned (pins := [])).weak hl (fun j v e => ?_), hgs', hG', fun b hb => ?_, haP', hCP', hk', ht', hw', ⟨og, nm, qn, (pin' a haP' og hog).1, hogc, hogd, by assumption⟩⟩
        · rw [← hw8] at e
          exact (wipe_some e).1
        · obtain ⟨_, _, o, q3, _⟩ := hPO b hb
          exact ⟨fun o' e' => (pin' b hb o' e').1, (pin' b hb o q3).2⟩
      cases b with
      | false =>
        simp only [Bool.false_eq_true, if_false] at q9 ⊢
        exact fin I10 g9 q9.1 q9.2.1 q9.2.2
      | true =>
        simp only [if_true] at q9 ⊢
        refine asleepF g (pe.run _ _ σ8 H9 _ (I10.hushed g) q9) fun zz s2''' s10 bk10 ⟨yv, H10, I11, r10, acc, hD10, hz10, kk1, kk2, nx⟩ => ?_
        have I11 := I11.back bk10 I10.bare
        have g10 := bk10.one _ g9 sus
        refine asleepF g (app_ok (X := X.blk sc H1 scope ce []) (E := fun _ _ => False) (Q := fun _ s' => Inv (X.blk sc H1 scope ce []) ([] ++ pinsAt Pri' z'.heap) σ8 (upd H10 D (.lst (acc ++ [yv]))) s') (I11.hushed g) hD10 hz10 r10 fun s11 I12 => I12) fun _ s2'''' s11 bk11 I12 => ?_
        exact fin (I12.back bk11 I11.bare) (bk11.one _ g10 sus) kk1 kk2 nx
  exact codeAny_compStart_list loop (wpAny_pyIter_gen (hgen0.keeps k24) loop)
/-- as a value -/
theorem pe_lcG {k : Nat} {elt tg iter : Expr} {ifs : List Expr} {scope : Scope} {own : List (Str × Nat)} {pos : Pos} {ty : TYg} {gt : TG} {tt : TT} {te : TE} (hc : X.calm = true) (hN : X.N.Nodup) (hi : PYg X k iter ty) (hr : Room (k + 1) X.A) (ok : BlkOk X.N X.env.scope scope own)
    (hcl : ∀ (n : Nat) (cl : List (Str × Addr)), cellsFrom n scope.names cl = cl)
    (hg : ∀ (s : Shared) (H : Hp) (C : Addr) (cl : List (Str × Addr)) (fp : List Addr), PG (X.blk s H scope (compEnvC scope cl C X.env) fp) tg gt) (ht : ∀ (s : Shared) (H : Hp) (C : Addr) (cl : List (Str × Addr)) (fp : List Addr), PTs (X.blk s H scope (compEnvC scope cl C X.env) fp) ifs tt)
    (he : ∀ (s : Shared) (H : Hp) (C : Addr) (cl : List (Str × Addr)) (fp : List Addr), PE (X.blk s H scope (compEnvC scope cl C X.env) fp) elt te) (hs : ∀ x, foldedSetIterable iter X.env x = pure x := by intro _; rfl) :
    PE X (.ListComp elt [⟨tg, iter, ifs, 0⟩] scope pos) (tLcG ty gt tt te (own.map (·.2))) := by
  refine ⟨fun pins s σ H Q I h => ?_⟩
  rw [eval_ListComp]
  refine lcG_core hc hN I hi hr ok hcl hg ht he hs h fun D C s' m H' J q hn fo => ⟨m, hn, fun h2 sb => ?_⟩
  obtain ⟨f0, f1, f2, f3, f4, f5⟩ := fo
  exact ⟨.ref D, H', J.turned (t' := s'.toks) (fun b o hb e => (sb.2 b hb).trans e) f0 f1 f3 f4 f5, rfl, q⟩
/-- name = [..] on one line, the name a local -/
theorem ps_setLcG {k i : Nat} {y : Str} {py : Pos} {elt tg iter : Expr} {ifs : List Expr} {scope : Scope} {own : List (Str × Nat)} {pos spos : Pos} {ty : TYg} {gt : TG} {tt : TT} {te : TE} (hc : X.calm = true) (hN : X.N.Nodup) (hy : X.N[i]? = some y) (hyl : X.env.scope.names.lookup y = some .local)
    (hsw : swapsWith (.ListComp elt [⟨tg, iter, ifs, 0⟩] scope pos) (some (.Name y py)) spos.line X.env = pure true) (hi : PYg X k iter ty) (hr : Room (k + 1) X.A) (ok : BlkOk X.N X.env.scope scope own) (hcl : ∀ (n : Nat) (cl : List (Str × Addr)), cellsFrom n scope.names cl = cl)
    (hg : ∀ (s : Shared) (H : Hp) (C : Addr) (cl : List (Str × Addr)) (fp : List Addr), PG (X.blk s H scope (compEnvC scope cl C X.env) fp) tg gt) (ht : ∀ (s : Shared) (H : Hp) (C : Addr) (cl : List (Str × Addr)) (fp : List Addr), PTs (X.blk s H scope (compEnvC scope cl C X.env) fp) ifs tt)
    (he : ∀ (s : Shared) (H : Hp) (C : Addr) (cl : List (Str × Addr)) (fp : List Addr), PE (X.blk s H scope (compEnvC scope cl C X.env) fp) elt te) (hs : ∀ x, foldedSetIterable iter X.env x = pure x := by intro _; rfl) :
    PS X (.Assign [.Name y py] (.ListComp elt [⟨tg, iter, ifs, 0⟩] scope pos) spos) (tAsg (tLcG ty gt tt te (own.map (·.2))) (gName i)) := by
  refine ⟨fun pins s σ H D I h => ?_⟩
  rw [exec_Assign_Name_used _ _ _ _ hsw]
  refine wpAny_bind (wpAny_standAt (wpAny_bind ?_))
  show wpAny _ X.A (do let _ ← comprehension (.ListComp elt [⟨tg, iter, ifs, 0⟩] scope pos) scope X.env (firstIterPos [⟨tg, iter, ifs, 0⟩] pos) (newList []) false (eval iter X.env) (some (assign (.Name y py) X.env))) _ _ s
  have h : tLcG ty gt tt te (own.map (·.2)) σ H (fun x H1 => gName i x σ H1 D.nx) := h
  refine wpAny_bind (thn (lcG_core (Qf := fun _ s' => SP X pins D .next s') hc hN I hi hr ok hcl hg ht he hs h fun L C s' m H' J q hn fo => ?_) fun _ s' hq => wpAny_pure (wpAny_pure hq))
  show wpAny _ _ (assign (.Name y py) X.env (.ref L)) _ _ _
  refine wpAny_assign_Name (store_ok2 (v := V.ref L) J hN hy (.inl hyl) rfl (fun s2 I2 ⟨a, sb, ha⟩ => ?_) (.inr hyl))
  obtain ⟨f0, f1, f2, f3, f4, f5⟩ := fo
  have haC : C ≠ a := by
    rcases ha with z | z
    · rw [z]; exact f1
    · exact fun e => f4 y a z e.symm
  refine ⟨m, hn.sameBut sb haC, fun h3 sb3 => ?_⟩
  exact ⟨_, H', I2.turned (t' := s2.toks) (fun b o hb e => (sb3.2 b hb).trans e) f0 f1 f3 f4 f5, q⟩
end
end L2
set_option maxHeartbeats 1000000
namespace RZG
open PySem
open PySem.Sem (wp)
section
variable {prog : Program} {w : World} {A : Around} {E : Value → Shared → Prop} {s : Shared}
theorem nextOf_range_end {it : Addr} {x left step : Int} {Q : Value → Shared → Prop} (hh : A.handled = none) (hit : IsRangeIter s.heap it x left step) (hleft : left ≤ 0)
    (hE : ∀ h' e, Heap.ExtBut it s.heap h' → (∃ o, h'.get? e = some o ∧ o.cls = .type "StopIteration") → E (.ref e) { s with heap := h' }) :
    wpAny (model prog w) A (Builtin.SmallTypes.nextOf (.ref it)) Q E s := by
  have hT : s.TypeIs (.ref it) "range_iterator" := ⟨_, hit, rfl⟩
  unfold Builtin.SmallTypes.nextOf
  refine wpAny_bind (wpAny_callSpecial?_slot (name := Str.ofString "__next__") hT F.slot_range_iterator_next
    (wpAny_call_entry F.slot_range_iterator_next hT F.entry_range_iterator_next ?_ (F.args_range_iterator_next_1 _)))
  show wpAny _ _ (field (.ref it) 0 >>= _) _ _ s
  refine wpAny_bind (wpAny_field hit rfl (x := rawInt x) rfl ?_)
  show wpAny _ _ (field (.ref it) 1 >>= _) _ _ s
  refine wpAny_bind (wpAny_field hit rfl (x := rawInt left) rfl ?_)
  show wpAny _ _ (field (.ref it) 2 >>= _) _ _ s
  refine wpAny_bind (wpAny_field hit rfl (x := rawInt step) rfl ?_)
  show wpAny _ _ (if left ≤ 0 then _ else _) _ _ s
  rw [if_pos hleft]
  refine wpAny_bind (wpAny_rule ?_)
  refine wpAny_bind ?_
  show wpAny _ _ (newExc (.type "StopIteration") [] >>= _) _ _ _
  refine wpAny_bind ?_
  simp only [newExc, newTuple]
  refine wpAny_bind (wpAny_newObj_type ?_ (by size_fits))
  refine wpAny_bind (m := firstArgMember _ _) (wpAny_of_eq (a := Value.none) (by first | rfl | (simp only [firstArgMember]; rfl)) ?_)
  refine wpAny_newObj_type ?_ (by size_fits)
  simp only [raiseNew]
  refine wpAny_bind (wpAny_handled ?_)
  first | rw [show A.in1.handled = none from hh] | rw [hh]
  refine wpAny_bind (wpAny_pure (wpAny_throw ?_))
  exact hE _ _ (((Heap.ExtBut.refl it s.heap).push _).push _) ⟨_, Heap.get?_push_size _ rfl, rfl⟩
theorem zip0_next_end {z TI TO i1 i2 : Addr} {x left step : Int} {a b : Value} {Q : Fin → Shared → Prop} (hh : A.handled = none) (hi1 : i1 ≠ z)
    (hz : IsZip s.heap z TI TO .none) (hTI : IsPair s.heap TI (.ref i1) (.ref i2)) (h1 : IsRangeIter s.heap i1 x left step) (hleft : left ≤ 0)
    (hE : ∀ h' e, (∀ c o, c ≠ z → c ≠ i1 → s.heap.get? c = some o → h'.get? c = some o) → (∃ o, h'.get? e = some o ∧ o.cls = .type "StopIteration") → E (.ref e) { s with heap := h' }) :
    wpAny (model prog w) A (Builtin.«zip.__next__» ⟨[.ref z], []⟩) Q E s := by
  show wpAny _ _ (field (.ref z) 2 >>= _) _ _ _
  refine wpAny_bind (wpAny_field hz rfl (x := .bool false) rfl ?_)
  show wpAny _ _ (field (.ref z) 3 >>= _) _ _ _
  refine wpAny_bind (wpAny_field hz rfl (x := .ref TI) rfl ?_)
  refine wpAny_bind (wpAny_seqItems hTI rfl ?_)
  show wpAny _ _ (Builtin.SmallTypes.ownedTupleIsFree (.ref z) >>= _) _ _ _
  refine wpAny_bind ?_
  unfold Builtin.SmallTypes.ownedTupleIsFree
  refine wpAny_bind (wpAny_field hz rfl (x := .none) rfl (wpAny_pure ?_))
  simp only [if_true]
  refine wpAny_bind (wpAny_rule ?_)
  refine wpAny_bind (wpAny_field hz rfl (x := .ref TO) rfl ?_)
  refine wpAny_bind (wpAny_setField_rec hz (by simp) fun h₁ hz₁ hs₁ => ?_)
  replace hz₁ : IsZip h₁ z TI TO .ellipsis := hz₁
  refine wpAny_bind ?_
  simp only [List.zipIdx_cons, List.zipIdx_nil, List.forIn_cons, List.forIn_nil]
  refine wpAny_bind (wpAny_bind (wpAny_onRaise ?_))
  show wpAny _ _ (Builtin.SmallTypes.nextOf (.ref i1) >>= _) _ _ _
  have h1' : IsRangeIter h₁ i1 x left step := hs₁.extBut _ _ hi1 h1
  refine wpAny_bind (nextOf_range_end (s := { s with heap := h₁ }) hh h1' hleft fun h₂ e hs₂ he => ?_)
  obtain ⟨oe, hoe, hce⟩ := he
  have hz₂ : IsZip h₂ z TI TO .ellipsis := hs₂ _ _ hi1.symm hz₁
  have hez : e ≠ z := fun x => by subst x; rw [hz₂] at hoe; cases hoe; simp at hce
  refine wpAny_setField_rec hz₂ (by simp) fun h₃ _ hs₃ => hE h₃ e (fun c o c1 c3 x => hs₃.extBut _ _ c1 (hs₂ _ _ c3 (hs₁.extBut _ _ c1 x))) ⟨oe, hs₃.extBut _ _ hez hoe, hce⟩
theorem pyNext_zip0_end {z TI TO i1 i2 : Addr} {x left step : Int} {Q : Option Value → Shared → Prop} (hh : A.handled = none) (hi1 : i1 ≠ z)
    (hz : IsZip s.heap z TI TO .none) (hTI : IsPair s.heap TI (.ref i1) (.ref i2)) (h1 : IsRangeIter s.heap i1 x left step) (hleft : left ≤ 0)
    (hQ : ∀ h', (∀ c o, c ≠ z → c ≠ i1 → s.heap.get? c = some o → h'.get? c = some o) → Q none { s with heap := h' }) : wpAny (model prog w) A (pyNext (.ref z)) Q E s := by
  have hT : s.TypeIs (.ref z) "zip" := ⟨_, hz, rfl⟩
  unfold pyNext
  refine wpAny_bind (wpAny_attempt (wpAny_callSpecial?_slot (name := Str.ofString "__next__") hT F.slot_zip_next
    (wpAny_call_entry F.slot_zip_next hT F.entry_zip_next (zip0_next_end (a := .none) (b := .none) hh hi1 hz hTI h1 hleft fun h' e hk he => ?_) (F.args_zip_next_1 _))))
  obtain ⟨o, ho, hc⟩ := he
  refine wpAny_bind (wpAny_isInstance (T := "StopIteration") (b := true) ⟨o, ho, hc⟩ isSubtype_stop ?_)
  exact wpAny_pure (hQ _ hk)
end
abbrev zH1 (h : Heap) : Heap := h.push { cls := .type "range_iterator", data := .fields #[rawInt 0, rawInt (Builtin.Range.rangeSize 0 0 1), rawInt 1] }
abbrev zH2 (h : Heap) (a : Addr) : Heap := (zH1 h).push { cls := .type "tuple", data := .seq #[.ref h.objs.size, .ref a] }
abbrev zH3 (h : Heap) (a : Addr) : Heap := (zH2 h a).push { cls := .type "tuple", data := .seq #[.none, .none] }
abbrev zH4 (h : Heap) (a : Addr) : Heap := (zH3 h a).push { cls := .type "zip", data := .fields #[.none, .bool false, .bool false, .ref (zH1 h).objs.size, .ref (zH2 h a).objs.size] }
theorem meets_zip0_new (r a : Addr) (g : Nat) (t u v : Tok) :
    Meets (Builtin.«zip.__new__» ⟨[.type "zip", .ref r, .ref a], []⟩) (fun _ R s => IsRange s.heap r 0 0 1 t u v ∧ s.heap.IsGen a g ∧
      R (.ok (.ret (.ref (zH3 s.heap a).objs.size))) { s with heap := zH4 s.heap a }) :=
  .of_wp fun prog w A R s h => by
    obtain ⟨hp, g', d, tk, os⟩ := s; obtain ⟨hl1, hl2, h⟩ := h
    have hsub := sub_zip
    have hL1 : IsRange (Shared.heap ⟨hp, g', d, tk, os⟩) r 0 0 1 t u v := hl1
    have hL2 : Heap.IsGen (Shared.heap ⟨zH1 hp, g', d, tk, os⟩) a g := Heap.IsGen.push hl2 _
    wp_walk using wpAny_pyIter_range hL1 (by decide +kernel), wpAny_pyIter_gen hL2
    exact ⟨_, rfl, h⟩
section
variable {prog : Program} {w : World} {A : Around} {E : Value → Shared → Prop} {s : Shared}
theorem call_zip0 {r a : Addr} {g : Nat} {t u v : Tok} {Q : Value → Shared → Prop} (hr : IsRange s.heap r 0 0 1 t u v) (ha : s.heap.IsGen a g)
    (h : ∀ h', IsZip h' (s.heap.objs.size + 3) (s.heap.objs.size + 1) (s.heap.objs.size + 2) .none → IsPair h' (s.heap.objs.size + 1) (.ref s.heap.objs.size) (.ref a) →
      IsPair h' (s.heap.objs.size + 2) .none .none → IsRangeIter h' s.heap.objs.size 0 (Builtin.Range.rangeSize 0 0 1) 1 →
      (∀ c o, s.heap.get? c = some o → h'.get? c = some o) → Q (.ref (s.heap.objs.size + 3)) { s with heap := h' }) :
    wpAny (model prog w) A (call (.type "zip") [.ref r, .ref a]) Q E s := by
  refine callType_new F.called_zip (by decide) (F.typeCall_zip_2 _ _) (F.newCall_zip_2 _ _) (fun obj => F.args_object_init_3 obj _ _) F.entry_zip_new
    (meets_zip0_new r a g t u v) ⟨hr, ha, ?_⟩
  have z1 : (zH1 s.heap).objs.size = s.heap.objs.size + 1 := Heap.size_push ..
  have z2 : (zH2 s.heap a).objs.size = s.heap.objs.size + 2 := by rw [Heap.size_push, z1]
  have z3 : (zH3 s.heap a).objs.size = s.heap.objs.size + 3 := by rw [Heap.size_push, z2]
  have g4 : (zH4 s.heap a).get? (zH3 s.heap a).objs.size = some _ := Heap.get?_push_size _ rfl
  have g3 : (zH4 s.heap a).get? (zH2 s.heap a).objs.size = some _ := Heap.get?_push_of_some _ (Heap.get?_push_size _ rfl)
  have g2 : (zH4 s.heap a).get? (zH1 s.heap).objs.size = some _ := Heap.get?_push_of_some _ (Heap.get?_push_of_some _ (Heap.get?_push_size _ rfl))
  have g1 : (zH4 s.heap a).get? s.heap.objs.size = some _ := Heap.get?_push_of_some _ (Heap.get?_push_of_some _ (Heap.get?_push_of_some _ (Heap.get?_push_size _ rfl)))
  show _ ∧ _
  rw [z1, z2, z3] at g4
  rw [z1] at g2
  rw [z2] at g3
  rw [z3]
  exact ⟨⟨_, g4, rfl⟩, h _ g4 g2 g3 g1 fun c o x =>
    Heap.get?_push_of_some _ (Heap.get?_push_of_some _ (Heap.get?_push_of_some _ (Heap.get?_push_of_some _ x)))⟩
end
end RZG
namespace L2
open PySem PySem.Spec PyProof.Rows
/-- an iterator that hands out nothing -/
def It0 : It := ⟨fun _ _ => False, fun _ _ _ _ => False, fun _ _ => True⟩
theorem turn_zip0 {P : Program} {w : World} {K : PySem.W.Frag} {elts : List Expr} {kk : Nat} {tpos : Pos} {z TI TO i1 a : Addr} (hi1 : i1 ≠ z) :
    Turn P w K (.Tuple elts kk tpos) It0 [z, TI, TO, i1] z (fun i h => IsZip h z TI TO .none ∧ IsPair h TI (.ref i1) (.ref a) ∧ IsPair h TO .none .none ∧ IsRangeIter h i1 0 (Builtin.Range.rangeSize 0 0 1) 1) where
  mem := by simp
  obj := fun i h st c hc => by
    obtain ⟨hz, hTI, hTO, h1⟩ := st
    have e' : c = z ∨ c = TI ∨ c = TO ∨ c = i1 := by simpa using hc
    rcases e' with q | q | q | q
    · rw [q]; exact ⟨_, hz, fun v q => nomatch q⟩
    · rw [q]; exact ⟨_, hTI, fun v q => nomatch q⟩
    · rw [q]; exact ⟨_, hTO, fun v q => nomatch q⟩
    · rw [q]; exact ⟨_, h1, fun v q => nomatch q⟩
  keep := fun i h h' st k => by
    obtain ⟨hz, hTI, hTO, h1⟩ := st
    exact ⟨k z (by simp) _ hz, k TI (by simp) _ hTI, k TO (by simp) _ hTO, k i1 (by simp) _ h1⟩
  item := by
    intro X hP hw hK hc i pins s σ H E I hf st hg
    exact False.elim hg
  done := by
    intro X hP hw hK hc i pins s σ H E I hf st hg
    subst hP hw hK
    obtain ⟨hz, hTI, hTO, h1⟩ := st
    exact RZG.pyNext_zip0_end (I.ok.hd hc) hi1 hz hTI h1 (by decide +kernel) fun h' hk => ⟨rfl, I.turnedL (t' := s.toks) (ch := [z, TI, TO, i1]) (fun c o hb q =>
      hk c o (fun q' => hb (by simp [q'])) (fun q' => hb (by simp [q'])) q) hf⟩
  self := fun A i s Q E st h => wpAny_pyIter_zip st.1 h
def iZip0 (sp : SpG) (dvs : List V) (E : XK) (t0 t : TA) : TI := fun σ H R => t0 σ H fun vs0 H0 => vs0 = [.int 0] ∧ t σ H0 fun vs H1 => sp (vs ++ dvs) H1 (fun _ _ => True) E ∧ R It0 H1
/-- zip(range(0), f(e, ..)) of a generator def -/
theorem pi_zip0 {X : Cx} {k : Nat} {f : Addr} {fd : FuncData} {ps : List Str} {ds : List Value} {sp : SpG} {dvs : List V} {x : Str} {E : XK} {e0 e : Expr} {es : List Expr} {t0 t : TA} {p p0 p1 pos pos0 pos1 tpos : Pos} {elts : List Expr} {kk : Nat}
    (hg : Gl X "zip") (hm : X.mg "zip" = none) (hg0 : Gl X "range") (hm0 : X.mg "range" = none) (ha0 : PA X [e0] t0)
    (F : GFn X.prog X.w X.K X.mg X.base k f fd ps sp) (hr : Room k X.A) (hgx : Gl X x) (hmx : X.mg x = some (.ref f)) (hk : PySem.W.keepIn X.K (.ref f) = true) (hb : Binds X.K fd ps ds) (hd : Vals dvs ds) (ha : PA X (e :: es) t)
    (hdb : (x == ("__debug__" : Str)) = false := by decide) (he : starEach (e :: es) X.env = (false, eval e X.env) :: starEach es X.env := by rfl) (hpl : (backTo pos1 (starEach es X.env)).any (·.1) = false := by rfl)
    (hs0 : starEach [e0] X.env = [(false, eval e0 X.env)] := by rfl)
    (hs : starEach [.Call (.Name "range" p0) [e0] [] pos0, .Call (.Name x p1) (e :: es) [] pos1] X.env = (false, eval (.Call (.Name "range" p0) [e0] [] pos0) X.env) :: starEach [.Call (.Name x p1) (e :: es) [] pos1] X.env := by rfl)
    (hs1 : starEach [.Call (.Name x p1) (e :: es) [] pos1] X.env = (false, eval (.Call (.Name x p1) (e :: es) [] pos1) X.env) :: starEach [] X.env := by rfl) (hpl2 : (backTo pos (starEach [.Call (.Name x p1) (e :: es) [] pos1] X.env)).any (·.1) = false := by rfl) :
    PI X (.Tuple elts kk tpos) (.Call (.Name "zip" p) [.Call (.Name "range" p0) [e0] [] pos0, .Call (.Name x p1) (e :: es) [] pos1] [] pos) (iZip0 sp dvs E t0 t) := by
  refine ⟨fun pins s σ H R I h => ?_⟩
  refine Call_ (ld_blt I hg hm PyProof.Rows.boot_zip (PyProof.Rows.callWith_type1 ?_ hs hpl2))
  rw [hs]
  show wpAny _ _ (spliced ((false, eval (.Call (.Name "range" p0) [e0] [] pos0) X.env) :: backTo pos (starEach [.Call (.Name x p1) (e :: es) [] pos1] X.env))) _ _ s
  refine Calls.spliced_cons ?_
  refine Call_ (ld_blt I hg0 hm0 boot_range (PyProof.Rows.callWith_type1 (thn (ha0.run pos0 pins s σ H _ I h) fun us0 s1 ⟨vs0, H0, I0, r0, q0⟩ => ?_) hs0 rfl))
  obtain ⟨rfl, q0⟩ := q0
  cases r0 with
  | cons r rr =>
    cases rr
    obtain ⟨tk0, rfl⟩ := r
    refine call_range_1 ?_
    have I1 := ClX.pin_new (h' := s1.heap.push { cls := .type "range", data := .fields #[.int 0 s1.toks, .int 0 tk0, .int 1 (s1.toks + 1)] }) (t' := s1.toks + 1 + 1) I0 (fun b o e => Heap.get?_push_of_some _ e) (Nat.le_refl _) (Heap.get?_push_size _ rfl) (fun v q => nomatch q)
    rw [hs1]
    show wpAny _ _ (spliced ((false, eval (.Call (.Name x p1) (e :: es) [] pos1) X.env) :: backTo pos (starEach [] X.env))) _ _ _
    refine Calls.spliced_cons ?_
    refine wpAny_Call_Name_kw (ld_glob I1 hgx hmx ?_ hdb)
    refine PySem.W.callWith_K (h₀ := X.base) I1.ok.mod.kin hk (thn (ha.run pos1 _ _ σ H0 _ I1 q0) fun us s2 ⟨vs, H1, I2, r, q, qR⟩ => ⟨I2.kIn, ?_⟩) he hpl
    have r2 : Vals (vs ++ dvs) (us ++ ds) := r.append hd
    have hl2 : (us ++ ds).length = ps.length := by rw [← r2.length]; exact F.len _ _ _ _ q
    refine wpAny_call (codeAny_mono (F.run X.A X.stack s2 H1 ⟨us, []⟩ (us ++ ds) (vs ++ dvs) _ E hr I2.env0 (hb s2 us I2.kIn hl2) r2 q) fun r s3 hq => ?_)
    cases r with
    | error e => exact False.elim hq
    | ok fl =>
      cases fl with
      | next => exact False.elim hq
      | brk => exact False.elim hq
      | cont => exact False.elim hq
      | ret u =>
        obtain ⟨a, g, c, rfl, _, _, hgen, _, hos, hbare, _, hkp, _⟩ := hq
        have I3 : Inv X _ σ H1 s3 := I2.call' (ch := []) hos (Un.kept hkp) (I2.hok.kept hkp) hbare (fun b hb => nomatch hb)
        have hrg := ClX.pin_at I3
        refine Calls.spliced_nil ?_
        refine RZG.call_zip0 hrg hgen fun h' hz hTI hTO h1 hk' => wpAny_pyIter_zip hz ?_
        have I4 : Inv X pins σ H1 { s3 with heap := h' } := (ClX.unpin I3).kept (t' := s3.toks) hk'
        refine ⟨s3.heap.objs.size + 3, [s3.heap.objs.size + 3, s3.heap.objs.size + 1, s3.heap.objs.size + 2, s3.heap.objs.size], _, _, H1, rfl, I4, turn_zip0 (a := a) (Nat.ne_of_lt (Nat.lt_add_of_pos_right (by decide))), ⟨hz, hTI, hTO, h1⟩, fun c hcm => ?_, qR⟩
        have e' : c = s3.heap.objs.size + 3 ∨ c = s3.heap.objs.size + 1 ∨ c = s3.heap.objs.size + 2 ∨ c = s3.heap.objs.size := by simpa using hcm
        have hle : s3.heap.objs.size ≤ c := by
          rcases e' with z | z | z | z
          · rw [z]; exact Nat.le_add_right _ _
          · rw [z]; exact Nat.le_add_right _ _
          · rw [z]; exact Nat.le_add_right _ _
          · rw [z]; exact Nat.le_refl _
        exact (ClX.unpin I3).fpOk hle ((ClX.unpin I3).hok.fresh hle)
end L2
set_option maxHeartbeats 2000000
namespace Fab
open PySem L2 PySem.FabX
abbrev sLeft : Stmt := top 22
abbrev sAllW : Stmt := top 21
abbrev sRo : Stmt := top 20
local macro_rules | `(tactic| walk_at "s") => `(tactic| simp [tSeq, tAsg, tOp, tUn, tVar, tC, gName, tCons, tNil, tCB, tCall, rI, rI0, rU, tRet, tDrop, tIfS, tNext, tIf, tTest, tNot, tOr, tAnd, tB, L2.start, CMul, CDiv, rIxF, rLenF, rIntF, sq_lst, sq_tup, tLstF, tTupF, gSub, rCatF, rCatTF, rInF, rNe, rEq, tAndV, tOrV, tNotV, tChain, rTupF, rListF, tFldF, tRx, tMake, tMeth, tSl, tPart, tNoPart, rSlTF, rSlF, tRevTF, gTup, gCons, gNil, rIsB, rNotB, tLM, rAppF, tLstRgF, tRg2, tLstRg, iRng1, iRng2])
section
variable {P : Program} {w : World} {K : PySem.W.Frag} {mg : Str → Option Value} {base : Heap} {C : Kd → Addr} {CR : Addr}
/-- tuples of waggons as they stand -/
def WtL (H : Hp) : List V → List (List Int) → Prop := Paired fun z v => ∃ t, z = .ref t ∧ H t = some (.tup (v.map V.int))
theorem WtL.keep {H H' : Hp} {zs : List V} {vs : List (List Int)} (h : WtL H zs vs) (k : ∀ a xs, H a = some (.tup xs) → H' a = some (.tup xs)) : WtL H' zs vs := Paired.mapP h fun _ _ ⟨t, e, ht⟩ => ⟨t, e, k _ _ ht⟩
theorem WtL.same {H H' : Hp} {zs : List V} {vs : List (List Int)} (h : WtL H zs vs) (s : Same H H') : WtL H' zs vs := h.keep fun _ _ e => s _ _ e
theorem WtL.len {H : Hp} {zs : List V} {vs : List (List Int)} (h : WtL H zs vs) : zs.length = vs.length := Paired.length h
theorem WtL.snoc {H : Hp} {zs : List V} {vs : List (List Int)} {t : Addr} {v : List Int} (h : WtL H zs vs) (ht : H t = some (.tup (v.map V.int))) : WtL H (zs ++ [.ref t]) (vs ++ [v]) := by
  unfold WtL at h
  induction h with
  | nil => exact .cons ⟨t, rfl, ht⟩ .nil
  | cons a _ ih => exact .cons a ih
theorem WtL.get {H : Hp} {zs : List V} {vs : List (List Int)} (h : WtL H zs vs) {i : Nat} {z : V} (hz : zs[i]? = some z) : ∃ t v, z = .ref t ∧ vs[i]? = some v ∧ H t = some (.tup (v.map V.int)) := by
  unfold WtL at h
  induction h generalizing i with
  | nil => simp at hz
  | cons a _ ih =>
    cases i with
    | zero =>
      obtain ⟨t, rfl, ht⟩ := a
      simp at hz
      exact ⟨t, _, hz.symm, rfl, ht⟩
    | succ i => exact ih hz
def okw (ah : List Int) (z : Int) : Bool := decide (z ≠ 0) && !((ah.map fun a => ((a.natAbs : Nat) : Int)).contains ((z.natAbs : Nat) : Int))
theorem left_len {ah : List Int} {n : Nat} (hn : n ≤ 5) : (leftL ah n).length ≤ 11 := by
  refine Nat.le_trans (List.length_filter_le _ _) ?_
  simp
  omega
theorem fm_len {f : List Int → List (List Int)} (h : ∀ v, (f v).length ≤ 11) : ∀ L : List (List Int), (L.flatMap f).length ≤ L.length * 11
  | [] => by simp
  | v :: L => by
    have h1 := h v
    have h2 := fm_len h L
    rw [List.flatMap_cons, List.length_append, List.length_cons]
    omega
theorem beg_bd {n : Nat} (hn : n ≤ 5) : ∀ p : Nat, (begL n p).length ≤ 11 ^ p
  | 0 => Nat.le_refl _
  | p + 1 => by
    have h1 := fm_len (f := fun ah => (leftL ah n).map fun z => ah ++ [z]) (fun v => by rw [List.length_map]; exact left_len hn) (begL n p)
    have h2 := beg_bd hn p
    rw [Nat.pow_succ]
    exact Nat.le_trans h1 (Nat.mul_le_mul_right _ h2)
theorem inV_con {z : Int} : ∀ {ws : List Int}, inV (.int z) (ws.map V.int) = ws.contains z
  | [] => rfl
  | w :: ws => by
    have ih := inV_con (z := z) (ws := ws)
    unfold inV at ih ⊢
    rw [List.map_cons, List.any_cons, ih, List.contains_cons]
    have : eqV (V.int w) (V.int z) = (z == w) := by
      show (w == z) = (z == w)
      by_cases c : w = z
      · rw [c]
      · rw [beq_eq_false_iff_ne.mpr c, beq_eq_false_iff_ne.mpr (fun e => c e.symm)]
    rw [this]
def spLeft : Sp := fun vs H Q _ => ∃ (p : Addr) (ah : List Int) (n : Nat), vs = [.ref p, .int (n : Nat)] ∧ H p = some (.tup (ah.map V.int)) ∧ n ≤ 5 ∧ ah.length ≤ 5 ∧ ∀ l H', Same H H' → H l = none → H' l = some (.lst ((leftL ah n).map V.int)) → Q (.ref l) H'
theorem scLeft : FnScope ["ahead", "many", "numbers", "waggon"] ["ahead", "many"] (defScope sLeft) := ⟨rfl, rfl, rfl, by decide +kernel, rfl, by decide +kernel, by decide +kernel⟩
theorem ok_left {f : Addr} {fd : FuncData} (F : Fun K "waggons_left" "waggons_left" sLeft f fd) (B : Blt mg) : FnOk P w K mg base CX0 1 f fd ["ahead", "many"] spLeft := by
  refine F.ok scLeft (fun vs H Q E h => ?_) (fun cdv A outer s H vs Q E hr h => ?_)
  · obtain ⟨p, ah, n, rfl, _⟩ := h
    rfl
  · obtain ⟨p, ah, n, rfl, hp, hn, hah, k⟩ := h
    refine ⟨_, (pss_cons (ps_set (i := 2) scLeft.nd rfl (by first | exact Or.inl rfl | exact Or.inr rfl) (pe_lc (own := [("waggon", 3)]) (tt := tYes) rfl scLeft.nd (pi_tup (pv 0)) (blkOk_by (own := [("waggon", 3)]) (N := ["ahead", "many", "numbers", "waggon"]) (sc := defScope sLeft) (by decide +kernel)) (fun _ _ _ _ _ => (pg_name (i := 3) scLeft.nd rfl (by first | exact Or.inl rfl | exact Or.inr rfl))) (fun _ _ _ _ _ => pts_nil) (fun _ _ _ _ _ => (pe_callB call_abs (by rfl) B.abs (by decide +kernel) (pa_cons (pv 3) pa_nil)))))
      (pss_one (ps_ret (pe_lc (own := [("waggon", 3)]) rfl scLeft.nd (pi_range2 (by rfl) B.range (pa_cons (pe_un un_neg (pv 1)) (pa_cons (pe_op op_add (pv 1) pe_int) pa_nil))) (blkOk_by (own := [("waggon", 3)]) (N := ["ahead", "many", "numbers", "waggon"]) (sc := defScope sLeft) (by decide +kernel)) (fun _ _ _ _ _ => (pg_name (i := 3) scLeft.nd rfl (by first | exact Or.inl rfl | exact Or.inr rfl))) (fun _ _ _ _ _ => (pts_one (PW.pt (pw_and (pt_cmpR op_ne (pv 3) pe_int (nomark _)) (pw_and1 (pt_cmpR notInF (pe_callB call_abs (by rfl) B.abs (by decide +kernel) (pa_cons (pv 3) pa_nil)) (pv 2) (by rfl))))))) (fun _ _ _ _ _ => (pv 3)))))), ?_⟩
    refine seq_q (fun σ' H' => ∃ (l : Addr) (u3 : Option V), σ' = [some (.ref p), some (.int (n : Nat)), some (.ref l), u3] ∧ Same H H' ∧ H' l = some (.lst (ah.map fun a => V.int ((a.natAbs : Nat) : Int)))) (fun D2 eD2 hZ2 => ?_) ?_
    · refine ⟨_, rfl, p, rfl, ⟨_, SqT.of hp⟩, fun D hD => ?_⟩
      refine lc_it (walk_tup (K := K) (a := p) (xs := ah.map V.int)) (fun i B => Same H B ∧ B D = some (.lst ((ah.take i).map fun a => V.int ((a.natAbs : Nat) : Int)))) ⟨Same.new hD, by rw [List.take_zero]; exact upd_same⟩ (fun i B _ ⟨s', _⟩ => SqT.of (s' _ _ hp)) ?_ ?_
      · rintro i x B1 B2 hi ⟨sB, hDB⟩ ⟨rfl, hx⟩
        rw [List.getElem?_map, Option.map_eq_some_iff] at hx
        obtain ⟨a, ha, rfl⟩ := hx
        have et : ah.take (i + 1) = ah.take i ++ [a] := by rw [List.take_succ, ha]; rfl
        refine ⟨rfl, yes_if ⟨_, rfl, a, rfl, _, hDB, sz_lt (by rw [List.length_map, List.length_take]; omega), sm_upd sB hD, ?_⟩⟩
        rw [upd_same, et, List.map_append, List.map_singleton, show (if a < 0 then -a else a) = ((a.natAbs : Nat) : Int) by omega]
      · rintro B1 ⟨sB, hDB⟩
        rw [List.length_map, List.take_length] at hDB
        exact hZ2 _ _ ⟨D, _, rfl, sB, hDB⟩
    rintro σ1 H1 ⟨l, u3, rfl, s1, hl⟩
    unfold tRet tLc iRng2
    simp only [tCons, tUn, tOp, tNil, rU, rI0]
    refine ⟨_, rfl, _, rfl, _, rfl, _, _, rfl, rfl, _, _, rfl, ⟨by omega, by omega, by omega, by omega⟩, fun D hD => ?_⟩
    rw [show ((n : Int) + 1 - -(n : Int)).toNat = 2 * n + 1 by omega]
    have nD : H D = none := not_there s1 hD
    have lst : leftL ah n = (((List.range (2 * n + 1)).map fun k => ((k : Nat) : Int) - (n : Nat)).take (2 * n + 1)).filter (okw ah) := by
      rw [List.take_of_length_le (by simp)]
      rfl
    refine lc_it (walk_range (lo := -(n : Int)) (n := 2 * n + 1)) (fun i B => Same H1 B ∧ B D = some (.lst (((((List.range (2 * n + 1)).map fun k => ((k : Nat) : Int) - (n : Nat)).take i).filter (okw ah)).map V.int))) ⟨Same.new hD, by rw [List.take_zero]; exact upd_same⟩ (fun _ _ _ _ => True.intro) ?_ ?_
    · rintro i x B1 B2 hi ⟨sB, hDB⟩ ⟨rfl, rfl⟩
      obtain ⟨z, ez⟩ : ∃ z : Int, z = -(n : Int) + (i : Nat) := ⟨_, rfl⟩
      have et : ((List.range (2 * n + 1)).map fun k => ((k : Nat) : Int) - (n : Nat)).take (i + 1) = ((List.range (2 * n + 1)).map fun k => ((k : Nat) : Int) - (n : Nat)).take i ++ [z] := by
        rw [List.take_succ, List.getElem?_map, List.getElem?_range hi, ez]
        simp
        omega
      rw [et, List.filter_append]
      dsimp only
      rw [← ez]
      refine ⟨rfl, ?_⟩
      walk_at "s"
      have hlB := sB _ _ hl
      have la : (if z < 0 then -z else z) = ((z.natAbs : Nat) : Int) := by omega
      have lacc : (((((List.range (2 * n + 1)).map fun k => ((k : Nat) : Int) - (n : Nat)).take i).filter (okw ah)).map V.int).length ≤ 11 := by
        rw [List.length_map]
        refine Nat.le_trans (List.length_filter_le _ _) ?_
        rw [List.length_take]
        omega
      refine ⟨_, rfl, rfl, ?_⟩
      by_cases c : z = 0
      · refine .inl ⟨by rw [c], sB, ?_⟩
        rw [hDB, c, show List.filter (okw ah) [0] = [] by simp [okw], List.map_nil, List.append_nil]
      · refine .inr ⟨fun q => c (V.int.inj q), _, rfl, z, rfl, _, rfl, l, rfl, _, hlB, _, rfl, rfl, by simp [flatV], ?_⟩
        rw [la, show (ah.map fun a => V.int ((a.natAbs : Nat) : Int)) = (ah.map fun a => ((a.natAbs : Nat) : Int)).map V.int by rw [List.map_map]; rfl, inV_con]
        cases q : (ah.map fun a => ((a.natAbs : Nat) : Int)).contains ((z.natAbs : Nat) : Int) with
        | true =>
          refine .inl ⟨rfl, sB, ?_⟩
          rw [hDB, show List.filter (okw ah) [z] = [] by simp only [List.filter_cons, List.filter_nil, okw, q]; simp, List.map_nil, List.append_nil]
        | false =>
          refine .inr ⟨rfl, _, rfl, _, hDB, sz_lt (by omega), sm_upd sB hD, ?_⟩
          rw [upd_same, show List.filter (okw ah) [z] = [z] by simp only [List.filter_cons, List.filter_nil, okw, q]; simp [c]]
          rfl
    · rintro B1 ⟨sB, hDB⟩
      rw [← lst] at hDB
      exact k D B1 (Same.tr2 s1 sB) nD hDB
theorem beg_len {n : Nat} : ∀ {p : Nat} {v : List Int}, v ∈ begL n p → v.length = p
  | 0, v, h => by
    rw [begL, List.mem_singleton] at h
    rw [h]
    rfl
  | p + 1, v, h => by
    simp only [begL, List.mem_flatMap, List.mem_map] at h
    obtain ⟨ah, h1, z, _, rfl⟩ := h
    rw [List.length_append, beg_len h1]
    rfl
def spAllW : Sp := fun vs H Q _ => ∃ n : Nat, vs = [.int (n : Nat)] ∧ n ≤ 5 ∧ ∀ l zs H', Same H H' → H l = none → H' l = some (.lst zs) → WtL H' zs (rowsL n) → Q (.ref l) H'
theorem scAllW : FnScope ["many", "begun", "place", "ahead", "waggon"] ["many"] (defScope sAllW) := ⟨rfl, rfl, rfl, by decide +kernel, rfl, by decide +kernel, by decide +kernel⟩
theorem ok_allW {f fL : Addr} {fd fdL : FuncData} (F : Fun K "all_waggons" "all_waggons" sAllW f fd) (B : Blt mg) (cLeft : Dn P w K mg base 1 "waggons_left" fL fdL ["ahead", "many"] spLeft) : FnOk P w K mg base CX0 2 f fd ["many"] spAllW := by
  refine F.ok scAllW (fun vs H Q E h => ?_) (fun cdv A outer s H vs Q E hr h => ?_)
  · obtain ⟨n, rfl, _⟩ := h
    rfl
  · obtain ⟨n, rfl, hn, k⟩ := h
    refine ⟨_, (pss_cons (ps_set (i := 1) scAllW.nd rfl (by first | exact Or.inl rfl | exact Or.inr rfl) (pe_lstF (pa_cons (pe_tupF pa_nil) pa_nil)))
      (pss_cons (ps_for PassesOwn.never rfl (pi_range1 (by rfl) B.range (pa_cons (pv 0) pa_nil)) (pg_name (i := 2) scAllW.nd rfl (by first | exact Or.inl rfl | exact Or.inr rfl)) (pss_one (ps_setLc2 (i := 1) (own := [("ahead", 3), ("waggon", 4)]) (vs1 := [4]) (tt := tYes) (tt1 := tYes) (wi1 := (iList K (tCall spLeft [] E0 (tCons (tVar 3) (tCons (tVar 0) tNil))))) rfl scAllW.nd rfl rfl (sw_true rfl rfl rfl (by decide +kernel)) (pi_list (pv 1)) (blkOk_by (own := [("ahead", 3), ("waggon", 4)]) (N := ["many", "begun", "place", "ahead", "waggon"]) (sc := defScope sAllW) (by decide +kernel)) (by decide) (fun _ _ _ _ _ => (pg_name (i := 3) scAllW.nd rfl (by first | exact Or.inl rfl | exact Or.inr rfl))) (fun _ _ _ _ _ => pts_nil) (fun _ _ _ _ _ => (pi_list (pe_call cLeft.ok (hr.mono (by decide)) rfl cLeft.mgf cLeft.kp cLeft.bi .nil pass0 (pa_cons (pv 3) (pa_cons (pv 0) pa_nil))))) (fun _ _ _ _ _ => (pg_name (i := 4) scAllW.nd rfl (by first | exact Or.inl rfl | exact Or.inr rfl))) (fun _ _ _ _ _ => pts_nil) (fun _ _ _ _ _ => (pe_op catTF (pv 3) (pe_tupF (pa_cons (pv 4) pa_nil)))))))
      (pss_one (ps_ret (pv 1))))), ?_⟩
    refine seq_q (fun σ' H' => ∃ b t : Addr, σ' = [some (.int (n : Nat)), some (.ref b), none, none, none] ∧ Same H H' ∧ H b = none ∧ H' b = some (.lst [.ref t]) ∧ H' t = some (.tup [])) (fun D2 eD2 hZ2 => ?_) ?_
    · walk_at "s"
      exact view_tup (VW.start (H := H)) fun t A1 v1 => ⟨sz_le (by decide), view_new v1 fun b A2 v2 => hZ2 _ _ ⟨b, t, rfl, v2.fr, v2.own (b, _) (.head _), v2.at_ (b, _) (.head _), v2.tu (t, _) (.head _)⟩⟩
    rintro σ1 H1 ⟨b, t, rfl, s1, nb, hb, ht⟩
    refine seq_q (fun σ' H' => ∃ (b : Addr) (zs : List V) (u2 u3 u4 : Option V), σ' = [some (.int (n : Nat)), some (.ref b), u2, u3, u4] ∧ Same H H' ∧ H b = none ∧ H' b = some (.lst zs) ∧ WtL H' zs (rowsL n)) (fun D2 eD2 hZ2 => ?_) ?_
    · refine ⟨_, rfl, n, rfl, by omega, by omega, ?_⟩
      rw [Int.toNat_natCast]
      refine for_it (walk_range (lo := 0) (n := n)) (fun i σ B => ∃ (b : Addr) (zs : List V) (u2 u3 u4 : Option V), σ = [some (.int (n : Nat)), some (.ref b), u2, u3, u4] ∧ Same H B ∧ H b = none ∧ B b = some (.lst zs) ∧ WtL B zs (begL n i))
        ⟨b, _, none, none, none, rfl, s1, nb, hb, .cons ⟨t, rfl, ht⟩ .nil⟩ (fun _ _ _ _ _ => True.intro) ?_ ?_
      rotate_left
      · rintro σ B ⟨b, zs, u2, u3, u4, rfl, sB, nb, hbB, hW⟩
        exact hZ2 _ _ ⟨b, zs, u2, u3, u4, rfl, sB, nb, hbB, hW⟩
      rintro i x σ B1 B2 hi ⟨b, zs, u2, u3, u4, rfl, sB, nb, hbB, hW⟩ ⟨rfl, rfl⟩
      refine ⟨_, rfl, b, rfl, ⟨_, SqL.of hbB⟩, fun D hD => ?_⟩
      refine lc2_it (walk_list (K := K) (a := b) (xs := zs)) (fun k B => ∃ ys, Same B2 B ∧ B D = some (.lst ys) ∧ WtL B ys (((begL n i).take k).flatMap fun ah => (leftL ah n).map fun z => ah ++ [z])) ⟨[], Same.new hD, upd_same, by rw [List.take_zero]; exact .nil⟩ (fun k B _ ⟨_, s', _⟩ => SqL.of (s' _ _ hbB)) ?_ ?_
      · rintro k x A1 A2 hk ⟨ys, sA, hDA, hY⟩ ⟨rfl, hx⟩
        obtain ⟨tt, ah, rfl, hah, htt⟩ := hW.get hx
        refine ⟨rfl, yes_if ?_⟩
        have hni : i < n := hi
        have lah : ah.length = i := beg_len (List.mem_of_getElem? hah)
        refine ⟨_, rfl, _, rfl, ?_⟩
        refine ⟨tt, ah, n, rfl, sA _ _ htt, hn, by omega, fun l A3 s3 nl hl => ⟨l, rfl, ⟨_, SqL.of hl⟩, ?_⟩⟩
        have et : (begL n i).take (k + 1) = (begL n i).take k ++ [ah] := by rw [List.take_succ, hah]; rfl
        have n2 : A2 l = none := nl
        have Dl : D ≠ l := fun z => by rw [z, n2] at hDA; cases hDA
        refine lc2_in (walk_list (K := K) (a := l) (xs := (leftL ah n).map V.int)) (fun j B => ∃ ys, Same B2 B ∧ B l = some (.lst ((leftL ah n).map V.int)) ∧ B tt = some (.tup (ah.map V.int)) ∧ B D = some (.lst ys) ∧ WtL B ys ((((begL n i).take k).flatMap fun ah => (leftL ah n).map fun z => ah ++ [z]) ++ (((leftL ah n).take j).map fun z => ah ++ [z])))
          ⟨ys, Same.tr2 sA s3, hl, s3 _ _ (sA _ _ htt), s3 _ _ hDA, by rw [List.take_zero, List.map_nil, List.append_nil]; exact hY.same s3⟩ (fun j B _ ⟨_, _, h, _⟩ => SqL.of h) ?_ ?_
        · rintro j x A4 A5 hj ⟨ys, s4, hl4, ht4, hD4, hY4⟩ ⟨rfl, hx⟩
          rw [List.getElem?_map, Option.map_eq_some_iff] at hx
          obtain ⟨z, hz, rfl⟩ := hx
          refine ⟨rfl, yes_if ?_⟩
          walk_at "s"
          have l4 := hY4.len
          rw [List.length_append, List.length_map, List.length_take] at l4
          have f1 := fm_len (f := fun ah => (leftL ah n).map fun z => ah ++ [z]) (fun v => by rw [List.length_map]; exact left_len hn) ((begL n i).take k)
          have f2 : ((begL n i).take k).length ≤ 11 ^ 4 := Nat.le_trans (by rw [List.length_take]; exact Nat.min_le_right _ _) (Nat.le_trans (beg_bd hn i) (Nat.pow_le_pow_right (by decide) (by omega)))
          have f3 := left_len (ah := ah) hn
          have f4 : (11 : Nat) ^ 4 = 14641 := by decide
          have ys_le : ys.length ≤ 200000 := by omega
          refine ⟨_, rfl, _, rfl, sz_le (by decide), view_tup (VW.start (H := A5)) fun t1 A6 v6 => ⟨tt, rfl, _, v6.fr _ _ ht4, _, v6.tu (t1, _) (.head _), sz_le (by simp; omega), view_tup v6 fun t2 A7 v7 => ?_⟩⟩
          have hD7 := v7.fr _ _ hD4
          have s7 := Same.tr2 s4 v7.fr
          have tk : ∀ a xs, A7 a = some (.tup xs) → upd A7 D (.lst (ys ++ [V.ref t2])) a = some (.tup xs) := fun a xs q => by
            rw [upd_ne (fun z => by rw [z, hD7] at q; cases q)]
            exact q
          refine ⟨ys, hD7, sz_lt (by omega), sm_upd s7 hD, by rw [upd_ne Dl.symm]; exact v7.fr _ _ hl4, tk _ _ (v7.fr _ _ ht4), _, upd_same, ?_⟩
          have e5 : List.take (j + 1) (List.map (fun z => ah ++ [z]) (leftL ah n)) = ((leftL ah n).take j).map (fun z => ah ++ [z]) ++ [ah ++ [z]] := by
            rw [← List.map_take, List.take_succ, hz, List.map_append]
            rfl
          rw [e5, ← List.append_assoc]
          refine ((hY4.same v7.fr).keep tk).snoc (tk _ _ ?_)
          have := v7.tu (t2, _) (.head _)
          rw [this, List.map_append]
          rfl
        · rintro A4 ⟨ys, s4, hl4, ht4, hD4, hY4⟩
          rw [List.length_map, List.take_length] at hY4
          refine ⟨ys, s4, hD4, ?_⟩
          rw [et, List.flatMap_append, List.flatMap_singleton]
          exact hY4
      · rintro A1 ⟨ys, sA, hDA, hY⟩
        rw [hW.len, List.take_length] at hY
        exact ⟨D, ys, _, _, _, rfl, Same.tr2 sB sA, not_there sB hD, hDA, hY⟩
    rintro σ2 H2 ⟨b, zs, u2, u3, u4, rfl, s2, nb, hb, hW⟩
    exact ⟨_, rfl, k b zs H2 s2 nb hb hW⟩
theorem ps_no {X : Cx} {st : Stmt} : PS X st (fun _ _ _ => False) := ⟨fun _ _ _ _ _ _ h => h.elim⟩
/-- rows one after another -/
def spRowsY (CR : Addr) : SpY := fun vs H R => ∃ n : Nat, vs = [.int (n : Nat)] ∧ n ≤ 5 ∧ R (rowsL n).length fun i y H' => ∃ r v, y = .ref r ∧ (rowsL n)[i]? = some v ∧ RowAt CR H' r (v.map V.int)
theorem ok_rowsY {f fW fA fI : Addr} {fd fdW fdA fdI : FuncData} {tM : Tok} (F : Fun K "rows_of" "rows_of" sRo f fd) (R : RowC K mg CR) (hMost : mg "MOST_COUNTED" = some (.int 5 tM)) (cWhole : Dn P w K mg base 1 "is_whole" fW fdW ["value", "least", "most"] (spWhole K)) (cAllW : Dn P w K mg base 2 "all_waggons" fA fdA ["many"] spAllW)
    (RM : Mk K CR fI) (RI : FnOk P w K mg base (L2.CX P w) 3 fI fdI ["self", "waggons"] (spRI K C CR)) (rb : Binds K fdI ["self", "waggons"] []) : GYn P w K mg base 7 f fd ["many"] (spRowsY CR) := by
  obtain ⟨oc, od, kV, doc, pm, an, cdv, ct, osl, rfl, lk, cd⟩ := F.ex
  have nd : (["many", "waggons"] : List Str).Nodup := by decide
  refine gyn_of (N := ["many", "waggons"]) lk cd ⟨rfl, rfl, rfl, nd, rfl, by decide, by decide⟩ (fun vs H R h => ?_) (fun _ => rfl) (fun _ _ => rfl) (fun _ => rfl) (fun outer s H vs R' h => ?_)
  · obtain ⟨n, rfl, _⟩ := h
    rfl
  · obtain ⟨n, rfl, hn, hR⟩ := h
    refine ⟨_, _, hR, fun A pn D hr hD => ⟨_, _, _, _, ps_if (pt_not (pt_val (pe_call cWhole.ok (hr.mono (by decide)) rfl cWhole.mgf cWhole.kp cWhole.bi .nil pass0 (pa_cons (pv 0) (pa_cons pe_int (pa_cons (pe_glob (v := .int 5) (by rfl) hMost ⟨_, rfl⟩) pa_nil)))))) (pss_one ps_no) pss_nil,
      pi_list (pe_call cAllW.ok (hr.mono (by decide)) rfl cAllW.mgf cAllW.kp cAllW.bi .nil pass0 (pa_cons (pv 0) pa_nil)), pg_name (i := 1) nd rfl (by first | exact Or.inl rfl | exact Or.inr rfl),
      pe_make (E := fun _ _ _ => False) RM RI (hr.mono (by decide)) (by rfl) R.mgR rb .nil (passes_call LamX.takes0 (fun _ _ _ _ h => h)) (pa_cons (pv 1) pa_nil), fun H2 hk ht => ?_⟩⟩
    unfold tGY
    walk_at "s"
    have hwv : wholeV (V.int (n : Nat)) 0 5 = true := by simp [wholeV]; omega
    refine ⟨.int (n : Nat), 0, 5, rfl, .int _, by rw [hwv], ?_⟩
    refine ⟨_, rfl, n, rfl, hn, fun l zs A1 s1 nl hl hW => ⟨l, rfl, ⟨_, SqL.of hl⟩, fun b u h => s1 b u h, ?_⟩⟩
    obtain ⟨xD, hxD⟩ := ht
    have lD : l ≠ D := fun z => by rw [z, hxD] at nl; cases nl
    obtain ⟨_, hrow, _, _, _⟩ := rows_facts hn
    refine ⟨fun i σ H => (∃ u1, σ = [some (.int (n : Nat)), u1]) ∧ i ≤ (rowsL n).length ∧ H l = some (.lst zs) ∧ WtL H zs (rowsL n) ∧ ∃ xs, H D = some (.lst xs), ⟨⟨_, rfl⟩, Nat.zero_le _, hl, hW, _, s1 _ _ hxD⟩, ?_⟩
    rintro i σ H3 ⟨⟨u1, rfl⟩, hi, hl3, hW3, xD3, hD3⟩
    have lz := hW3.len
    by_cases lt : i < (rowsL n).length
    · refine .inr ⟨lt, ⟨zs, zs[i], SqL.of hl3, List.getElem?_eq_getElem (by omega)⟩, fun x H4 hy => ?_⟩
      obtain ⟨rfl, hx⟩ := hy
      obtain ⟨t, v, rfl, hv, ht⟩ := hW3.get (hx _ (SqL.of hl3))
      refine ⟨_, rfl, make_at ht rfl (hrow v (List.mem_of_getElem? hv)) (by omega) fun q A2 s2 hq => ⟨fun b u h => s2 b u h, ⟨v, hv, hq⟩, fun H5 k5 x5 h5 => ⟨⟨_, rfl⟩, lt, k5 _ _ lD (s2 _ _ hl3), ?_, x5, h5⟩⟩⟩
      exact (hW3.same s2).keep fun a xs h => k5 _ _ (fun z => by rw [z, s2 _ _ hD3] at h; cases h) h
    · exact .inl ⟨by omega, zs, SqL.of hl3, by omega⟩
theorem gss_no {X : Cx} {rest : List Stmt} : GSs X rest (fun _ _ _ _ => False) := ⟨fun _ _ _ _ _ _ _ _ _ _ _ _ _ _ _ _ _ _ _ _ _ h => h.elim⟩
/-- the number is none: the generator fails as it begins -/
def spRowsE (K : PySem.W.Frag) (C : Kd → Addr) : SpG := fun vs H _ E => ∃ x : V, vs = [x] ∧ Asked K H x ∧ wholeV x 0 5 = false ∧ ∀ d H', Same H H' → H' d = some (.xd [("value", x)]) → E (.ref (C .number)) (some d) H'
theorem ok_rowsE {f fW : Addr} {fd fdW : FuncData} {tM : Tok} (F : Fun K "rows_of" "rows_of" sRo f fd) (hMost : mg "MOST_COUNTED" = some (.int 5 tM)) (XB : ∀ k, hasK k = true → XDs P w K mg base C k) (cWhole : Dn P w K mg base 1 "is_whole" fW fdW ["value", "least", "most"] (spWhole K)) : GFn P w K mg base 5 f fd ["many"] (spRowsE K C) := by
  obtain ⟨oc, od, kV, doc, pm, an, cdv, ct, osl, rfl, lk, cd⟩ := F.ex
  refine gfn_of lk cd (N := ["many", "waggons"]) ⟨rfl, rfl, rfl, by decide, rfl, by decide, by decide⟩ (fun vs H Q E h => ?_) (fun A outer s H vs Q E pn hr h => ?_)
  · obtain ⟨x, rfl, _⟩ := h
    rfl
  · obtain ⟨x, rfl, hA, hwv, hk⟩ := h
    refine ⟨_, gss_cons (gs_ps (ps_if (pt_not (pt_val (pe_call cWhole.ok (hr.mono (by decide)) rfl cWhole.mgf cWhole.kp cWhole.bi .nil pass0 (pa_cons (pv 0) (pa_cons pe_int (pa_cons (pe_glob (v := .int 5) (by rfl) hMost ⟨_, rfl⟩) pa_nil)))))) (pss_one (ps_raiseX (k := .number) rfl (XB .number (by decide)) (hr.mono (by decide)) (takes_gcx) (pv 0) (by rfl))) pss_nil)) gss_no, ?_⟩
    simp only [tGThen, tPlain, GEnds.at]
    walk_at "s"
    refine ⟨x, 0, 5, rfl, hA, by rw [hwv], ?_⟩
    exact fun d hd => hk d _ (Same.new hd) upd_same
end
end Fab
set_option maxHeartbeats 2000000
namespace Fab
open PySem L2 PySem.FabX
abbrev sClass : Stmt := top 30
abbrev sTold : Stmt := top 31
local macro_rules | `(tactic| walk_at "s") => `(tactic| simp [tPar, tSeq, tAsg, tOp, tUn, tVar, tC, gName, tCons, tNil, tCB, tCall, rI, rI0, rU, tRet, tDrop, tIfS, tNext, tIf, tTest, tNot, tOr, tAnd, tB, L2.start, CMul, CDiv, rIxF, rLenF, rIntF, sq_lst, sq_tup, tLstF, tTupF, gSub, rCatF, rCatTF, rInF, rNe, rEq, tAndV, tOrV, tNotV, tChain, rTupF, tFldF, tXfK, tRx, tMake, tSl, tPart, tNoPart, rSlTF, rSlF, tRevTF, gTup, gCons, gNil])
theorem rIsK_of {K : PySem.W.Frag} {mg : Str → Option Value} {CF : Addr} {C : Kd → Addr} (T : Exs K mg CF C) {k : Kd} {a : Addr} {d : Option Addr} {H : Hp} {Q : VK} (j : Kd) (e : H a = some (exK a (.ref (C k)) d)) (x : XdAt H d) (q : Q (.bl (decide (k = j))) H) : rIsK K [.ref a, .ref (C j)] H Q :=
  ⟨a, C k, d, _, _, _, rfl, .own _, e, x, T.exc k, T.kit k j, q⟩
theorem Same.cp {H H1 H2 : Hp} (a : Same H H1) (b : Same H1 H2) : Same H H2 := fun x o h => b _ _ (a _ _ h)
def kbs9 (k : Kd) : List Bool := kds9.map fun j => decide (k = j)
theorem fws_kd9 (k : Kd) : fws wds9 (kbs9 k) 9 = [.str k.name] := by
  cases k <;> kernel_rfl
/-- the pairs of a class's word and of whether it is the exception's, n of them -/
def Rws (k : Kd) (H : Hp) (vs : List V) (n : Nat) : Prop := vs.length = n ∧ ∀ i w b, i < n → wds9[i]? = some w → (kbs9 k)[i]? = some b → ∃ p, vs[i]? = some (.ref p) ∧ H p = some (.tup [.str w, .bl b])
theorem Rws.keep {k : Kd} {H H' : Hp} {vs : List V} {n : Nat} (h : Rws k H vs n) (s : ∀ p xs, H p = some (.tup xs) → H' p = some (.tup xs)) : Rws k H' vs n :=
  ⟨h.1, fun i w b hi hw hb => (h.2 i w b hi hw hb).imp fun _ z => ⟨z.1, s _ _ z.2⟩⟩
theorem Rws.same {k : Kd} {H H' : Hp} {vs : List V} {n : Nat} (h : Rws k H vs n) (s : Same H H') : Rws k H' vs n :=
  ⟨h.1, fun i w b hi hw hb => (h.2 i w b hi hw hb).imp fun _ z => ⟨z.1, s _ _ z.2⟩⟩
theorem Rws.snoc {k j : Kd} {H : Hp} {vs : List V} {n : Nat} {p : Addr} {w : Str} (h : Rws k H vs n) (hw : wds9[n]? = some w) (hj : kds9[n]? = some j) (hp : H p = some (.tup [.str w, .bl (decide (k = j))])) : Rws k H (vs ++ [.ref p]) (n + 1) := by
  refine ⟨by rw [List.length_append, h.1]; rfl, fun i w' b hi hw' hb => ?_⟩
  rcases Nat.lt_or_ge i n with h1 | h1
  · obtain ⟨q, h2, h3⟩ := h.2 i w' b h1 hw' hb
    exact ⟨q, by rw [List.getElem?_append_left (by rw [h.1]; exact h1)]; exact h2, h3⟩
  · have e : i = n := by omega
    subst e
    rw [hw] at hw'
    cases hw'
    have : (kbs9 k)[i]? = some (decide (k = j)) := by
      unfold kbs9
      rw [List.getElem?_map, hj]
      rfl
    rw [this] at hb
    cases hb
    exact ⟨p, by rw [List.getElem?_append_right (by rw [h.1]; omega), h.1]; simp, hp⟩
section
variable {P : Program} {w : World} {K : PySem.W.Frag} {mg : Str → Option Value} {base : Heap} {C : Kd → Addr} {CF : Addr}
def spClass (C : Kd → Addr) : Sp := fun vs H Q _ => ∃ (a : Addr) (k : Kd) (d : Option Addr), vs = [.ref a] ∧ H a = some (exK a (.ref (C k)) d) ∧
  ((k.has = true ∧ ∃ dd v, d = some dd ∧ H dd = some (.xd [(k.fld, v)]) ∧ ∀ p H', Same H H' → H' p = some (.tup (TdT k v)) → Q (.ref p) H') ∨ (k.has = false ∧ d = none ∧ ∀ p H', Same H H' → H' p = some (.tup (TdT k .non)) → Q (.ref p) H'))
theorem scClass : FnScope ["error", "rows", "words", "word", "holds"] ["error"] (defScope sClass) := ⟨rfl, rfl, rfl, by decide +kernel, rfl, by decide +kernel, by decide +kernel⟩
theorem ok_class {f : Addr} {fd : FuncData} (F : Fun K "_law_class" "_law_class" sClass f fd) (B : Blt mg) (T : Exs K mg CF C) : FnOk P w K mg base CX0 1 f fd ["error"] (spClass C) := by
  refine F.ok scClass (fun vs H Q E h => ?_) (fun cdv A outer s H vs Q E hr h => ?_)
  · obtain ⟨a, k, d, rfl, _⟩ := h
    rfl
  · obtain ⟨a, k, d, rfl, ha, hk⟩ := h
    refine ⟨_, (pss_cons (ps_set (i := 1) scClass.nd rfl (by first | exact Or.inl rfl | exact Or.inr rfl) (pe_lstF (pa_cons (pe_tupF (pa_cons pe_str (pa_cons (pe_callB call_isK (by rfl) B.isinstance (by decide +kernel) (pa_cons (pv 0) (pa_cons (pe_cl (by rfl) (T.mgc .row)) pa_nil))) pa_nil))) (pa_cons (pe_tupF (pa_cons pe_str (pa_cons (pe_callB call_isK (by rfl) B.isinstance (by decide +kernel) (pa_cons (pv 0) (pa_cons (pe_cl (by rfl) (T.mgc .turn)) pa_nil))) pa_nil))) pa_nil))))
      (pss_cons (ps_set (i := 1) scClass.nd rfl (by first | exact Or.inl rfl | exact Or.inr rfl) (pe_op catF (pv 1) (pe_lstF (pa_cons (pe_tupF (pa_cons pe_str (pa_cons (pe_callB call_isK (by rfl) B.isinstance (by decide +kernel) (pa_cons (pv 0) (pa_cons (pe_cl (by rfl) (T.mgc .place)) pa_nil))) pa_nil))) (pa_cons (pe_tupF (pa_cons pe_str (pa_cons (pe_callB call_isK (by rfl) B.isinstance (by decide +kernel) (pa_cons (pv 0) (pa_cons (pe_cl (by rfl) (T.mgc .number)) pa_nil))) pa_nil))) pa_nil)))))
      (pss_cons (ps_set (i := 1) scClass.nd rfl (by first | exact Or.inl rfl | exact Or.inr rfl) (pe_op catF (pv 1) (pe_lstF (pa_cons (pe_tupF (pa_cons pe_str (pa_cons (pe_callB call_isK (by rfl) B.isinstance (by decide +kernel) (pa_cons (pv 0) (pa_cons (pe_cl (by rfl) (T.mgc .other)) pa_nil))) pa_nil))) (pa_cons (pe_tupF (pa_cons pe_str (pa_cons (pe_callB call_isK (by rfl) B.isinstance (by decide +kernel) (pa_cons (pv 0) (pa_cons (pe_cl (by rfl) (T.mgc .text)) pa_nil))) pa_nil))) pa_nil)))))
      (pss_cons (ps_set (i := 1) scClass.nd rfl (by first | exact Or.inl rfl | exact Or.inr rfl) (pe_op catF (pv 1) (pe_lstF (pa_cons (pe_tupF (pa_cons pe_str (pa_cons (pe_callB call_isK (by rfl) B.isinstance (by decide +kernel) (pa_cons (pv 0) (pa_cons (pe_cl (by rfl) (T.mgc .way)) pa_nil))) pa_nil))) (pa_cons (pe_tupF (pa_cons pe_str (pa_cons (pe_callB call_isK (by rfl) B.isinstance (by decide +kernel) (pa_cons (pv 0) (pa_cons (pe_cl (by rfl) (T.mgc .nothing)) pa_nil))) pa_nil))) pa_nil)))))
      (pss_cons (ps_expr (pe_lm PySem.F.slot_list_append PySem.F.type_list_append appF (pv 1) (pa_cons (pe_tupF (pa_cons pe_str (pa_cons (pe_callB call_isK (by rfl) B.isinstance (by decide +kernel) (pa_cons (pv 0) (pa_cons (pe_cl (by rfl) (T.mgc .great)) pa_nil))) pa_nil))) pa_nil)))
      (pss_cons (ps_setLc (i := 2) (own := [("word", 3), ("holds", 4)]) (g := gTup K 2 (gCons (gName 3) (gCons (gName 4) gNil))) rfl scClass.nd rfl rfl (sw_true rfl rfl rfl (by decide +kernel)) (pi_list (pv 1)) (blkOk_by (own := [("word", 3), ("holds", 4)]) (N := ["error", "rows", "words", "word", "holds"]) (sc := defScope sClass) (by decide +kernel)) (fun _ _ _ _ _ => (pg_tup (by rfl) (pgs_cons (pg_name (i := 3) scClass.nd rfl (by first | exact Or.inl rfl | exact Or.inr rfl)) (pgs_cons (pg_name (i := 4) scClass.nd rfl (by first | exact Or.inl rfl | exact Or.inr rfl)) pgs_nil)))) (fun _ _ _ _ _ => (pts_one (pt_val (pv 4)))) (fun _ _ _ _ _ => (pv 3)))
      (pss_cons (ps_if (pt_cmpR op_ne (pe_callB lenF (by rfl) B.len (by decide +kernel) (pa_cons (pv 2) pa_nil)) pe_int (nomark _)) (pss_one (ps_ret (pe_tupF (pa_cons pe_str pa_nil)))) pss_nil)
      (pss_cons (ps_if (pt_cmpR inF (pe_ix ixF (pv 2) pe_int (fun _ _ => rfl)) (pe_tupF (pa_cons pe_str (pa_cons pe_str (pa_cons pe_str pa_nil)))) (by rfl)) (pss_one (ps_ret (pe_tupF (pa_cons (pe_ix ixF (pv 2) pe_int (fun _ _ => rfl)) (pa_cons (pe_xfK (pv 0)) pa_nil))))) pss_nil)
      (pss_cons (ps_if (pt_cmpR inF (pe_ix ixF (pv 2) pe_int (fun _ _ => rfl)) (pe_tupF (pa_cons pe_str (pa_cons pe_str (pa_cons pe_str pa_nil)))) (by rfl)) (pss_one (ps_ret (pe_tupF (pa_cons (pe_ix ixF (pv 2) pe_int (fun _ _ => rfl)) (pa_cons (pe_xfK (pv 0)) pa_nil))))) pss_nil)
      (pss_one (ps_ret (pe_ifExp (pt_cmpR op_eq (pe_ix ixF (pv 2) pe_int (fun _ _ => rfl)) pe_str (nomark _)) (pe_tupF (pa_cons (pe_ix ixF (pv 2) pe_int (fun _ _ => rfl)) (pa_cons (pe_xfK (pv 0)) pa_nil))) (pe_tupF (pa_cons (pe_ix ixF (pv 2) pe_int (fun _ _ => rfl)) pa_nil)))))))))))))), ?_⟩
    have hx : XdAt H d := by
      rcases hk with ⟨_, dd, v, rfl, e, _⟩ | ⟨_, rfl, _⟩
      · exact ⟨_, e⟩
      · exact True.intro
    have fin : ∀ {H2 : Hp}, Same H H2 → H2 a = some (exK a (.ref (C k)) d) ∧ XdAt H2 d := fun {H2} s => ⟨s _ _ ha, by
      cases d with
      | none => exact True.intro
      | some dd =>
        obtain ⟨fs, hfs⟩ := hx
        exact ⟨fs, s _ _ hfs⟩⟩
    have bk : ∀ {H2 : Hp} {b : Addr}, Same H H2 → H2 b = none → H b = none := fun {H2} {b} s h => by
      cases e : H b with
      | none => rfl
      | some o =>
        rw [s _ _ e] at h
        cases h
    have r0 : ∀ H', Rws k H' [] 0 := fun H' => ⟨rfl, fun i w b hi => by omega⟩
    refine seq_nx (fun σ' H' => ∃ (l : Addr) (vs : List V), σ' = [some (.ref a), some (.ref l), none, none, none] ∧ Same H H' ∧ H' l = some (.lst vs) ∧ Rws k H' vs 2 ∧ H l = none) (fun Z hZ => ?_) ?_
    · walk_at "s"
      refine rIsK_of T .row ha hx ⟨sz_le (by decide), view_tup VW.start fun t1 A1 v1 => ?_⟩
      have f1 := fin v1.fr
      refine rIsK_of T .turn f1.1 f1.2 ⟨sz_le (by decide), view_tup v1 fun t2 A2 v2 => ⟨sz_le (by decide), view_new v2 fun l2 A3 v3 => hZ _ _ ⟨l2, _, rfl, v3.fr, v3.facts.1, ?_, v3.own _ List.mem_cons_self⟩⟩⟩
      exact ((r0 A3).snoc (j := .row) (p := t1) rfl rfl (v3.tu _ (List.mem_cons_of_mem _ List.mem_cons_self))).snoc (j := .turn) (p := t2) rfl rfl (v3.tu _ List.mem_cons_self)
    rintro σ1 H1 ⟨l, vs, rfl, s1, hl, hw, hn⟩
    refine seq_nx (fun σ' H' => ∃ (l : Addr) (vs : List V), σ' = [some (.ref a), some (.ref l), none, none, none] ∧ Same H H' ∧ H' l = some (.lst vs) ∧ Rws k H' vs 4 ∧ H l = none) (fun Z hZ => ?_) ?_
    · walk_at "s"
      refine rIsK_of T .place (fin s1).1 (fin s1).2 ⟨sz_le (by decide), view_tup VW.start fun t1 A1 v1 => ?_⟩
      have f1 := fin (Same.cp s1 v1.fr)
      refine rIsK_of T .number f1.1 f1.2 ⟨sz_le (by decide), view_tup v1 fun t2 A2 v2 => ⟨sz_le (by decide), view_new v2 fun l2 A3 v3 => ?_⟩⟩
      have lv := hw.1
      refine ⟨_, v3.fr _ _ hl, _, v3.facts.1, sz_le (by simp [lv]), view_new v3 fun l3 A4 v4 => hZ _ _ ⟨l3, _, rfl, Same.cp s1 v4.fr, v4.facts.1, ?_, bk s1 (v4.own _ List.mem_cons_self)⟩⟩
      have h2 := ((hw.same v4.fr).snoc (j := .place) (p := t1) rfl rfl (v4.tu _ (List.mem_cons_of_mem _ List.mem_cons_self))).snoc (j := .number) (p := t2) rfl rfl (v4.tu _ List.mem_cons_self)
      simpa using h2
    clear hw hl s1 hn
    clear l vs
    clear H1
    rintro σ1 H1 ⟨l, vs, rfl, s1, hl, hw, hn⟩
    refine seq_nx (fun σ' H' => ∃ (l : Addr) (vs : List V), σ' = [some (.ref a), some (.ref l), none, none, none] ∧ Same H H' ∧ H' l = some (.lst vs) ∧ Rws k H' vs 6 ∧ H l = none) (fun Z hZ => ?_) ?_
    · walk_at "s"
      refine rIsK_of T .other (fin s1).1 (fin s1).2 ⟨sz_le (by decide), view_tup VW.start fun t1 A1 v1 => ?_⟩
      have f1 := fin (Same.cp s1 v1.fr)
      refine rIsK_of T .text f1.1 f1.2 ⟨sz_le (by decide), view_tup v1 fun t2 A2 v2 => ⟨sz_le (by decide), view_new v2 fun l2 A3 v3 => ?_⟩⟩
      have lv := hw.1
      refine ⟨_, v3.fr _ _ hl, _, v3.facts.1, sz_le (by simp [lv]), view_new v3 fun l3 A4 v4 => hZ _ _ ⟨l3, _, rfl, Same.cp s1 v4.fr, v4.facts.1, ?_, bk s1 (v4.own _ List.mem_cons_self)⟩⟩
      have h2 := ((hw.same v4.fr).snoc (j := .other) (p := t1) rfl rfl (v4.tu _ (List.mem_cons_of_mem _ List.mem_cons_self))).snoc (j := .text) (p := t2) rfl rfl (v4.tu _ List.mem_cons_self)
      simpa using h2
    clear hw hl s1 hn
    clear l vs
    clear H1
    rintro σ1 H1 ⟨l, vs, rfl, s1, hl, hw, hn⟩
    refine seq_nx (fun σ' H' => ∃ (l : Addr) (vs : List V), σ' = [some (.ref a), some (.ref l), none, none, none] ∧ Same H H' ∧ H' l = some (.lst vs) ∧ Rws k H' vs 8 ∧ H l = none) (fun Z hZ => ?_) ?_
    · walk_at "s"
      refine rIsK_of T .way (fin s1).1 (fin s1).2 ⟨sz_le (by decide), view_tup VW.start fun t1 A1 v1 => ?_⟩
      have f1 := fin (Same.cp s1 v1.fr)
      refine rIsK_of T .nothing f1.1 f1.2 ⟨sz_le (by decide), view_tup v1 fun t2 A2 v2 => ⟨sz_le (by decide), view_new v2 fun l2 A3 v3 => ?_⟩⟩
      have lv := hw.1
      refine ⟨_, v3.fr _ _ hl, _, v3.facts.1, sz_le (by simp [lv]), view_new v3 fun l3 A4 v4 => hZ _ _ ⟨l3, _, rfl, Same.cp s1 v4.fr, v4.facts.1, ?_, bk s1 (v4.own _ List.mem_cons_self)⟩⟩
      have h2 := ((hw.same v4.fr).snoc (j := .way) (p := t1) rfl rfl (v4.tu _ (List.mem_cons_of_mem _ List.mem_cons_self))).snoc (j := .nothing) (p := t2) rfl rfl (v4.tu _ List.mem_cons_self)
      simpa using h2
    clear hw hl s1 hn
    clear l vs
    clear H1
    rintro σ1 H1 ⟨l, vs, rfl, s1, hl, hw, hn⟩
    refine seq_nx (fun σ' H' => ∃ (l : Addr) (vs : List V), σ' = [some (.ref a), some (.ref l), none, none, none] ∧ Same H H' ∧ H' l = some (.lst vs) ∧ Rws k H' vs 9 ∧ H l = none) (fun Z hZ => ?_) ?_
    · unfold tDrop tLM rAppF
      walk_at "s"
      have lv := hw.1
      refine ⟨⟨_, hl⟩, rIsK_of T .great (fin s1).1 (fin s1).2 ⟨sz_le (by decide), view_tup VW.start fun t1 A1 v1 => ⟨_, v1.fr _ _ hl, sz_lt (by omega), ?_⟩⟩⟩
      refine hZ _ _ ⟨l, _, rfl, fun b o h => ?_, upd_same, ?_, hn⟩
      · rw [upd_ne (ne_of_none h hn)]
        exact v1.fr _ _ (s1 _ _ h)
      · refine ((hw.same v1.fr).snoc (j := .great) (p := t1) rfl rfl (v1.tu _ List.mem_cons_self)).keep fun p xs hp => ?_
        rw [upd_ne (fun z => by rw [z, v1.fr _ _ hl] at hp; cases hp)]
        exact hp
    clear hw hl s1 hn
    clear l vs
    clear H1
    rintro σ1 H1 ⟨l, vs, rfl, s1, hl, hw, hn⟩
    refine seq_nx (fun σ' H' => ∃ (l D : Addr), σ' = [some (.ref a), some (.ref l), some (.ref D), none, none] ∧ Same H H' ∧ H' D = some (.lst [.str k.name])) (fun Z hZ => ?_) ?_
    · refine ⟨_, rfl, l, rfl, ⟨_, SqL.of hl⟩, fun D hD => ?_⟩
      refine lc_it (walk_list (K := K) (a := l) (xs := vs)) (fun i H' => VW H1 H' [(D, .lst (fws wds9 (kbs9 k) i))] []) (VW.start.push hD) (fun i H' _ v' => SqL.of (v'.fr _ _ hl)) ?_ (fun H' v' => hZ _ _ ⟨l, D, rfl, Same.cp s1 v'.fr, ?_⟩)
      · rintro i y H4 H5 hi v1 ⟨rfl, hy⟩
        have lv := hw.1
        obtain ⟨w, hw9⟩ : ∃ w, wds9[i]? = some w := ⟨_, List.getElem?_eq_getElem (by show i < 9; omega)⟩
        obtain ⟨b, hb9⟩ : ∃ b, (kbs9 k)[i]? = some b := ⟨_, List.getElem?_eq_getElem (by show i < 9; omega)⟩
        obtain ⟨p, hp1, hp2⟩ := hw.2 i w b (by omega) hw9 hb9
        rw [hp1] at hy
        cases hy
        have nx := fws_next (n := i) hw9 hb9
        refine ⟨p, _, rfl, SqT.of (v1.fr _ _ hp2), rfl, _, _, rfl, _, _, rfl, rfl, rfl, ?_⟩
        refine ⟨_, rfl, b, rfl, ?_⟩
        cases b with
        | false =>
          rw [if_neg (by decide)] at nx ⊢
          rw [nx]
          exact v1
        | true =>
          rw [if_pos rfl] at nx ⊢
          rw [nx]
          refine ⟨_, rfl, _, v1.facts.1, ?_, v1.put 0 rfl rfl⟩
          have := fws_len (ws := wds9) (bs := kbs9 k) (n := i)
          exact sz_lt (by omega)
      · have := v'.facts.1
        rw [hw.1, fws_kd9] at this
        exact this
    rintro σ2 H2 ⟨l2, D, rfl, s2, hD⟩
    walk_at "s"
    refine ⟨_, hD, _, rfl, rfl, .inl ⟨rfl, _, hD, _, rfl, _, rfl, sz_le (by decide), view_tup VW.start fun t1 A1 v1 => ⟨_, v1.tu _ List.mem_cons_self, _, rfl, rfl, by simp [flatV], ?_⟩⟩⟩
    have hD1 := v1.fr _ _ hD
    obtain ⟨f1, f2⟩ := fin (Same.cp s2 v1.fr)
    have lst : ∀ (A : Hp), Same A1 A → A D = some (.lst [.str k.name]) ∧ A a = some (exK a (.ref (C k)) d) := fun A s => ⟨s _ _ hD1, s _ _ f1⟩
    rcases hk with ⟨hh, dd, v, rfl, e, kq⟩ | ⟨hh, rfl, kq⟩
    · have e1 : ∀ {A : Hp}, Same A1 A → A dd = some (.xd [(k.fld, v)]) := fun {A} s => s _ _ (v1.fr _ _ (s2 _ _ e))
      have q1 : ∀ {A : Hp}, Same A1 A → newTup A [.str k.name, v] fun p H' => Q (.ref p) H' := fun {A} s => view_tup VW.start fun p H' v' => kq p H' (Same.cp (Same.cp (Same.cp s2 v1.fr) s) v'.fr) (by
        rw [TdT, if_pos hh]
        exact v'.tu _ List.mem_cons_self)
      have s11 : Same A1 A1 := fun _ _ z => z
      cases k
      case other => cases hh
      case nothing => cases hh
      all_goals first
        | (rw [if_pos (by rfl)]
           exact ⟨_, hD1, _, rfl, _, rfl, _, _, f1, T.xf _, T.no _, _, e1 s11, _, rfl, sz_le (by decide), q1 s11⟩)
        | (rw [if_neg (by show ¬ inV _ [V.str "BadRow", V.str "BadTurn", V.str "BadText"] = true; decide)]
           refine ⟨_, hD1, _, rfl, _, rfl, sz_le (by decide), view_tup (VW.start (H := A1)) fun t2 A2 v2 => ⟨_, v2.tu _ List.mem_cons_self, _, rfl, rfl, by simp [flatV], ?_⟩⟩
           obtain ⟨g1, g2⟩ := lst A2 v2.fr
           first
           | (rw [if_pos (by rfl)]
              exact ⟨_, g1, _, rfl, _, rfl, _, _, g2, T.xf _, T.no _, _, e1 v2.fr, _, rfl, sz_le (by decide), q1 v2.fr⟩)
           | (rw [if_neg (by show ¬ inV _ [V.str "BadPlace", V.str "BadNumber", V.str "BadWay"] = true; decide)]
              refine ⟨_, g1, _, rfl, _, rfl, rfl, ?_⟩
              rw [if_pos (by rfl)]
              exact ⟨_, g1, _, rfl, _, rfl, _, _, g2, T.xf _, T.no _, _, e1 v2.fr, _, rfl, sz_le (by decide), q1 v2.fr⟩))
    · have q1 : ∀ {A : Hp}, Same A1 A → newTup A [.str k.name] fun p H' => Q (.ref p) H' := fun {A} s => view_tup VW.start fun p H' v' => kq p H' (Same.cp (Same.cp (Same.cp s2 v1.fr) s) v'.fr) (by
        rw [TdT, if_neg (by rw [hh]; decide)]
        exact v'.tu _ List.mem_cons_self)
      cases k
      case other =>
        rw [if_neg (by show ¬ inV _ [V.str "BadRow", V.str "BadTurn", V.str "BadText"] = true; decide)]
        refine ⟨_, hD1, _, rfl, _, rfl, sz_le (by decide), view_tup (VW.start (H := A1)) fun t2 A2 v2 => ⟨_, v2.tu _ List.mem_cons_self, _, rfl, rfl, by simp [flatV], ?_⟩⟩
        obtain ⟨g1, g2⟩ := lst A2 v2.fr
        rw [if_neg (by show ¬ inV _ [V.str "BadPlace", V.str "BadNumber", V.str "BadWay"] = true; decide)]
        refine ⟨_, g1, _, rfl, _, rfl, rfl, ?_⟩
        rw [if_neg (by decide)]
        exact ⟨_, g1, _, rfl, _, rfl, sz_le (by decide), q1 v2.fr⟩
      case nothing =>
        rw [if_neg (by show ¬ inV _ [V.str "BadRow", V.str "BadTurn", V.str "BadText"] = true; decide)]
        refine ⟨_, hD1, _, rfl, _, rfl, sz_le (by decide), view_tup (VW.start (H := A1)) fun t2 A2 v2 => ⟨_, v2.tu _ List.mem_cons_self, _, rfl, rfl, by simp [flatV], ?_⟩⟩
        obtain ⟨g1, g2⟩ := lst A2 v2.fr
        rw [if_neg (by show ¬ inV _ [V.str "BadPlace", V.str "BadNumber", V.str "BadWay"] = true; decide)]
        refine ⟨_, g1, _, rfl, _, rfl, rfl, ?_⟩
        rw [if_neg (by decide)]
        exact ⟨_, g1, _, rfl, _, rfl, sz_le (by decide), q1 v2.fr⟩
      all_goals cases hh
end
theorem Et.any {K : PySem.W.Frag} {mg : Str → Option Value} {CF : Addr} {C : Kd → Addr} (T : Exs K mg CF C) {Q : VK} {cls : Value} {d : Option Addr} {H : Hp} (h : Et C Q cls d H) : PySem.W.exmAny K cls [.ref CF, .ref (C .great)] = some true := by
  obtain ⟨k, rfl, _⟩ := h
  exact T.any k
def tbT (f c' : Addr) (q : Str) (tl : XK → Hp → VK → Prop) : WX → TS := fun W D σ H => ∃ Ech : XK, (∀ cls d σ' H', Ech cls d H' → W cls d σ' H') ∧ σ[0]? = some (some (.ref f)) ∧ H c' = some (LamX.CodeO c' q) ∧ tl Ech H fun v H1 => D.nx (σ.set 1 (some v)) H1
/-- of a call that is told: what it returns, alone in a list, or what is told of its exception -/
def TTt (C : Kd → Addr) : (XK → Hp → VK → Prop) → Hp → VK → Prop := fun tl H Q => ∀ H1, Same H H1 → ∀ Qx : VK, (∀ v H2, Qh Q v H2 → Qx v H2) → tl (Et C Q) H1 Qx
theorem scTold : FnScope ["call", "found", "error", "e"] ["call"] (defScope sTold) := ⟨rfl, rfl, rfl, by decide +kernel, rfl, by decide +kernel, by decide +kernel⟩
theorem told_gives {X : Cx} {g CF fC : Addr} {fdC : FuncData} {cdg : Value} {q : Str} {C : Kd → Addr} (T : Exs X.K X.mg CF C) (B : Blt X.mg) (cClass : Dn X.prog X.w X.K X.mg X.base 1 "_law_class" fC fdC ["error"] (spClass C)) (hr : Room 3 X.A) :
    LamX.GivesTo X ["call", "found", "error", "e"] "_law_told" (defScope sTold) g cdg (defBody sTold) "call" q (TTt C) := by
  intro f c' s H Q tl act hc h
  refine ⟨_, (pss_cons (ps_asg (pe_tupF (pa_cons pe_non (pa_cons pe_non pa_nil))) (pg_tup (by rfl) (pgs_cons (pg_name (i := 1) scTold.nd rfl (by first | exact Or.inl rfl | exact Or.inr rfl)) (pgs_cons (pg_name (i := 2) scTold.nd rfl (by first | exact Or.inl rfl | exact Or.inr rfl)) pgs_nil))))
      (pss_cons (ps_try_two (i := 3) (n := "e") (tb := tbT f c' q tl) (ts := fun a => tAsg (tVar 3) (gName 2)) rfl rfl rfl scTold.nd rfl rfl (by rfl) T.mgF (by rfl) (T.mgc .great) (fun W pn xe tk _ => (⟨fun pins s' σ H' D I h => by
        obtain ⟨Ech, hW, h1, h2, h3⟩ := h
        exact (pss_one (ps_set (i := 1) scTold.nd rfl (Or.inl rfl) (act W pn xe Ech _ _ tk hW))).run pins s' σ H' D I ⟨h1, h2, h3⟩⟩ : PSs _ _ _)) (fun a pn => pss_one (ps_set (i := 2) scTold.nd rfl (Or.inl rfl) (pv 3))))
      (pss_one (ps_ret (pe_ifExp (pt_cmpR op_isN (pv 2) pe_non (nomark _)) (pe_lstF (pa_cons (pv 1) pa_nil)) (pe_call cClass.ok ((hr.deeper _).mono (by decide)) rfl cClass.mgf cClass.kp cClass.bi .nil pass0 (pa_cons (pv 2) pa_nil))))))), ?_⟩
  refine ⟨sz_le (by decide), view_tup VW.start fun p0 H1 v1 => ⟨p0, _, rfl, SqT.of (v1.tu _ List.mem_cons_self), rfl, _, _, rfl, _, _, rfl, rfl, ?_⟩⟩
  refine ⟨Et C Q, ?_, rfl, v1.fr _ _ hc, ?_⟩
  · rintro cls d σ' H' hE
    refine ⟨Et.any T hE, fun a ha hl => ?_⟩
    obtain ⟨a0, a1, a2, a3, rfl⟩ : ∃ a0 a1 a2 a3 : Option V, σ' = [a0, a1, a2, a3] := by
      match σ', hl with
      | [a0, a1, a2, a3], _ => exact ⟨a0, a1, a2, a3, rfl⟩
    have sa : Same H' (upd H' a (exK a cls d)) := Same.new ha
    obtain ⟨k, rfl, hE⟩ := hE
    walk_at "s"
    intro _
    refine ⟨a, k, d, rfl, upd_same, ?_⟩
    rcases hE with ⟨hh, dd, v, rfl, e, kq⟩ | ⟨hh, rfl, kq⟩
    · exact .inl ⟨hh, dd, v, rfl, sa _ _ e, fun p H'' s h => kq p H'' (Same.cp sa s) h⟩
    · exact .inr ⟨hh, rfl, fun p H'' s h => kq p H'' (Same.cp sa s) h⟩
  · refine h H1 v1.fr _ fun v H2 hv => ?_
    walk_at "s"
    exact ⟨sz_le (by decide), fun p hp => hv p _ (Same.new hp) upd_same⟩
theorem told_any {C : Kd → Addr} {Tb : List (Addr × Str)} {H : Hp} {σ : St} {t : XK → TE} {Q : VK} (hT : LamX.Tabs Tb H) (h : ∀ (H2 : Hp) (Qx : VK), LamX.ExtN H H2 → LamX.Tabs Tb H2 → (∀ v H', Qh Q v H' → Qx v H') → t (Et C Q) σ H2 Qx) : LamX.tLam Tb (TTt C) t σ H Q :=
  ⟨hT, fun H1 eN T1 H2 s2 Qx hx => h H2 Qx (eN.trans (LamX.ExtN.of s2)) (T1.ext s2) hx⟩
end Fab
set_option maxHeartbeats 4000000
namespace Fab
open PySem PySem.Spec PyProof.Rows L2 LamX
end Fab
set_option maxHeartbeats 4000000
namespace Fab
open PySem L2
open PyProof.Rows (envOfC)
section
variable {X : Cx}
/-- repr of a list: what it holds is not the dict of modules -/
theorem repr_lst {prog : Program} {w : World} {A : Around} {E : Value → Shared → Prop} {s : Shared} {Q : Value → Shared → Prop} {a : Addr} {o : Obj} {x : Value} {l : List Value} {n : Nat} {xs : List PyData} {as : List Addr} (h1 : s.heap.get? a = some o) (h2 : o.cls = .type "list") (h3 : o.data = .seq ⟨x :: l⟩ n) (h4 : ReadsAll s.heap (x :: l) xs as)
    (hs : PyData.showableAll xs = true) (hsm : sysModules ∉ as) (hg : A.guards = some []) (hu : A.units + ((PyData.list xs).depth + 1) < cLine) (hQ : ∀ h' u tk, (∀ b o, s.heap.get? b = some o → h'.get? b = some o) → Q (.str (PyData.list xs).shown u) { s with heap := h', toks := tk })
    (hsz : (PyData.list xs).shown.length ≤ sizeLine) : wpAny (model prog w) A (call (.builtin "repr") [.ref a]) Q E s := by
  have hz' : (listText (PyData.shownAll xs)).length ≤ sizeLine := by simpa only [PyData.shown] using hsz
  obtain ⟨bs, hb, hk⟩ := ReprAllK.of_readsAll (prog := prog) (w := w) h4 hs (fun _ hm => hsm hm) (fun t ht => Nat.le_trans (listText_mem_le ht) hz')
  have hna : a ∉ bs := not_mem_of_deeper (.list h1 h2 h3 h4) (by simp only [PyData.depth]; omega) hb
  refine call_repr_slot (by omega) ⟨o, h1, h2⟩ F.slot_list_repr.toG ?_
  simp only [PyData.depth] at hu
  simp only [PyData.shown] at hQ
  exact call_list_reprK h1 h2 h3 hna (by simpa using hk.length_eq) (fun i y e => hk.item i y (by simpa using e)) hg (fun b _ => Clear.nil b) (by show A.units + 1 + _ < cLine; omega) (fun _ _ z => z) (fun h' u tk hk => ⟨_, _, rfl, hQ h' u tk hk⟩) hz'
end
end Fab
set_option maxHeartbeats 4000000
namespace Fab
open PySem L2
open PySem L2
open PyProof.Rows (envOfC)
section
variable {X : Cx}
/-- x is told by repr as d is; a list of a word with an empty dict and a word with an int, too -/
def Rf (K : PySem.W.Frag) (H : Hp) (x : V) (d : PyData) : Prop := Rp K H x d ∨ ∃ (t t1 t2 p : Addr) (w1 w2 : Str) (c : Int), x = .ref t ∧ H t = some (.lst [.ref t1, .ref t2]) ∧ H t1 = some (.tup [.str w1, .ref p]) ∧ H p = some (.dK []) ∧ H t2 = some (.tup [.str w2, .int c]) ∧ d = .list [.tuple [.str w1, .dict []], .tuple [.str w2, .int c]] ∧ (PyData.int c).showable = true ∧ d.shown.length ≤ sizeLine
def rReprF (K : PySem.W.Frag) : List V → Hp → VK → Prop := fun xs H Q => ∃ x d, xs = [x] ∧ Rf K H x d ∧ Q (.str d.shown) H
theorem call_reprF (hg : X.A.guards = some []) (hu : X.A.units + 64 < cLine) : CallR X (.builtin "repr") (rReprF X.K) := by
  intro pins s σ H xs us Q I r ⟨x, d, e, h, q⟩
  rcases h with h | ⟨t, t1, t2, p, w1, w2, c, rfl, ht, ht1, hp, ht2, ed, hc, hz⟩
  · exact call_reprQ hg hu pins s σ H xs us Q I r ⟨x, d, e, h, q⟩
  subst e
  obtain ⟨u, rfl, rx⟩ := vals1 r
  cases rx
  obtain ⟨hsys, rd⟩ := dk0_reads I hp
  have r1 : Reads s.heap (.ref t1) (.tuple [.str w1, .dict []]) [p] := by
    obtain ⟨its, rv, ⟨o, ho, hcl, n, hd⟩, _⟩ := I.tuple (SqT.of ht1)
    cases rv with
    | cons ra rr =>
      cases rr with
      | cons rb rn =>
        cases rn
        obtain ⟨tk, rfl⟩ := ra
        cases rb
        have := Reads.tuple ho hcl hd (.cons (.str _ tk) (.cons rd .nil))
        simpa using this
  have r2 : Reads s.heap (.ref t2) (.tuple [.str w2, .int c]) [] := by
    obtain ⟨its, rv, ⟨o, ho, hcl, n, hd⟩, _⟩ := I.tuple (SqT.of ht2)
    cases rv with
    | cons ra rr =>
      cases rr with
      | cons rb rn =>
        cases rn
        obtain ⟨tk, rfl⟩ := ra
        obtain ⟨tk2, rfl⟩ := rb
        have := Reads.tuple ho hcl hd (.cons (.str _ tk) (.cons (.int _ tk2) .nil))
        simpa using this
  obtain ⟨its, rv, ⟨o, m, ho, hcl, _, hd⟩, _⟩ := I.list (SqL.of ht)
  cases rv with
  | cons ra rr =>
    cases rr with
    | cons rb rn =>
      cases rn
      cases ra
      cases rb
      rw [ed] at q hz
      have fin : ∀ (h' : Heap) (u : Tok) (tk : Nat), (∀ b o, s.heap.get? b = some o → h'.get? b = some o) → EP X pins σ Q (.str (PyData.list [.tuple [.str w1, .dict []], .tuple [.str w2, .int c]]).shown u) { s with heap := h', toks := tk } := fun h' t tk kp => ⟨.str _, H, I.kept kp, ⟨_, rfl⟩, q⟩
      refine repr_lst ho hcl (x := .ref t1) (l := [.ref t2]) (n := m) hd (.cons r1 (.cons r2 .nil)) (by simp [PyData.showableAll, PyData.showable, PyData.showableKv] at hc ⊢; exact hc) (fun hm => ?_) hg (by simp [PyData.depth, PyData.depthAll, PyData.depthKv]; omega) fin hz
      simp at hm
      rw [← hm] at hsys
      simp at hsys
end
end Fab
set_option maxHeartbeats 4000000
namespace Fab
open PySem L2 PySem.FabX
open PyProof.Rows (envOfC)
abbrev sLaw : Stmt := top 32
local macro_rules | `(tactic| walk_at "s") => `(tactic| simp [tPar, tPar3, tSeq, tAsg, tOp, tUn, tVar, tC, gName, tCons, tNil, tCB, tCall, rI, rI0, rU, tRet, tDrop, tIfS, tNext, tIf, tTest, tNot, tOr, tAnd, tB, L2.start, CMul, CDiv, rIxF, rLenF, rIntF, sq_lst, sq_tup, tLstF, tTupF, gSub, rCatF, rCatTF, rInF, rNe, rEq, tAndV, tOrV, tNotV, tChain, rTupF, rListF, tFldF, tRx, tMake, tMeth, tSl, tPart, tNoPart, rSlTF, rSlF, tRevTF, gTup, gCons, gNil, rIsB, rNotB, tLM, rAppF, tLstRgF, tRg2, tLstRg, iRng1, iRng2])
def rIntB : List V → Hp → VK → Prop := fun vs H Q => ∃ k, vs = [.bl k] ∧ Q (.int (if k then 1 else 0)) H
theorem intB {X : Cx} : CallR X (.type "int") rIntB := clI call_int1 fun vs H Q ⟨i, e, q⟩ => .inr ⟨i, e, q⟩
theorem nostop_num {K : PySem.W.Frag} {C : Kd → Addr} {E : XK} (h : PySem.W.subIn K (.ref (C .number)) (.type "StopIteration") = some false) : NoStop K (fun cls d H => cls = .ref (C .number) ∧ E cls d H) := fun cls d H e => by
  rw [e.1]
  exact h
structure DnGn (P : Program) (w : World) (K : PySem.W.Frag) (mg : Str → Option Value) (base : Heap) (k : Nat) (x : Str) (f : Addr) (fd : FuncData) (ps : List Str) (sp : SpG) : Prop where
  ok : GFn P w K mg base k f fd ps sp
  mgf : mg x = some (.ref f)
  kp : PySem.W.keepIn K (.ref f) = true
  bi : Binds K fd ps []
structure DnYn (P : Program) (w : World) (K : PySem.W.Frag) (mg : Str → Option Value) (base : Heap) (k : Nat) (x : Str) (f : Addr) (fd : FuncData) (ps : List Str) (sp : SpY) : Prop where
  ok : GYn P w K mg base k f fd ps sp
  mgf : mg x = some (.ref f)
  kp : PySem.W.keepIn K (.ref f) = true
  bi : Binds K fd ps []
theorem keyR_data (v : List Int) : (keyR v).data = encI v := by
  have key : ∀ v : List Int, NestedKey.datas (v.map NestedKey.num) = v.map PyData.int := by
    intro v
    induction v with
    | nil => rfl
    | cons x v ih =>
      rw [List.map_cons, List.map_cons, NestedKey.datas, ih]
      rfl
  unfold keyR encI
  rw [NestedKey.data, key]
theorem keys_rows {n : Nat} : ∀ {xs : List EnN}, (∀ e ∈ xs, ∃ v, IsRow v n ∧ e.1 = keyR v) → ∃ R : List (List Int), xs.map (·.1) = R.map keyR ∧ ∀ v ∈ R, IsRow v n
  | [], _ => ⟨[], rfl, fun _ h => nomatch h⟩
  | e :: xs, h => by
    obtain ⟨v, hv, ev⟩ := h e List.mem_cons_self
    obtain ⟨R, h1, h2⟩ := keys_rows (xs := xs) fun y hy => h y (List.mem_cons_of_mem _ hy)
    exact ⟨v :: R, by rw [List.map_cons, List.map_cons, ev, h1], fun u hu => (List.mem_cons.mp hu).elim (fun z => z ▸ hv) (h2 u)⟩
theorem each_keys {K : PySem.W.Frag} {H : Hp} : ∀ {xs : List EnN} {R : List (List Int)}, KeysN H xs → xs.map (·.1) = R.map keyR → PySem.W.EachIs (fun t b => Dp K H (.ref t) (encI b)) (xs.map fun e => e.2.1) R
  | [], [], _, _ => .nil
  | [], _ :: _, _, h => by cases h
  | _ :: _, [], _, h => by cases h
  | e :: xs, v :: R, hk, h => by
    rw [List.map_cons, List.map_cons] at h
    injection h with h1 h2
    have := (hk e List.mem_cons_self).1
    rw [h1] at this
    have hd := NK.dp (K := K) (keyR v) (.ref e.2.1) this
    rw [keyR_data] at hd
    exact .cons hd (each_keys (fun x hx => hk x (List.mem_cons_of_mem _ hx)) h2)
theorem canI : ∀ v : List Int, PyData.canLayAll0 (v.map PyData.int) = true ∧ PyData.depthAll (v.map PyData.int) = 0
  | [] => ⟨by simp [PyData.canLayAll0], by simp [PyData.depthAll]⟩
  | x :: v => by
    obtain ⟨h1, h2⟩ := canI v
    exact ⟨by simp [PyData.canLayAll0, PyData.canLay0, h1], by simp [PyData.depthAll, PyData.depth, h2]⟩
theorem depI (v : List Int) : (encI v).depth ≤ 20 := by
  simp only [encI, PyData.depth, (canI v).2]
  omega
theorem canII : ∀ M : List (List Int), PyData.canLayAll0 (M.map encI) = true ∧ PyData.depthAll (M.map encI) ≤ 1
  | [] => ⟨by simp [PyData.canLayAll0], by simp [PyData.depthAll]⟩
  | L :: M => by
    obtain ⟨h1, h2⟩ := canII M
    obtain ⟨h3, h4⟩ := canI L
    refine ⟨by simp [encI, PyData.canLayAll0, PyData.canLay0, h1, h3], ?_⟩
    simp only [List.map_cons, PyData.depthAll, encI, PyData.depth, h4]
    omega
theorem shII (M : List (List Int)) : SeqAt.shaped (.list (M.map encI)) = true := by
  have h := canII M
  unfold SeqAt.shaped
  rw [Bool.and_eq_true]
  refine ⟨by simp [PyData.canLay0, h.1], decide_eq_true ?_⟩
  simp only [PyData.depth]
  omega
theorem eqII (M : List (List Int)) : PyData.eqv (.list (M.map encI)) (.list (M.map encI)) = true := SeqAt.eqv_refl _ (by simp [PyData.canLay0, (canII M).1])
theorem all_alikeI (M : List (List Int)) : PySem.W.AllAlike (M.map encI) := by
  intro d hd e he
  obtain ⟨a, _, rfl⟩ := List.mem_map.mp hd
  obtain ⟨b, _, rfl⟩ := List.mem_map.mp he
  exact alikeI a b
theorem row0 {v : List Int} (h : IsRow v 0) : v = [] := by
  have := h.len
  exact List.length_eq_zero_iff.mp this
theorem sortI {n : Nat} {R : List (List Int)} (nd : R.Nodup) (h : ∀ v ∈ R, IsRow v n) : PySem.W.Sortable (R.map encI) ∨ R.length < 2 ∧ ∀ b ∈ R, encI b ≠ .none := by
  by_cases c : n = 0
  · refine .inr ⟨?_, fun b _ z => by unfold encI at z; cases z⟩
    match R, nd, h with
    | [], _, _ => exact (by simp)
    | [_], _, _ => exact (by simp)
    | a :: b :: R, nd, h =>
      have h1 := row0 (c ▸ h a (by simp))
      have h2 := row0 (c ▸ h b (by simp))
      rw [h1, h2] at nd
      simp at nd
  · refine .inl (.inl fun d hd => ?_)
    obtain ⟨v, hv, rfl⟩ := List.mem_map.mp hd
    have := (h v hv).len
    match v, this with
    | [], e => exact absurd e.symm c
    | x :: v, _ => exact ⟨_, _, rfl⟩
theorem WtL.dp {K : PySem.W.Frag} {H : Hp} {zs : List V} {vs : List (List Int)} (h : WtL H zs vs) : DpAll K H zs (vs.map encI) := by
  unfold WtL at h
  induction h with
  | nil => exact .nil
  | cons r _ ih =>
    obtain ⟨t, rfl, ht⟩ := r
    exact .cons (.tup (SqT.of ht) (dp_ints _)) ih
mutual
theorem dp_mono {K : PySem.W.Frag} {H H' : Hp} (e : Same H H') : ∀ {v : V} {d : PyData}, Dp K H v d → Dp K H' v d
  | _, _, .non => .non
  | _, _, .bl b => .bl b
  | _, _, .int i => .int i
  | _, _, .str x => .str x
  | _, _, .lst h1 h2 => .lst (h1.ext e) (dpa_mono e h2)
  | _, _, .tup h1 h2 => .tup (h1.ext e) (dpa_mono e h2)
theorem dpa_mono {K : PySem.W.Frag} {H H' : Hp} (e : Same H H') : ∀ {vs : List V} {ds : List PyData}, DpAll K H vs ds → DpAll K H' vs ds
  | _, _, .nil => .nil
  | _, _, .cons h t => .cons (dp_mono e h) (dpa_mono e t)
end
/-- the odd values: no number of waggons -/
inductive OddC (H : Hp) : V → Prop
  | non : OddC H .non
  | bl : OddC H (.bl true)
  | six : OddC H (.int 6)
  | neg : OddC H (.int (-1))
  | str : OddC H (.str (Str.ofString "3"))
  | tup {t : Addr} (h : H t = some (.tup [.int 3])) : OddC H (.ref t)
  | big : OddC H (.int 1000000000000000000000000000000)
  | dct {p : Addr} (h : H p = some (.dK [])) : OddC H (.ref p)
theorem OddC.ext {H H' : Hp} {x : V} (h : OddC H x) (e : LamX.ExtN H H') : OddC H' x := by
  cases h with
  | tup h => exact .tup (e _ _ h (noTbl_ne rfl))
  | dct h => exact .dct (e _ _ h (noTbl_ne rfl))
  | _ => constructor
theorem len_one {w : Str} {a : PyData} (hw : (PyData.str w).shown.length ≤ 20) (ha : a.shown.length ≤ 100) : (PyData.tuple [.str w, a]).shown.length ≤ 1000 := by
  have h1 := tupleText_len_le [(PyData.str w).shown, a.shown]
  have e : (PyData.tuple [.str w, a]).shown = tupleText [(PyData.str w).shown, a.shown] := by
    simp only [PyData.shown, PyData.shownAll]
  rw [e]
  simp only [List.map_cons, List.map_nil, List.sum_cons, List.sum_nil, List.length_cons, List.length_nil] at h1
  omega
structure OddN (K : PySem.W.Frag) (H : Hp) (x : V) : Prop where
  ask : ∀ H', LamX.ExtN H H' → Asked K H' x
  no : wholeV x 0 5 = false
  rp : ∃ d, ∀ (H' : Hp) (t : Addr), LamX.ExtN H H' → H' t = some (.tup [.str "BadNumber", x]) → Rf K H' (.ref t) d
theorem rp_of {K : PySem.W.Frag} {H : Hp} {x : V} {d : PyData} (hd : ∀ H', LamX.ExtN H H' → Dp K H' x d) (dl : d.canLay0 = true) (ds : d.showable = true) (dd : d.depth ≤ 10) (dn : d.shown.length ≤ 100) : ∃ d, ∀ (H' : Hp) (t : Addr), LamX.ExtN H H' → H' t = some (.tup [.str "BadNumber", x]) → Rf K H' (.ref t) d := by
  refine ⟨.tuple [.str "BadNumber", d], fun H' t e h1 => .inl (.dp (.tup (SqT.of h1) (.cons (.str _) (.cons (hd _ e) .nil))) ?_ ?_ ?_ ?_)⟩
  · simp [PyData.showable, PyData.showableAll, ds]
  · exact PyData.hasDict_of_canLay _ (by simp [PyData.canLay0, PyData.canLayAll0, dl]; decide +kernel)
  · simp [PyData.depth, PyData.depthAll]
    omega
  · exact Nat.le_trans (len_one (by decide +kernel) dn) (by decide)
theorem OddC.odd {K : PySem.W.Frag} {H : Hp} {x : V} (h : OddC H x) : OddN K H x := by
  cases h with
  | non => exact ⟨fun _ _ => .other (.base .non) (kit_ty (by decide +kernel)) (fun _ z => by cases z), rfl, rp_of (d := .none) (fun _ _ => .non) rfl rfl (by decide) (by decide)⟩
  | bl => exact ⟨fun _ _ => .bl _, rfl, rp_of (d := .bool true) (fun _ _ => .bl _) rfl rfl (by decide) (by decide)⟩
  | six => exact ⟨fun _ _ => .int _, by decide, rp_of (d := .int 6) (fun _ _ => .int _) rfl (by decide +kernel) (by decide) (by decide +kernel)⟩
  | neg => exact ⟨fun _ _ => .int _, by decide, rp_of (d := .int (-1)) (fun _ _ => .int _) rfl (by decide +kernel) (by decide) (by decide +kernel)⟩
  | str => exact ⟨fun _ _ => .other (.base (.str _)) (kit_ty (by decide +kernel)) (fun _ z => by cases z), rfl, rp_of (d := .str "3") (fun _ _ => .str _) (by decide +kernel) (by decide +kernel) (by decide) (by decide +kernel)⟩
  | tup gt => exact ⟨fun _ e => .other (.base (.tup (e _ _ gt (noTbl_ne rfl)))) (kit_ty (by decide +kernel)) (fun _ z => by cases z), rfl, rp_of (d := .tuple [.int 3]) (fun _ e => .tup (SqT.of (e _ _ gt (noTbl_ne rfl))) (.cons (.int _) .nil)) (by decide +kernel) (by decide +kernel) (by decide +kernel) (by decide +kernel)⟩
  | big => exact ⟨fun _ _ => .int _, by decide, rp_of (d := .int 1000000000000000000000000000000) (fun _ _ => .int _) rfl (by decide +kernel) (by decide) (by decide +kernel)⟩
  | dct gd => exact ⟨fun _ e => .other (.base (.dK (e _ _ gd (noTbl_ne rfl)))) (kit_ty (by decide +kernel)) (fun _ z => by cases z), rfl, ⟨.tuple [.str "BadNumber", .dict []], fun H' t e h1 => .inl (.wd h1 (e _ _ gd (noTbl_ne rfl)) (Nat.le_trans (len_one (by decide +kernel) (by decide +kernel)) (by decide)))⟩⟩
section
variable {P' : Program} {w : World} {K : PySem.W.Frag} {mg : Str → Option Value} {base : Heap} {C : Kd → Addr} {CF CR : Addr}
theorem lcg_rows (R : RowC K mg CR) {n : Nat} (hn : n ≤ 5) {s0 s1 s2 s3 s4 s5 s6 : Option V} {ta : TA} {H : Hp} {Q : VK} (hta : ∀ k : List V → Hp → Prop, k [.int (n : Nat)] H → ta [s0, s1, s2, s3, s4, s5, s6] H k)
    (h : ∀ D zs A, Same H A → H D = none → A D = some (.lst zs) → WtL A zs (rowsL n) → Q (.ref D) A) : tLcG (tYCall (spRowsY CR) [] ta) (gName 4) tYes (tFldF K (tVar 4) "waggons") [4] [s0, s1, s2, s3, s4, s5, s6] H Q := by
  refine hta _ ⟨n, rfl, hn, fun D hD => ⟨fun i B => Same H B ∧ ∃ zs, B D = some (.lst zs) ∧ WtL B zs ((rowsL n).take i), ⟨Same.new hD, [], upd_same, by rw [List.take_zero]; exact .nil⟩, ?_, ?_⟩⟩
  · rintro B B' ⟨sB, zs, hz, hW⟩ sm
    rw [List.take_length] at hW
    exact h D zs B' (fun b u e => sm _ _ (sB _ _ e)) hD (sm _ _ hz) (hW.keep fun _ _ e => sm _ _ e)
  · rintro i B hi ⟨sB, zs, hz, hW⟩ y B' sm ⟨r, v, rfl, hv, dx, tp, hr1, hr2⟩
    have hz' := sm _ _ hz
    have sB' : Same H B' := fun b u e => sm _ _ (sB _ _ e)
    have lz := hW.len
    obtain ⟨_, _, lr, _, _⟩ := rows_facts hn
    have l4 : (rowsL n).length ≤ 3840 := by
      rw [lr]
      have : n = 0 ∨ n = 1 ∨ n = 2 ∨ n = 3 ∨ n = 4 ∨ n = 5 := by omega
      rcases this with rfl | rfl | rfl | rfl | rfl | rfl <;> decide
    have ni : ∀ a xs, B' a = some (.tup xs) → upd B' D (.lst (zs ++ [V.ref tp])) a = some (.tup xs) := fun a xs e => by
      rw [upd_ne (fun z => by rw [z, hz'] at e; cases e)]
      exact e
    refine ⟨rfl, ?_⟩
    refine ⟨.ref r, rfl, r, rfl, CR, dx, _, hr1, R.cl, R.nW, _, rfl, zs, hz', sz_lt (by rw [lz, List.length_take]; omega), fun b u hb e => by rw [upd_ne hb]; exact e, ⟨_, upd_same⟩, sm_upd sB' hD, _, upd_same, ?_⟩
    have et : (rowsL n).take (i + 1) = (rowsL n).take i ++ [v] := by rw [List.take_succ, hv]; rfl
    rw [et]
    exact ((hW.keep fun _ _ e => sm _ _ e).keep ni).snoc (ni _ _ hr2)
theorem nodup_map {α β : Type} {f : α → β} : ∀ {L : List α}, (L.map f).Nodup → L.Nodup
  | [], _ => .nil
  | x :: L, h => by
    rw [List.map_cons, List.nodup_cons] at h
    exact List.nodup_cons.mpr ⟨fun z => h.1 (List.mem_map_of_mem z), nodup_map h.2⟩
theorem lcg_none {n : Nat} (hn : n ≤ 5) {s0 s1 s3 s4 s5 s6 : Option V} {H : Hp} {Q : VK}
    (h : ∀ D A, Same H A → H D = none → A D = some (.lst []) → Q (.ref D) A) : tLcG (tYCall (spRowsY CR) [] (tCons (tVar 2) tNil)) (gName 4) (tTest (tOp rNe (tCB (rLenO CR (spRLen CR) E0) (tCons (tVar 4) tNil)) (tVar 2))) (tVar 4) [4] [s0, s1, some (.int (n : Nat)), s3, s4, s5, s6] H Q := by
  refine ⟨_, rfl, n, rfl, hn, fun D hD => ⟨fun i B => Same H B ∧ B D = some (.lst []), ⟨Same.new hD, upd_same⟩, ?_, ?_⟩⟩
  · rintro B B' ⟨sB, hz⟩ sm
    exact h D B' (fun b u e => sm _ _ (sB _ _ e)) hD (sm _ _ hz)
  · rintro i B hi ⟨sB, hz⟩ y B' sm ⟨r, v, rfl, hv, hR⟩
    obtain ⟨_, hrow, _, _, _⟩ := rows_facts hn
    have lv := (hrow v (List.mem_of_getElem? hv)).len
    obtain ⟨dx, tp, hr1, hr2⟩ := id hR
    refine ⟨rfl, ?_⟩
    unfold tTest tOp tCB
    refine ⟨.ref r, rfl, ?_⟩
    refine ⟨r, dx, _, rfl, hr1, r, _, rfl, hR, _, rfl, by omega, by rw [List.length_map]; omega, ?_⟩
    rw [List.length_map, lv]
    refine ⟨_, rfl, rfl, false, by rw [decide_eq_true rfl]; rfl, ?_⟩
    dsimp only
    rw [if_neg (by decide)]
    exact ⟨fun b u hb e => e, ⟨_, sm _ _ hz⟩, fun b u e => sm _ _ (sB _ _ e), sm _ _ hz⟩
def spLaw (K : PySem.W.Frag) (Tb : List (Addr × Str)) : Sp := fun vs H Q _ => ∃ (a : Addr) (ns : List Int), vs = [.ref a] ∧ SqL K H a (ns.map V.int) ∧ ns.length ≤ 63 ∧ LamX.Tabs Tb H ∧ ∀ H', Q (.bl true) H'
theorem scLaw : FnScope ["script", "m", "many", "told", "row", "odd", "n"] ["script"] (defScope sLaw) := ⟨rfl, rfl, rfl, by decide +kernel, rfl, by decide +kernel, by decide +kernel⟩
theorem ok_law {Tb : List (Addr × Str)} {c P f fC fD fN fB fW g : Addr} {fdC fdD fdN fdB fdW : FuncData} {oc kV doc pm ct oc2 kV2 doc2 pm2 ct2 cdv2 : Value} {an od an2 od2 : Option Addr} {osl osl2 : Array (Option Value)} (B : Blt mg) (R : RowC K mg CR) (XE : Exs K mg CF C) (hso : mg "sorted" = none) (hns : PySem.W.subIn K (.ref (C .number)) (.type "StopIteration") = some false)
    (TB : LamX.TabB base mg c P) (hTb : (P, (("law" : Str) ++ ".<locals>.") ++ "<lambda>") ∈ Tb) (huT : ∀ p ∈ Tb, p.1 = P → p.2 = (("law" : Str) ++ ".<locals>.") ++ "<lambda>")
    (HD : DL K mg "_law_told" sTold g cdv2 ["call"] oc2 kV2 doc2 pm2 ct2 an2 od2 osl2) (cClass : Dn P' w K mg base 1 "_law_class" fC fdC ["error"] (spClass C)) (cBegun : Dn P' w K mg base 2 "_law_begun" fB fdB ["script"] (spBegun K)) (cDraw : Dn P' w K mg base 2 "_law_draw" fD fdD ["m", "limit"] spDraw)
    (cWk : Dn P' w K mg base 2 "_law_walked" fW fdW ["many"] (spWk w)) {fR : Addr} {fdR : FuncData} (GY : DnYn P' w K mg base 7 "rows_of" fR fdR ["many"] (spRowsY CR)) (GE : DnGn P' w K mg base 5 "rows_of" fR fdR ["many"] (spRowsE K C)) (FLen : FnOk P' w K mg base CX0 1 fN fdN ["self"] (spRLen CR)) (RL : OpM K CR "__len__" fN fdN ["self"])
    (D : DL K mg "law" sLaw f (.ref c) ["script"] oc kV doc pm ct an od osl) :
    FnG P' w K mg base CX0 32 f (PySem.W.fnOf "law" "law" (defArgs sLaw) (defBody sLaw) (defScope sLaw) .none kV doc pm an (.ref c) ct) ["script"] (spLaw K Tb) := by
  refine fnL D.lk D.cd scLaw (fun vs H Q E h => by
    obtain ⟨a, ns, rfl, _⟩ := h
    rfl) (fun A outer s H vs Q E hgd0 hr h => ?_)
  have hgd := (guards_deeper (A := A) (env := envOfC "law" (defScope sLaw) s.heap.objs.size f (.ref c))).trans hgd0
  have hun : (A.deeper (envOfC "law" (defScope sLaw) s.heap.objs.size f (.ref c))).units + 64 < cLine := by
    have := hr.un
    omega
  refine ⟨_, (pss_cons (ps_set (i := 1) scLaw.nd rfl (by first | exact Or.inl rfl | exact Or.inr rfl) (pe_call cBegun.ok (hr.mono (by decide)) rfl cBegun.mgf cBegun.kp cBegun.bi .nil pass0 (pa_cons (pv 0) pa_nil)))
      (pss_cons (ps_for (passes_of rfl) rfl (pi_range1 (by rfl) B.range (pa_cons (pe_op op_add pe_int (pe_callTy intB (by rfl) B.int (by decide +kernel) (pa_cons (pe_cmpR op_eq (pe_call cDraw.ok (hr.mono (by decide)) rfl cDraw.mgf cDraw.kp cDraw.bi .nil pass0 (pa_cons (pv 1) (pa_cons pe_int pa_nil))) pe_int (nomark _)) pa_nil))) pa_nil)) (pg_name (i := 2) scLaw.nd rfl (by first | exact Or.inl rfl | exact Or.inr rfl)) (pss_cons (ps_setLcG (k := 7) (i := 3) (own := [("row", 4)]) (tt := tYes) (te := tFldF K (tVar 4) "waggons") rfl scLaw.nd rfl rfl (sw_true rfl rfl rfl (by decide +kernel)) (pyg_call GY.ok (hr.mono (by decide)) (by rfl) GY.mgf GY.kp GY.bi .nil (pa_cons (pv 2) pa_nil)) (hr.mono (by decide)) (blkOk_by (own := [("row", 4)]) (N := ["script", "m", "many", "told", "row", "odd", "n"]) (sc := defScope sLaw) (by decide +kernel)) (fun _ _ => rfl) (fun _ _ _ _ _ => (pg_name (i := 4) scLaw.nd rfl (by first | exact Or.inl rfl | exact Or.inr rfl))) (fun _ _ _ _ _ => pts_nil) (fun _ _ _ _ _ => (pe_fldF (pv 4))))
      (pss_cons (ps_if (PW.pt (pw_or (pt_cmpR (op_neD hr.units) (pv 3) (pe_callB (cr_sortedD encI hun) (by rfl) hso (by decide +kernel) (pa_cons (pe_callTy (cr_listN rfl) (by rfl) B.list (by decide +kernel) (pa_cons (pe_call cWk.ok (hr.mono (by decide)) rfl cWk.mgf cWk.kp cWk.bi .nil pass0 (pa_cons (pv 2) pa_nil)) pa_nil)) pa_nil)) (nomark _)) (pw_or1 (pt_cmpR (op_neD hr.units) (pe_lcG (k := 7) (own := [("row", 4)]) (tt := tYes) (te := tFldF K (tVar 4) "waggons") rfl scLaw.nd (pyg_call GY.ok (hr.mono (by decide)) (by rfl) GY.mgf GY.kp GY.bi .nil (pa_cons (pv 2) pa_nil)) (hr.mono (by decide)) (blkOk_by (own := [("row", 4)]) (N := ["script", "m", "many", "told", "row", "odd", "n"]) (sc := defScope sLaw) (by decide +kernel)) (fun _ _ => rfl) (fun _ _ _ _ _ => (pg_name (i := 4) scLaw.nd rfl (by first | exact Or.inl rfl | exact Or.inr rfl))) (fun _ _ _ _ _ => pts_nil) (fun _ _ _ _ _ => (pe_fldF (pv 4)))) (pv 3) (nomark _))))) (pss_one (ps_ret pe_bl)) pss_nil)
      (pss_one (ps_if (PW.pt (pw_or (pt_cmpR op_ne (pe_callB lenF (by rfl) B.len (by decide +kernel) (pa_cons (pv 3) pa_nil)) (pe_ix ixF (pe_lstF (pa_cons pe_int (pa_cons pe_int (pa_cons pe_int (pa_cons pe_int (pa_cons pe_int (pa_cons pe_int pa_nil))))))) (pv 2) (fun _ _ => rfl)) (nomark _)) (pw_or1 (pt_cmpR (op_neD hr.units) (pe_lcG (k := 7) (own := [("row", 4)]) rfl scLaw.nd (pyg_call GY.ok (hr.mono (by decide)) (by rfl) GY.mgf GY.kp GY.bi .nil (pa_cons (pv 2) pa_nil)) (hr.mono (by decide)) (blkOk_by (own := [("row", 4)]) (N := ["script", "m", "many", "told", "row", "odd", "n"]) (sc := defScope sLaw) (by decide +kernel)) (fun _ _ => rfl) (fun _ _ _ _ _ => (pg_name (i := 4) scLaw.nd rfl (by first | exact Or.inl rfl | exact Or.inr rfl))) (fun _ _ _ _ _ => (pts_one (pt_cmpR op_ne (pe_callB (call_lenO FLen RL.at_ RL.fn (hr.mono (by decide)) RL.bi pass0) (by rfl) B.len (by decide +kernel) (pa_cons (pv 4) pa_nil)) (pv 2) (nomark _)))) (fun _ _ _ _ _ => (pv 4))) (pe_lstF pa_nil) (nomark _))))) (pss_one (ps_ret pe_bl)) pss_nil)))))
      (pss_cons (ps_set (i := 5) scLaw.nd rfl (by first | exact Or.inl rfl | exact Or.inr rfl) (pe_ix ixF (pe_lstF (pa_cons pe_non (pa_cons pe_bl (pa_cons pe_int (pa_cons (pe_op op_sub pe_int pe_int) (pa_cons pe_str (pa_cons (pe_tupF (pa_cons pe_int pa_nil)) (pa_cons (pe_op op_pow pe_int pe_int) (pa_cons pe_dnewK pa_nil))))))))) (pe_call cDraw.ok (hr.mono (by decide)) rfl cDraw.mgf cDraw.kp cDraw.bi .nil pass0 (pa_cons (pv 1) (pa_cons pe_int pa_nil))) (fun _ _ => rfl)))
      (pss_cons (ps_if (pt_cmpR op_ne (pe_callB (call_reprF hgd hun) (by rfl) B.repr (by decide +kernel) (pa_cons (LamX.pe_lamcall (k := 23) (T := Tb) (TT := TTt C) (t := fun E => tListG (tCallG (spRowsE K C) [] (fun cls d H => cls = .ref (C .number) ∧ E cls d H) (tCons (tVar 5) tNil))) (by rfl) HD.mgf HD.kp HD.lk HD.cd HD.bi scTold rfl (by first | exact .inl rfl | exact .inr rfl | rfl) (told_gives XE B cClass (hr.mono (by decide))) TB rfl hTb huT (hr.mono (by decide)) (LamX.lamS_by (sc := defScope sLaw) (by decide +kernel)) rfl (fun _ _ _ _ _ => rfl) (fun A' outer' s' H' E' f' c' hr' => (pe_listG (pgen_call GE.ok (hr'.mono (by decide)) (by rfl) GE.mgf GE.kp GE.bi .nil (pa_cons (pv 5) pa_nil)) (passes_call (takes_of rfl rfl rfl rfl) (fun _ _ _ _ h => h.2)) (nostop_num hns) (hr'.mono (by decide)) (by rfl) B.list (by decide +kernel)))) pa_nil)) (pe_callB (call_reprF hgd hun) (by rfl) B.repr (by decide +kernel) (pa_cons (pe_tupF (pa_cons pe_str (pa_cons (pv 5) pa_nil))) pa_nil)) (nomark _)) (pss_one (ps_ret pe_bl)) pss_nil)
      (pss_cons (ps_if (pt_cmpR (op_neD hr.units) (pe_lc (own := [("n", 6), ("row", 4)]) (tt := tYes) (g := gTup K 2 (gCons (gName 6) (gCons (gName 4) gNil))) rfl scLaw.nd (pi_zip0 (E := fun _ _ _ => True) (by rfl) B.zip (by rfl) B.range (pa_cons pe_int pa_nil) GE.ok (hr.mono (by decide)) (by rfl) GE.mgf GE.kp GE.bi .nil (pa_cons (pv 5) pa_nil)) (blkOk_by (own := [("n", 6), ("row", 4)]) (N := ["script", "m", "many", "told", "row", "odd", "n"]) (sc := defScope sLaw) (by decide +kernel)) (fun _ _ _ _ _ => (pg_tup (by rfl) (pgs_cons (pg_name (i := 6) scLaw.nd rfl (by first | exact Or.inl rfl | exact Or.inr rfl)) (pgs_cons (pg_name (i := 4) scLaw.nd rfl (by first | exact Or.inl rfl | exact Or.inr rfl)) pgs_nil)))) (fun _ _ _ _ _ => pts_nil) (fun _ _ _ _ _ => (pv 4))) (pe_lstF pa_nil) (nomark _)) (pss_one (ps_ret pe_bl)) pss_nil)
      (pss_one (ps_ret (pe_cmpR (op_eqD hr.units) (pe_lcG (k := 7) (own := [("row", 4)]) (tt := tYes) (te := tFldF K (tVar 4) "waggons") rfl scLaw.nd (pyg_call GY.ok (hr.mono (by decide)) (by rfl) GY.mgf GY.kp GY.bi .nil (pa_cons pe_int pa_nil)) (hr.mono (by decide)) (blkOk_by (own := [("row", 4)]) (N := ["script", "m", "many", "told", "row", "odd", "n"]) (sc := defScope sLaw) (by decide +kernel)) (fun _ _ => rfl) (fun _ _ _ _ _ => (pg_name (i := 4) scLaw.nd rfl (by first | exact Or.inl rfl | exact Or.inr rfl))) (fun _ _ _ _ _ => pts_nil) (fun _ _ _ _ _ => (pe_fldF (pv 4)))) (pe_lstF (pa_cons (pe_tupF (pa_cons (pe_op op_sub pe_int pe_int) pa_nil)) (pa_cons (pe_tupF (pa_cons pe_int pa_nil)) pa_nil))) (nomark _))))))))), ?_⟩
  obtain ⟨a, ns, rfl, hS, hlen, hT, k⟩ := h
  refine seq_nx (fun σ' H' => ∃ (m c' g' : Addr) (cs : List Int), σ' = [some (.ref a), some (.ref m), none, none, none, none, none] ∧ DS m c' g' cs Tb 0 H') (fun Z hZ => ?_) ?_
  · walk_at "s"
    refine ⟨a, ns, rfl, hS, hlen, fun m c' g' cs gs H1 v1 hcs => ?_⟩
    have nd1 := v1.nd
    simp only [drs, List.map_cons, List.map_nil, List.nodup_cons, List.mem_cons, not_or] at nd1
    exact hZ _ _ ⟨m, c', g', cs, rfl, 0, gs, Nat.le_refl _, v1.at_ (m, dm c' g' 0) (by simp [drs]), v1.at_ (g', .lst (gs.map V.int)) (by simp [drs]), v1.at_ (c', .lst (cs.map V.int)) (by simp [drs]), hT.ext v1.fr, fun z => nd1.1.1 z.symm, nd1.2.1.1, hcs⟩
  rintro σ1 H1 ⟨m, c', g', cs, rfl, hD1⟩
  refine seq_q (fun σ' H' => ∃ (u2 u3 u4 : Option V), σ' = [some (.ref a), some (.ref m), u2, u3, u4, none, none] ∧ DS m c' g' cs Tb 1 H') (fun D2 eD2 hZ2 => ?_) ?_
  · unfold tFor iRng1
    simp only [tCall, tVar, tC, tCons, tNil, tOp, tCB, rI0, List.append_nil]
    refine ⟨_, rfl, ?_⟩
    refine draw_ds (lim := 6) hD1 (by decide) (by decide) (by omega) fun r A1 r0 r1 d1 k1 => ?_
    refine ⟨rfl, _, rfl, ?_⟩
    obtain ⟨T, eT, hT6⟩ : ∃ T : Nat, (5 : Int) + (if decide (V.int r = V.int 0) = true then 1 else 0) = (T : Nat) ∧ T ≤ 6 := by
      by_cases z : decide (V.int r = V.int 0) = true
      · exact ⟨6, by rw [if_pos z]; rfl, by omega⟩
      · exact ⟨5, by rw [if_neg z]; rfl, by omega⟩
    refine ⟨_, _, rfl, rfl, (T : Int), by rw [eT], by omega, by omega, ?_⟩
    rw [Int.toNat_natCast]
    refine for_it (walk_range (lo := 0) (n := T)) (fun i σ B => ∃ (u2 u3 u4 : Option V), σ = [some (.ref a), some (.ref m), u2, u3, u4, none, none] ∧ DS m c' g' cs Tb 1 B) ⟨none, none, none, rfl, d1⟩ (fun _ _ _ _ _ => True.intro) ?_ ?_
    rotate_left
    · rintro σ B ⟨u2, u3, u4, rfl, dB⟩
      exact hZ2 _ _ ⟨u2, u3, u4, rfl, dB⟩
    rintro n x σ B1 B2 hn ⟨u2, u3, u4, rfl, dB⟩ ⟨rfl, rfl⟩
    dsimp only
    rw [Int.zero_add]
    have n5 : n ≤ 5 := by omega
    obtain ⟨_, hrowR, lenR, ndR, alR⟩ := rows_facts n5
    refine seq_q (fun σ' H' => ∃ (l : Addr) (zs : List V), σ' = [some (.ref a), some (.ref m), some (.int (n : Nat)), some (.ref l), u4, none, none] ∧ Same B2 H' ∧ H' l = some (.lst zs) ∧ WtL H' zs (rowsL n)) (fun D3 eD3 hZ3 => ?_) ?_
    · refine lcg_rows R n5 (fun k hk => ⟨_, rfl, hk⟩) fun D zs A sA nD hD hW => hZ3 _ _ ⟨D, zs, rfl, sA, hD, hW⟩
    rintro σ3 B3 ⟨l, zs, rfl, s3, hl, hW⟩
    refine seq_q (fun σ' H' => σ' = [some (.ref a), some (.ref m), some (.int (n : Nat)), some (.ref l), u4, none, none] ∧ Same B3 H') (fun D3 eD3 hZ3 => ?_) ?_
    · walk_at "s"
      refine ⟨n, 12, dL n, rfl, by omega, lay_rows n5, fun d xs A1 sA hd hk hget hrow hnd => ⟨d, xs, rfl, hd, fun p hp => ?_⟩⟩
      have sP : Same A1 (upd A1 p (.lst (xs.map fun e => V.ref e.2.1))) := Same.new hp
      obtain ⟨R', eR, hR'⟩ := keys_rows hrow
      have ndR' : R'.Nodup := by
        rw [eR] at hnd
        exact nodup_map hnd
      have alR' : ∀ v, IsRow v n → v ∈ R' := fun v hv => by
        have h1 := hget v hv
        have h2 : keyR v ∈ xs.map (·.1) := Classical.byContradiction fun c => by rw [getN_none.mpr c] at h1; cases h1
        rw [eR] at h2
        obtain ⟨u, hu, e⟩ := List.mem_map.mp h2
        exact keyR_inj e ▸ hu
      refine ⟨p, xs.map (fun e => e.2.1), R', rfl, SqL.of (by rw [List.map_map]; exact upd_same), (each_keys hk eR).mono fun t b h => dp_mono sP h, all_alikeI _, sortI ndR' hR', fun b _ => depI b, fun p3 us3 hp3 hus => ?_⟩
      rw [sort_rows n5 ndR' hR' alR'] at hus
      have sP3 : Same (upd A1 p (.lst (xs.map fun e => V.ref e.2.1))) (upd (upd A1 p (.lst (xs.map fun e => V.ref e.2.1))) p3 (.lst (us3.map V.ref))) := Same.new hp3
      have s13 := Same.tr2 sA (Same.tr2 sP sP3)
      refine ⟨.list ((rowsL n).map encI), .list ((rowsL n).map encI), .lst (SqL.of (s13 _ _ hl)) (hW.same s13).dp, .lst (SqL.of upd_same) (dpa_mono sP3 (each_dp hus)), shII _, shII _, .inl ⟨by rw [eqII]; rfl, ?_⟩⟩
      refine lcg_rows R n5 (fun k hk => ⟨_, rfl, hk⟩) fun D zs2 A2 sA2 nD hD2' hW2 => ?_
      have s14 := Same.tr2 s13 sA2
      exact ⟨.list ((rowsL n).map encI), .list ((rowsL n).map encI), .lst (SqL.of hD2') hW2.dp, .lst (SqL.of (s14 _ _ hl)) (hW.same s14).dp, shII _, shII _, .inl ⟨by rw [eqII]; rfl, hZ3 _ _ ⟨rfl, s14⟩⟩⟩
    rintro σ4 B4 ⟨rfl, s4⟩
    have hl4 := s4 _ _ hl
    walk_at "s"
    refine ⟨_, hl4, _, rfl, sz_le (by decide), view_new (VW.start (H := B4)) fun l6 A1 v1 => ⟨_, v1.at_ (l6, _) (.head _), _, rfl, .int (manyR n : Nat), ?_, rfl, .inl ⟨by rw [hW.len, lenR], ?_⟩⟩⟩
    · have : n = 0 ∨ n = 1 ∨ n = 2 ∨ n = 3 ∨ n = 4 ∨ n = 5 := by omega
      rcases this with rfl | rfl | rfl | rfl | rfl | rfl <;> rfl
    · refine lcg_none n5 fun D A2 sA2 nD hD2' => view_new (VW.start (H := A2)) fun l7 A3 v3 => ⟨.list [], .list [], .lst (SqL.of (v3.fr _ _ hD2')) .nil, .lst (SqL.of (v3.at_ (l7, _) (.head _))) .nil, by decide, by decide, .inl ⟨rfl, ?_⟩⟩
      exact dB.same (Same.tr2 s3 (Same.tr2 s4 (Same.tr2 v1.fr (Same.tr2 sA2 v3.fr))))
  rintro σ2 H2 ⟨u2, u3, u4, rfl, hD2⟩
  refine seq_q (fun σ' H' => ∃ (x : V), σ' = [some (.ref a), some (.ref m), u2, u3, u4, some x, none] ∧ OddC H' x ∧ DS m c' g' cs Tb 2 H') (fun D2 eD2 hZ2 => ?_) ?_
  · walk_at "s"
    refine ⟨sz_le (by decide), view_tup (VW.start (H := H2)) fun t1 A1 v1 => ?_⟩
    refine ⟨by unfold CPow; decide, ?_⟩
    intro d0 hd0
    have w3 := v1.push (o := .dK []) hd0
    revert w3
    generalize upd A1 d0 (.dK []) = A3
    intro w3
    refine ⟨sz_le (by decide), view_new w3 fun l A4 v4 => ?_⟩
    have d4 := hD2.same v4.fr
    obtain ⟨n0, gs0, _, hm0, hg0, hc0, _⟩ := id hD2
    have ow : ∀ b o, (b, o) ∈ [(l, HO.lst [V.non, V.bl true, V.int 6, V.int (-1), V.str (Str.ofString "3"), V.ref t1, V.int 1000000000000000000000000000000, V.ref d0]), (d0, HO.dK [])] → H2 b = none := fun b o h => v4.own (b, o) h
    have nm : ∀ {b : Addr}, H2 b = none → b ≠ m := fun h z => by rw [z, hm0] at h; cases h
    have ng : ∀ {b : Addr}, H2 b = none → b ≠ g' := fun h z => by rw [z, hg0] at h; cases h
    have o1 := ow l _ (.head _)
    have o2 := ow d0 _ (.tail _ (.head _))
    have ht1 : A4 t1 = some (.tup [V.int 3]) := v4.tu _ List.mem_cons_self
    have tm : t1 ≠ m := fun z => by rw [z, v4.fr _ _ hm0] at ht1; cases ht1
    have tg : t1 ≠ g' := fun z => by rw [z, v4.fr _ _ hg0] at ht1; cases ht1
    refine draw_ds d4 (by decide) (by decide) (by omega) fun x A5 x0 x1 d5 k5 => ?_
    have gl := k5 _ _ v4.facts.1 (nm o1) (ng o1) rfl
    have gd := k5 _ _ (v4.at_ (d0, .dK []) (by simp)) (nm o2) (ng o2) rfl
    have gt := k5 _ _ ht1 tm tg rfl
    obtain ⟨v, hv, hov⟩ : ∃ v, atI [V.non, V.bl true, V.int 6, V.int (-1), V.str (Str.ofString "3"), V.ref t1, V.int 1000000000000000000000000000000, V.ref d0] x = some v ∧ OddC A5 v := by
      have : x = 0 ∨ x = 1 ∨ x = 2 ∨ x = 3 ∨ x = 4 ∨ x = 5 ∨ x = 6 ∨ x = 7 := by omega
      rcases this with rfl | rfl | rfl | rfl | rfl | rfl | rfl | rfl
      · exact ⟨_, rfl, .non⟩
      · exact ⟨_, rfl, .bl⟩
      · exact ⟨_, rfl, .six⟩
      · exact ⟨_, rfl, .neg⟩
      · exact ⟨_, rfl, .str⟩
      · exact ⟨_, rfl, .tup gt⟩
      · exact ⟨_, rfl, .big⟩
      · exact ⟨_, rfl, .dct gd⟩
    exact ⟨x, rfl, _, gl, _, rfl, v, hv, hZ2 _ _ ⟨v, rfl, hov, d5⟩⟩
  rintro σ3 H3 ⟨x, rfl, hx, hD3⟩
  refine seq_q (fun σ' H' => σ' = [some (.ref a), some (.ref m), u2, u3, u4, some x, none] ∧ OddC H' x ∧ DS m c' g' cs Tb 2 H') (fun D2 eD2 hZ2 => ?_) ?_
  · walk_at "s"
    refine told_any hD3.tabs fun A2 Qx e2 T2 hx2 => ?_
    have ho := (hx.odd (K := K))
    obtain ⟨d, hd⟩ := ho.rp
    refine ⟨_, rfl, x, rfl, ho.ask A2 e2, ho.no, fun d1 A3 s3 hd1 => ⟨rfl, .number, rfl, .inl ⟨rfl, d1, _, rfl, hd1, fun t1 A4 s4 ht1 => ?_⟩⟩⟩
    have e4 := e2.trans (LamX.ExtN.of (Same.tr2 s3 s4))
    have T4 := T2.ext (Same.tr2 s3 s4)
    refine ⟨_, d, rfl, hd A4 t1 e4 ht1, sz_le (by decide), view_tup (VW.start (H := A4)) fun g1 A5 v5 => ?_⟩
    have e5 := e4.trans (LamX.ExtN.of v5.fr)
    exact ⟨_, d, rfl, hd A5 g1 e5 (v5.tu (g1, _) (.head _)), rfl, .inl ⟨rfl, hZ2 _ _ ⟨rfl, hx.ext e5, hD3.extN e5 (T4.ext v5.fr)⟩⟩⟩
  rintro σ4 H4 ⟨rfl, hx, hD4⟩
  refine seq_q (fun σ' H' => ∃ u4 u6 : Option V, σ' = [some (.ref a), some (.ref m), u2, u3, u4, some x, u6]) (fun D2 eD2 hZ2 => ?_) ?_
  · have ho := (hx.odd (K := K))
    refine ⟨rfl, _, rfl, ⟨x, rfl, ho.ask H4 (LamX.ExtN.refl _), ho.no, fun _ _ _ _ => True.intro⟩, fun D hD => ?_⟩
    refine ⟨fun _ _ H' => H' = upd H4 D (.lst []), ⟨0, rfl⟩, fun i m1 H' e => .inl ⟨True.intro, ?_⟩⟩
    subst e
    refine ⟨sz_le (by decide), view_new (VW.start (H := upd H4 D (.lst []))) fun l1 A3 v3 => ?_⟩
    exact ⟨.list [], .list [], .lst (SqL.of (v3.fr _ _ upd_same)) .nil, .lst (SqL.of (v3.at_ (l1, _) (.head _))) .nil, by decide, by decide, false, rfl, hZ2 _ _ ⟨_, _, rfl⟩⟩
  rintro σ5 H5 ⟨u4, u6, rfl⟩
  walk_at "s"
  refine lcg_rows R (n := 1) (by omega) (fun k hk => hk) fun D zs A1 sA nD hD hW => ⟨sz_le (by decide), view_tup (VW.start (H := A1)) fun t1 A2 v2 => ⟨sz_le (by decide), view_tup v2 fun t2 A3 v3 => ⟨sz_le (by decide), view_new v3 fun l A4 v4 => ?_⟩⟩⟩
  have e0 : rowsL 1 = [[-1], [1]] := by decide +kernel
  have e1 : (rowsL 1).map encI = [.tuple [.int (-1)], .tuple [.int 1]] := by rw [e0]; rfl
  have dd := (hW.same v4.fr).dp (K := K)
  rw [e1] at dd
  refine ⟨_, .list [.tuple [.int (-1)], .tuple [.int 1]], .lst (SqL.of (v4.fr _ _ hD)) dd, .lst (SqL.of (v4.at_ (l, _) (.head _))) (.cons (.tup (SqT.of (v4.tu (t1, _) (by simp))) (.cons (.int _) .nil)) (.cons (.tup (SqT.of (v4.tu (t2, _) (by simp))) (.cons (.int _) .nil)) .nil)), by decide +kernel, by decide +kernel, ?_⟩
  rw [show PyData.eqv (.list [.tuple [.int (-1)], .tuple [.int 1]]) (.list [.tuple [.int (-1)], .tuple [.int 1]]) = true by decide +kernel]
  exact k _
end
end Fab
set_option maxHeartbeats 2000000
namespace Fab
open PySem L2 PySem.FabX
def kdC (c1 c2 c3 c4 c5 c6 c7 c8 c9 : Addr) : Kd → Addr
  | .row => c1 | .turn => c2 | .place => c3 | .number => c4 | .other => c5 | .great => c6 | .text => c7 | .way => c8 | .nothing => c9
theorem all_mk {l : PySem.W.OpenLaw} {w : World} {K : PySem.W.Frag} {h : Heap} {mg : Str → Option Value} {fa : Addr} (X : K.In h) (G : h.Ns mainGlobals mg) (hfa : mg "law" = some (.ref fa))
    {CR : Addr} {tM : Tok} {CF c1 c2 c3 c4 c5 c6 c7 c8 c9 : Addr} {nmX1I qX1I : Str} {NX1I : Addr} {bsX1I bmX1I subX1I : List Value} {snX1I : List Str} {abX1I : Bool} {colX1I : Option Bool} {ddX1I : Option Addr} {m0X1I m1X1I m2X1I m3X1I m5X1I : Option Value} {fX1I : Addr} {odX1I anX1I : Option Addr} {slX1I : Array (Option Value)} {ocX1I kVX1I dcX1I pmX1I cdX1I ctX1I : Value} {nmX2I qX2I : Str} {NX2I : Addr} {bsX2I bmX2I subX2I : List Value} {snX2I : List Str} {abX2I : Bool} {colX2I : Option Bool} {ddX2I : Option Addr} {m0X2I m1X2I m2X2I m3X2I m5X2I : Option Value} {fX2I : Addr} {odX2I anX2I : Option Addr} {slX2I : Array (Option Value)} {ocX2I kVX2I dcX2I pmX2I cdX2I ctX2I : Value} {nmX3I qX3I : Str} {NX3I : Addr} {bsX3I bmX3I subX3I : List Value} {snX3I : List Str} {abX3I : Bool} {colX3I : Option Bool} {ddX3I : Option Addr} {m0X3I m1X3I m2X3I m3X3I m5X3I : Option Value} {fX3I : Addr} {odX3I anX3I : Option Addr} {slX3I : Array (Option Value)} {ocX3I kVX3I dcX3I pmX3I cdX3I ctX3I : Value} {nmX4I qX4I : Str} {NX4I : Addr} {bsX4I bmX4I subX4I : List Value} {snX4I : List Str} {abX4I : Bool} {colX4I : Option Bool} {ddX4I : Option Addr} {m0X4I m1X4I m2X4I m3X4I m5X4I : Option Value} {fX4I : Addr} {odX4I anX4I : Option Addr} {slX4I : Array (Option Value)} {ocX4I kVX4I dcX4I pmX4I cdX4I ctX4I : Value} {nmX6I qX6I : Str} {NX6I : Addr} {bsX6I bmX6I subX6I : List Value} {snX6I : List Str} {abX6I : Bool} {colX6I : Option Bool} {ddX6I : Option Addr} {m0X6I m1X6I m2X6I m3X6I m5X6I : Option Value} {fX6I : Addr} {odX6I anX6I : Option Addr} {slX6I : Array (Option Value)} {ocX6I kVX6I dcX6I pmX6I cdX6I ctX6I : Value} {nmX7I qX7I : Str} {NX7I : Addr} {bsX7I bmX7I subX7I : List Value} {snX7I : List Str} {abX7I : Bool} {colX7I : Option Bool} {ddX7I : Option Addr} {m0X7I m1X7I m2X7I m3X7I m5X7I : Option Value} {fX7I : Addr} {odX7I anX7I : Option Addr} {slX7I : Array (Option Value)} {ocX7I kVX7I dcX7I pmX7I cdX7I ctX7I : Value} {nmX8I qX8I : Str} {NX8I : Addr} {bsX8I bmX8I subX8I : List Value} {snX8I : List Str} {abX8I : Bool} {colX8I : Option Bool} {ddX8I : Option Addr} {m0X8I m1X8I m2X8I m3X8I m5X8I : Option Value} {fX8I : Addr} {odX8I anX8I : Option Addr} {slX8I : Array (Option Value)} {ocX8I kVX8I dcX8I pmX8I cdX8I ctX8I : Value} {fMixed : Addr} {odMixed anMixed : Option Addr} {slMixed : Array (Option Value)} {ocMixed kVMixed dcMixed pmMixed ctMixed cdMixed : Value} {fDraw : Addr} {odDraw anDraw : Option Addr} {slDraw : Array (Option Value)} {ocDraw kVDraw dcDraw pmDraw ctDraw cdDraw : Value} {fFolded : Addr} {odFolded anFolded : Option Addr} {slFolded : Array (Option Value)} {ocFolded kVFolded dcFolded pmFolded ctFolded cdFolded : Value} {fBegun : Addr} {odBegun anBegun : Option Addr} {slBegun : Array (Option Value)} {ocBegun kVBegun dcBegun pmBegun ctBegun cdBegun : Value} {fWhole : Addr} {odWhole anWhole : Option Addr} {slWhole : Array (Option Value)} {ocWhole kVWhole dcWhole pmWhole ctWhole cdWhole : Value} {fFault : Addr} {odFault anFault : Option Addr} {slFault : Array (Option Value)} {ocFault kVFault dcFault pmFault ctFault cdFault : Value} {fRI : Addr} {odRI anRI : Option Addr} {slRI : Array (Option Value)} {ocRI kVRI dcRI pmRI cdRI ctRI : Value} {fRLen : Addr} {odRLen anRLen : Option Addr} {slRLen : Array (Option Value)} {ocRLen kVRLen dcRLen pmRLen cdRLen ctRLen : Value} {fLTurn : Addr} {odLTurn anLTurn : Option Addr} {slLTurn : Array (Option Value)} {ocLTurn kVLTurn dcLTurn pmLTurn ctLTurn cdLTurn : Value} {fWk : Addr} {odWk anWk : Option Addr} {slWk : Array (Option Value)} {ocWk kVWk dcWk pmWk ctWk cdWk : Value} {fClass : Addr} {odClass anClass : Option Addr} {slClass : Array (Option Value)} {ocClass kVClass dcClass pmClass ctClass cdClass : Value} {fLeft : Addr} {odLeft anLeft : Option Addr} {slLeft : Array (Option Value)} {ocLeft kVLeft dcLeft pmLeft ctLeft cdLeft : Value} {fAllW : Addr} {odAllW anAllW : Option Addr} {slAllW : Array (Option Value)} {ocAllW kVAllW dcAllW pmAllW ctAllW cdAllW : Value} {tMc : Tok} {fRo : Addr} {odRo anRo : Option Addr} {slRo : Array (Option Value)} {ocRo kVRo dcRo pmRo ctRo cdRo : Value} {fLaw cLaw : Addr} {odLaw anLaw : Option Addr} {slLaw : Array (Option Value)} {ocLaw kVLaw dcLaw pmLaw ctLaw : Value} {fTold : Addr} {odTold anTold : Option Addr} {slTold : Array (Option Value)} {ocTold kVTold dcTold pmTold ctTold cdTold : Value} {pLaw : Addr}
    (aCR : PySem.W.nsIn K mainGlobals "Row" = some (some (.ref CR)))
    (rpg : PySem.W.plainGet K CR Str.empty = true)
    (rhd : PySem.W.hasDictIn K CR = true)
    (rpo : PySem.W.plainOver K CR = true)
    (rsa : PySem.W.findIn K (.ref CR) "__setattr__" = some (some (.builtin "object.__setattr__")))
    (rmk : PySem.W.makesIn K CR = true)
    (rkc : PySem.W.keepIn K (.ref CR) = true)
    (rnw : PySem.W.findIn K (.ref CR) "waggons" = some none)
    (rhc : PySem.W.findIn K (.ref CR) "__class__" = some (some (.builtin "object.__class__")))
    (rhm : PySem.W.mroIn K CR (.type "object") = some true)
    (rks : PySem.W.kitOne K (.ref CR) (.ref CR) = some true)
    (ohn : PySem.W.specialIn K (.builtin "object.__class__") "__get__" = some (some (.builtin "getset_descriptor.__get__")))
    (oht : PySem.W.takesIn K (.builtin "object.__class__") = some true)
    (aMost : PySem.W.nsIn K mainGlobals "MOST_WAGGONS" = some (some (.int 24 tM)))
    (aCF : PySem.W.nsIn K mainGlobals "FaceError" = some (some (.ref CF)))
    (aX1 : PySem.W.nsIn K mainGlobals "BadRow" = some (some (.ref c1)))
    (aX2 : PySem.W.nsIn K mainGlobals "BadTurn" = some (some (.ref c2)))
    (aX3 : PySem.W.nsIn K mainGlobals "BadPlace" = some (some (.ref c3)))
    (aX4 : PySem.W.nsIn K mainGlobals "BadNumber" = some (some (.ref c4)))
    (aX5 : PySem.W.nsIn K mainGlobals "OtherLength" = some (some (.ref c5)))
    (aX6 : PySem.W.nsIn K mainGlobals "TooGreat" = some (some (.ref c6)))
    (aX7 : PySem.W.nsIn K mainGlobals "BadText" = some (some (.ref c7)))
    (aX8 : PySem.W.nsIn K mainGlobals "BadWay" = some (some (.ref c8)))
    (aX9 : PySem.W.nsIn K mainGlobals "NothingLeft" = some (some (.ref c9)))
    (fgi : PySem.W.specialIn K (.ref CF) "__getattribute__" = some (some (.builtin "type.__getattribute__")))
    (frd : PySem.W.readsIn K CF (.type "type") = true)
    (ffi : PySem.W.findCls K (.ref CF) (.type "type") "__init__" = some (.val (.builtin "ValueError.__init__")))
    (ofi : PySem.W.findCls K (.type "OverflowError") (.type "type") "__init__" = some (.val (.builtin "OverflowError.__init__")))
    (xno : ∀ k : Kd, PySem.W.findIn K (.ref (kdC c1 c2 c3 c4 c5 c6 c7 c8 c9 k)) k.fld = some none)
    (xexc : ∀ k, ExcC K (kdC c1 c2 c3 c4 c5 c6 c7 c8 c9 k))
    (xkit : ∀ k j, PySem.W.kitOne K (.ref (kdC c1 c2 c3 c4 c5 c6 c7 c8 c9 k)) (.ref (kdC c1 c2 c3 c4 c5 c6 c7 c8 c9 j)) = some (decide (k = j)))
    (xkve : ∀ k, PySem.W.kitOne K (.ref (kdC c1 c2 c3 c4 c5 c6 c7 c8 c9 k)) (.type "ValueError") = some (!decide (k = .great)))
    (xxf : ∀ k, XfC K (kdC c1 c2 c3 c4 c5 c6 c7 c8 c9 k))
    (xany : ∀ k, PySem.W.exmAny K (.ref (kdC c1 c2 c3 c4 c5 c6 c7 c8 c9 k)) [.ref CF, .ref c6] = some true)
    (xlX1I : K.lookup c1 = some (excClassObj nmX1I qX1I c1 NX1I bsX1I bmX1I true snX1I subX1I abX1I colX1I ddX1I m0X1I m1X1I m2X1I m3X1I m5X1I "ValueError.__new__"))
    (xtX1I : PySem.W.excTail bmV bmX1I = true)
    (xsX1I : PySem.W.findIn K (.ref c1) "__setattr__" = some (some (.builtin "object.__setattr__")))
    (xbX1I : PySem.W.subIn K (.ref c1) (.type "BaseException") = some true)
    (xyX1I : PySem.W.typeIn K (.ref c1) = some (.type "type"))
    (xkX1I : PySem.W.keepIn K (.ref c1) = true)
    (aX1I : PySem.W.findIn K (.ref c1) "__init__" = some (some (.ref fX1I)))
    (iX1I : PySem.W.isFn K (.ref fX1I) = true)
    (lX1I : K.lookup fX1I = some ⟨ocX1I, odX1I, .func (PySem.W.fnOf "__init__" "BadRow.__init__" (defArgs sXRow) (defBody sXRow) (defScope sXRow) .none kVX1I dcX1I pmX1I anX1I cdX1I ctX1I), slX1I⟩)
    (cX1I : PySem.W.codeIn K cdX1I "BadRow.__init__" = true)
    (kX1I : PySem.W.keepIn K (.ref fX1I) = true)
    (xfX1I : PySem.W.typeIn K (.ref fX1I) = some (.type "function"))
    (xlX2I : K.lookup c2 = some (excClassObj nmX2I qX2I c2 NX2I bsX2I bmX2I true snX2I subX2I abX2I colX2I ddX2I m0X2I m1X2I m2X2I m3X2I m5X2I "ValueError.__new__"))
    (xtX2I : PySem.W.excTail bmV bmX2I = true)
    (xsX2I : PySem.W.findIn K (.ref c2) "__setattr__" = some (some (.builtin "object.__setattr__")))
    (xbX2I : PySem.W.subIn K (.ref c2) (.type "BaseException") = some true)
    (xyX2I : PySem.W.typeIn K (.ref c2) = some (.type "type"))
    (xkX2I : PySem.W.keepIn K (.ref c2) = true)
    (aX2I : PySem.W.findIn K (.ref c2) "__init__" = some (some (.ref fX2I)))
    (iX2I : PySem.W.isFn K (.ref fX2I) = true)
    (lX2I : K.lookup fX2I = some ⟨ocX2I, odX2I, .func (PySem.W.fnOf "__init__" "BadTurn.__init__" (defArgs sXTurn) (defBody sXTurn) (defScope sXTurn) .none kVX2I dcX2I pmX2I anX2I cdX2I ctX2I), slX2I⟩)
    (cX2I : PySem.W.codeIn K cdX2I "BadTurn.__init__" = true)
    (kX2I : PySem.W.keepIn K (.ref fX2I) = true)
    (xfX2I : PySem.W.typeIn K (.ref fX2I) = some (.type "function"))
    (xlX3I : K.lookup c3 = some (excClassObj nmX3I qX3I c3 NX3I bsX3I bmX3I true snX3I subX3I abX3I colX3I ddX3I m0X3I m1X3I m2X3I m3X3I m5X3I "ValueError.__new__"))
    (xtX3I : PySem.W.excTail bmV bmX3I = true)
    (xsX3I : PySem.W.findIn K (.ref c3) "__setattr__" = some (some (.builtin "object.__setattr__")))
    (xbX3I : PySem.W.subIn K (.ref c3) (.type "BaseException") = some true)
    (xyX3I : PySem.W.typeIn K (.ref c3) = some (.type "type"))
    (xkX3I : PySem.W.keepIn K (.ref c3) = true)
    (aX3I : PySem.W.findIn K (.ref c3) "__init__" = some (some (.ref fX3I)))
    (iX3I : PySem.W.isFn K (.ref fX3I) = true)
    (lX3I : K.lookup fX3I = some ⟨ocX3I, odX3I, .func (PySem.W.fnOf "__init__" "BadPlace.__init__" (defArgs sXPlace) (defBody sXPlace) (defScope sXPlace) .none kVX3I dcX3I pmX3I anX3I cdX3I ctX3I), slX3I⟩)
    (cX3I : PySem.W.codeIn K cdX3I "BadPlace.__init__" = true)
    (kX3I : PySem.W.keepIn K (.ref fX3I) = true)
    (xfX3I : PySem.W.typeIn K (.ref fX3I) = some (.type "function"))
    (xlX4I : K.lookup c4 = some (excClassObj nmX4I qX4I c4 NX4I bsX4I bmX4I true snX4I subX4I abX4I colX4I ddX4I m0X4I m1X4I m2X4I m3X4I m5X4I "ValueError.__new__"))
    (xtX4I : PySem.W.excTail bmV bmX4I = true)
    (xsX4I : PySem.W.findIn K (.ref c4) "__setattr__" = some (some (.builtin "object.__setattr__")))
    (xbX4I : PySem.W.subIn K (.ref c4) (.type "BaseException") = some true)
    (xyX4I : PySem.W.typeIn K (.ref c4) = some (.type "type"))
    (xkX4I : PySem.W.keepIn K (.ref c4) = true)
    (aX4I : PySem.W.findIn K (.ref c4) "__init__" = some (some (.ref fX4I)))
    (iX4I : PySem.W.isFn K (.ref fX4I) = true)
    (lX4I : K.lookup fX4I = some ⟨ocX4I, odX4I, .func (PySem.W.fnOf "__init__" "BadNumber.__init__" (defArgs sXNumber) (defBody sXNumber) (defScope sXNumber) .none kVX4I dcX4I pmX4I anX4I cdX4I ctX4I), slX4I⟩)
    (cX4I : PySem.W.codeIn K cdX4I "BadNumber.__init__" = true)
    (kX4I : PySem.W.keepIn K (.ref fX4I) = true)
    (xfX4I : PySem.W.typeIn K (.ref fX4I) = some (.type "function"))
    (xlX6I : K.lookup c6 = some (excClassObj nmX6I qX6I c6 NX6I bsX6I bmX6I true snX6I subX6I abX6I colX6I ddX6I m0X6I m1X6I m2X6I m3X6I m5X6I "OverflowError.__new__"))
    (xtX6I : PySem.W.excTail bmO bmX6I = true)
    (xsX6I : PySem.W.findIn K (.ref c6) "__setattr__" = some (some (.builtin "object.__setattr__")))
    (xbX6I : PySem.W.subIn K (.ref c6) (.type "BaseException") = some true)
    (xyX6I : PySem.W.typeIn K (.ref c6) = some (.type "type"))
    (xkX6I : PySem.W.keepIn K (.ref c6) = true)
    (aX6I : PySem.W.findIn K (.ref c6) "__init__" = some (some (.ref fX6I)))
    (iX6I : PySem.W.isFn K (.ref fX6I) = true)
    (lX6I : K.lookup fX6I = some ⟨ocX6I, odX6I, .func (PySem.W.fnOf "__init__" "TooGreat.__init__" (defArgs sXGreat) (defBody sXGreat) (defScope sXGreat) .none kVX6I dcX6I pmX6I anX6I cdX6I ctX6I), slX6I⟩)
    (cX6I : PySem.W.codeIn K cdX6I "TooGreat.__init__" = true)
    (kX6I : PySem.W.keepIn K (.ref fX6I) = true)
    (xfX6I : PySem.W.typeIn K (.ref fX6I) = some (.type "function"))
    (xlX7I : K.lookup c7 = some (excClassObj nmX7I qX7I c7 NX7I bsX7I bmX7I true snX7I subX7I abX7I colX7I ddX7I m0X7I m1X7I m2X7I m3X7I m5X7I "ValueError.__new__"))
    (xtX7I : PySem.W.excTail bmV bmX7I = true)
    (xsX7I : PySem.W.findIn K (.ref c7) "__setattr__" = some (some (.builtin "object.__setattr__")))
    (xbX7I : PySem.W.subIn K (.ref c7) (.type "BaseException") = some true)
    (xyX7I : PySem.W.typeIn K (.ref c7) = some (.type "type"))
    (xkX7I : PySem.W.keepIn K (.ref c7) = true)
    (aX7I : PySem.W.findIn K (.ref c7) "__init__" = some (some (.ref fX7I)))
    (iX7I : PySem.W.isFn K (.ref fX7I) = true)
    (lX7I : K.lookup fX7I = some ⟨ocX7I, odX7I, .func (PySem.W.fnOf "__init__" "BadText.__init__" (defArgs sXText) (defBody sXText) (defScope sXText) .none kVX7I dcX7I pmX7I anX7I cdX7I ctX7I), slX7I⟩)
    (cX7I : PySem.W.codeIn K cdX7I "BadText.__init__" = true)
    (kX7I : PySem.W.keepIn K (.ref fX7I) = true)
    (xfX7I : PySem.W.typeIn K (.ref fX7I) = some (.type "function"))
    (xlX8I : K.lookup c8 = some (excClassObj nmX8I qX8I c8 NX8I bsX8I bmX8I true snX8I subX8I abX8I colX8I ddX8I m0X8I m1X8I m2X8I m3X8I m5X8I "ValueError.__new__"))
    (xtX8I : PySem.W.excTail bmV bmX8I = true)
    (xsX8I : PySem.W.findIn K (.ref c8) "__setattr__" = some (some (.builtin "object.__setattr__")))
    (xbX8I : PySem.W.subIn K (.ref c8) (.type "BaseException") = some true)
    (xyX8I : PySem.W.typeIn K (.ref c8) = some (.type "type"))
    (xkX8I : PySem.W.keepIn K (.ref c8) = true)
    (aX8I : PySem.W.findIn K (.ref c8) "__init__" = some (some (.ref fX8I)))
    (iX8I : PySem.W.isFn K (.ref fX8I) = true)
    (lX8I : K.lookup fX8I = some ⟨ocX8I, odX8I, .func (PySem.W.fnOf "__init__" "BadWay.__init__" (defArgs sXWay) (defBody sXWay) (defScope sXWay) .none kVX8I dcX8I pmX8I anX8I cdX8I ctX8I), slX8I⟩)
    (cX8I : PySem.W.codeIn K cdX8I "BadWay.__init__" = true)
    (kX8I : PySem.W.keepIn K (.ref fX8I) = true)
    (xfX8I : PySem.W.typeIn K (.ref fX8I) = some (.type "function"))
    (z_int : PySem.W.nsIn K mainGlobals "int" = some none)
    (z_len : PySem.W.nsIn K mainGlobals "len" = some none)
    (z_range : PySem.W.nsIn K mainGlobals "range" = some none)
    (z_enumerate : PySem.W.nsIn K mainGlobals "enumerate" = some none)
    (z_list : PySem.W.nsIn K mainGlobals "list" = some none)
    (z_tuple : PySem.W.nsIn K mainGlobals "tuple" = some none)
    (z_isinstance : PySem.W.nsIn K mainGlobals "isinstance" = some none)
    (z_ValueError : PySem.W.nsIn K mainGlobals "ValueError" = some none)
    (z_zip : PySem.W.nsIn K mainGlobals "zip" = some none)
    (z_abs : PySem.W.nsIn K mainGlobals "abs" = some none)
    (z_repr : PySem.W.nsIn K mainGlobals "repr" = some none)
    (z_set : PySem.W.nsIn K mainGlobals "set" = some none)
    (z_max : PySem.W.nsIn K mainGlobals "max" = some none)
    (z_bool : PySem.W.nsIn K mainGlobals "bool" = some none)
    (z_OverflowError : PySem.W.nsIn K mainGlobals "OverflowError" = some none)
    (z_all : PySem.W.nsIn K mainGlobals "all" = some none)
    (z_str : PySem.W.nsIn K mainGlobals "str" = some none)
    (z_sorted : PySem.W.nsIn K mainGlobals "sorted" = some none)
    (z_sum : PySem.W.nsIn K mainGlobals "sum" = some none)
    (z_min : PySem.W.nsIn K mainGlobals "min" = some none)
    (z_any : PySem.W.nsIn K mainGlobals "any" = some none)
    (aMixed : PySem.W.nsIn K mainGlobals "_law_mixed" = some (some (.ref fMixed)))
    (lMixed : K.lookup fMixed = some ⟨ocMixed, odMixed, .func (PySem.W.fnOf "_law_mixed" "_law_mixed" (defArgs sMixed) (defBody sMixed) (defScope sMixed) .none kVMixed dcMixed pmMixed anMixed cdMixed ctMixed), slMixed⟩)
    (cMixed : PySem.W.codeIn K cdMixed "_law_mixed" = true)
    (kMixed : PySem.W.keepIn K (.ref fMixed) = true)
    (aDraw : PySem.W.nsIn K mainGlobals "_law_draw" = some (some (.ref fDraw)))
    (lDraw : K.lookup fDraw = some ⟨ocDraw, odDraw, .func (PySem.W.fnOf "_law_draw" "_law_draw" (defArgs sDraw) (defBody sDraw) (defScope sDraw) .none kVDraw dcDraw pmDraw anDraw cdDraw ctDraw), slDraw⟩)
    (cDraw : PySem.W.codeIn K cdDraw "_law_draw" = true)
    (kDraw : PySem.W.keepIn K (.ref fDraw) = true)
    (aFolded : PySem.W.nsIn K mainGlobals "_law_folded" = some (some (.ref fFolded)))
    (lFolded : K.lookup fFolded = some ⟨ocFolded, odFolded, .func (PySem.W.fnOf "_law_folded" "_law_folded" (defArgs sFolded) (defBody sFolded) (defScope sFolded) .none kVFolded dcFolded pmFolded anFolded cdFolded ctFolded), slFolded⟩)
    (cFolded : PySem.W.codeIn K cdFolded "_law_folded" = true)
    (kFolded : PySem.W.keepIn K (.ref fFolded) = true)
    (aBegun : PySem.W.nsIn K mainGlobals "_law_begun" = some (some (.ref fBegun)))
    (lBegun : K.lookup fBegun = some ⟨ocBegun, odBegun, .func (PySem.W.fnOf "_law_begun" "_law_begun" (defArgs sBegun) (defBody sBegun) (defScope sBegun) .none kVBegun dcBegun pmBegun anBegun cdBegun ctBegun), slBegun⟩)
    (cBegun : PySem.W.codeIn K cdBegun "_law_begun" = true)
    (kBegun : PySem.W.keepIn K (.ref fBegun) = true)
    (aWhole : PySem.W.nsIn K mainGlobals "is_whole" = some (some (.ref fWhole)))
    (lWhole : K.lookup fWhole = some ⟨ocWhole, odWhole, .func (PySem.W.fnOf "is_whole" "is_whole" (defArgs sWhole) (defBody sWhole) (defScope sWhole) .none kVWhole dcWhole pmWhole anWhole cdWhole ctWhole), slWhole⟩)
    (cWhole : PySem.W.codeIn K cdWhole "is_whole" = true)
    (kWhole : PySem.W.keepIn K (.ref fWhole) = true)
    (aFault : PySem.W.nsIn K mainGlobals "first_fault" = some (some (.ref fFault)))
    (lFault : K.lookup fFault = some ⟨ocFault, odFault, .func (PySem.W.fnOf "first_fault" "first_fault" (defArgs sFault) (defBody sFault) (defScope sFault) .none kVFault dcFault pmFault anFault cdFault ctFault), slFault⟩)
    (cFault : PySem.W.codeIn K cdFault "first_fault" = true)
    (kFault : PySem.W.keepIn K (.ref fFault) = true)
    (aRI : PySem.W.findIn K (.ref CR) "__init__" = some (some (.ref fRI)))
    (iRI : PySem.W.isFn K (.ref fRI) = true)
    (lRI : K.lookup fRI = some ⟨ocRI, odRI, .func (PySem.W.fnOf "__init__" "Row.__init__" (defArgs sRI) (defBody sRI) (defScope sRI) .none kVRI dcRI pmRI anRI cdRI ctRI), slRI⟩)
    (cRI : PySem.W.codeIn K cdRI "Row.__init__" = true)
    (kRI : PySem.W.keepIn K (.ref fRI) = true)
    (aRLen : PySem.W.findIn K (.ref CR) "__len__" = some (some (.ref fRLen)))
    (iRLen : PySem.W.isFn K (.ref fRLen) = true)
    (lRLen : K.lookup fRLen = some ⟨ocRLen, odRLen, .func (PySem.W.fnOf "__len__" "Row.__len__" (defArgs sRLen) (defBody sRLen) (defScope sRLen) .none kVRLen dcRLen pmRLen anRLen cdRLen ctRLen), slRLen⟩)
    (cRLen : PySem.W.codeIn K cdRLen "Row.__len__" = true)
    (kRLen : PySem.W.keepIn K (.ref fRLen) = true)
    (aLTurn : PySem.W.nsIn K mainGlobals "_law_turn" = some (some (.ref fLTurn)))
    (lLTurn : K.lookup fLTurn = some ⟨ocLTurn, odLTurn, .func (PySem.W.fnOf "_law_turn" "_law_turn" (defArgs sLTurn) (defBody sLTurn) (defScope sLTurn) .none kVLTurn dcLTurn pmLTurn anLTurn cdLTurn ctLTurn), slLTurn⟩)
    (cLTurn : PySem.W.codeIn K cdLTurn "_law_turn" = true)
    (kLTurn : PySem.W.keepIn K (.ref fLTurn) = true)
    (aWk : PySem.W.nsIn K mainGlobals "_law_walked" = some (some (.ref fWk)))
    (lWk : K.lookup fWk = some ⟨ocWk, odWk, .func (PySem.W.fnOf "_law_walked" "_law_walked" (defArgs sWk) (defBody sWk) (defScope sWk) .none kVWk dcWk pmWk anWk cdWk ctWk), slWk⟩)
    (cWk : PySem.W.codeIn K cdWk "_law_walked" = true)
    (kWk : PySem.W.keepIn K (.ref fWk) = true)
    (aClass : PySem.W.nsIn K mainGlobals "_law_class" = some (some (.ref fClass)))
    (lClass : K.lookup fClass = some ⟨ocClass, odClass, .func (PySem.W.fnOf "_law_class" "_law_class" (defArgs sClass) (defBody sClass) (defScope sClass) .none kVClass dcClass pmClass anClass cdClass ctClass), slClass⟩)
    (cClass : PySem.W.codeIn K cdClass "_law_class" = true)
    (kClass : PySem.W.keepIn K (.ref fClass) = true)
    (aLeft : PySem.W.nsIn K mainGlobals "waggons_left" = some (some (.ref fLeft)))
    (lLeft : K.lookup fLeft = some ⟨ocLeft, odLeft, .func (PySem.W.fnOf "waggons_left" "waggons_left" (defArgs sLeft) (defBody sLeft) (defScope sLeft) .none kVLeft dcLeft pmLeft anLeft cdLeft ctLeft), slLeft⟩)
    (cLeft : PySem.W.codeIn K cdLeft "waggons_left" = true)
    (kLeft : PySem.W.keepIn K (.ref fLeft) = true)
    (aAllW : PySem.W.nsIn K mainGlobals "all_waggons" = some (some (.ref fAllW)))
    (lAllW : K.lookup fAllW = some ⟨ocAllW, odAllW, .func (PySem.W.fnOf "all_waggons" "all_waggons" (defArgs sAllW) (defBody sAllW) (defScope sAllW) .none kVAllW dcAllW pmAllW anAllW cdAllW ctAllW), slAllW⟩)
    (cAllW : PySem.W.codeIn K cdAllW "all_waggons" = true)
    (kAllW : PySem.W.keepIn K (.ref fAllW) = true)
    (aMostC : PySem.W.nsIn K mainGlobals "MOST_COUNTED" = some (some (.int 5 tMc)))
    (nsN : PySem.W.subIn K (.ref c4) (.type "StopIteration") = some false)
    (aRo : PySem.W.nsIn K mainGlobals "rows_of" = some (some (.ref fRo)))
    (lRo : K.lookup fRo = some ⟨ocRo, odRo, .func (PySem.W.fnOf "rows_of" "rows_of" (defArgs sRo) (defBody sRo) (defScope sRo) .none kVRo dcRo pmRo anRo cdRo ctRo), slRo⟩)
    (cRo : PySem.W.codeIn K cdRo "rows_of" = true)
    (kRo : PySem.W.keepIn K (.ref fRo) = true)
    (aLaw : PySem.W.nsIn K mainGlobals "law" = some (some (.ref fLaw)))
    (lLaw : K.lookup fLaw = some ⟨ocLaw, odLaw, .func (PySem.W.fnOf "law" "law" (defArgs sLaw) (defBody sLaw) (defScope sLaw) .none kVLaw dcLaw pmLaw anLaw (.ref cLaw) ctLaw), slLaw⟩)
    (cLaw_ : PySem.W.codeIn K (.ref cLaw) "law" = true)
    (kLaw : PySem.W.keepIn K (.ref fLaw) = true)
    (aTold : PySem.W.nsIn K mainGlobals "_law_told" = some (some (.ref fTold)))
    (lTold : K.lookup fTold = some ⟨ocTold, odTold, .func (PySem.W.fnOf "_law_told" "_law_told" (defArgs sTold) (defBody sTold) (defScope sTold) .none kVTold dcTold pmTold anTold cdTold ctTold), slTold⟩)
    (cTold : PySem.W.codeIn K cdTold "_law_told" = true)
    (kTold : PySem.W.keepIn K (.ref fTold) = true)
    (upLaw : PySem.W.tabIn K "law" = some (cLaw, pLaw))
    (npLaw : K.lookup pLaw = none)
    (tpLaw : PySem.W.CodeHd h cLaw pLaw ∧ h.get? pLaw = some oTab) :
    LawG l w K CX0 32 63 "script" mg fa h := by
  have e := hfa.symm.trans (PySem.W.mg_of X G aLaw)
  cases e
  have gCR := PySem.W.mg_of X G aCR
  have gMost := PySem.W.mg_of X G aMost
  have R : RowC K mg CR := ⟨⟨rpg, rhd, rpo, rsa⟩, rnw, gCR, ⟨_, gMost⟩, rhc, ohn, oht, rhm, rks⟩
  have gCF := PySem.W.mg_of X G aCF
  have gX1 := PySem.W.mg_of X G aX1
  have gX2 := PySem.W.mg_of X G aX2
  have gX3 := PySem.W.mg_of X G aX3
  have gX4 := PySem.W.mg_of X G aX4
  have gX5 := PySem.W.mg_of X G aX5
  have gX6 := PySem.W.mg_of X G aX6
  have gX7 := PySem.W.mg_of X G aX7
  have gX8 := PySem.W.mg_of X G aX8
  have gX9 := PySem.W.mg_of X G aX9
  have mgc : ∀ k : Kd, mg k.name = some (.ref (kdC c1 c2 c3 c4 c5 c6 c7 c8 c9 k)) := fun k => match k with | .row => gX1 | .turn => gX2 | .place => gX3 | .number => gX4 | .other => gX5 | .great => gX6 | .text => gX7 | .way => gX8 | .nothing => gX9
  have XE : Exs K mg CF (kdC c1 c2 c3 c4 c5 c6 c7 c8 c9) := ⟨gCF, mgc, xexc, xkit, xkve, xxf, xno, xany⟩
  have FC : FaceC K mg CF := ⟨gCF, fgi, frd, ffi⟩
  have FX1I := fun_mk (st := sXRow) lX1I cX1I kX1I
  have bX1I := FX1I.binds (ps := ["self", "place"]) fun _ _ _ _ _ _ us hl => match us, hl with | [_, _], _ => rfl
  have TX1I : XCls "ValueError.__new__" bmV K c1 := ⟨⟨_, _, _, _, _, _, _, _, _, _, _, _, _, _, _, xlX1I, xtX1I⟩, xsX1I, xbX1I, xyX1I, xkX1I⟩
  have FX2I := fun_mk (st := sXTurn) lX2I cX2I kX2I
  have bX2I := FX2I.binds (ps := ["self", "place"]) fun _ _ _ _ _ _ us hl => match us, hl with | [_, _], _ => rfl
  have TX2I : XCls "ValueError.__new__" bmV K c2 := ⟨⟨_, _, _, _, _, _, _, _, _, _, _, _, _, _, _, xlX2I, xtX2I⟩, xsX2I, xbX2I, xyX2I, xkX2I⟩
  have FX3I := fun_mk (st := sXPlace) lX3I cX3I kX3I
  have bX3I := FX3I.binds (ps := ["self", "value"]) fun _ _ _ _ _ _ us hl => match us, hl with | [_, _], _ => rfl
  have TX3I : XCls "ValueError.__new__" bmV K c3 := ⟨⟨_, _, _, _, _, _, _, _, _, _, _, _, _, _, _, xlX3I, xtX3I⟩, xsX3I, xbX3I, xyX3I, xkX3I⟩
  have FX4I := fun_mk (st := sXNumber) lX4I cX4I kX4I
  have bX4I := FX4I.binds (ps := ["self", "value"]) fun _ _ _ _ _ _ us hl => match us, hl with | [_, _], _ => rfl
  have TX4I : XCls "ValueError.__new__" bmV K c4 := ⟨⟨_, _, _, _, _, _, _, _, _, _, _, _, _, _, _, xlX4I, xtX4I⟩, xsX4I, xbX4I, xyX4I, xkX4I⟩
  have FX6I := fun_mk (st := sXGreat) lX6I cX6I kX6I
  have bX6I := FX6I.binds (ps := ["self", "most"]) fun _ _ _ _ _ _ us hl => match us, hl with | [_, _], _ => rfl
  have TX6I : XCls "OverflowError.__new__" bmO K c6 := ⟨⟨_, _, _, _, _, _, _, _, _, _, _, _, _, _, _, xlX6I, xtX6I⟩, xsX6I, xbX6I, xyX6I, xkX6I⟩
  have FX7I := fun_mk (st := sXText) lX7I cX7I kX7I
  have bX7I := FX7I.binds (ps := ["self", "place"]) fun _ _ _ _ _ _ us hl => match us, hl with | [_, _], _ => rfl
  have TX7I : XCls "ValueError.__new__" bmV K c7 := ⟨⟨_, _, _, _, _, _, _, _, _, _, _, _, _, _, _, xlX7I, xtX7I⟩, xsX7I, xbX7I, xyX7I, xkX7I⟩
  have FX8I := fun_mk (st := sXWay) lX8I cX8I kX8I
  have bX8I := FX8I.binds (ps := ["self", "value"]) fun _ _ _ _ _ _ us hl => match us, hl with | [_, _], _ => rfl
  have TX8I : XCls "ValueError.__new__" bmV K c8 := ⟨⟨_, _, _, _, _, _, _, _, _, _, _, _, _, _, _, xlX8I, xtX8I⟩, xsX8I, xbX8I, xyX8I, xkX8I⟩
  have B : Blt mg := ⟨PySem.W.mg_none_of X G z_int, PySem.W.mg_none_of X G z_len, PySem.W.mg_none_of X G z_range, PySem.W.mg_none_of X G z_enumerate, PySem.W.mg_none_of X G z_list, PySem.W.mg_none_of X G z_tuple, PySem.W.mg_none_of X G z_isinstance, PySem.W.mg_none_of X G z_ValueError, PySem.W.mg_none_of X G z_zip, PySem.W.mg_none_of X G z_abs, PySem.W.mg_none_of X G z_repr, PySem.W.mg_none_of X G z_set, PySem.W.mg_none_of X G z_max, PySem.W.mg_none_of X G z_bool, PySem.W.mg_none_of X G z_OverflowError, PySem.W.mg_none_of X G z_all, PySem.W.mg_none_of X G z_str, PySem.W.mg_none_of X G z_sorted, PySem.W.mg_none_of X G z_sum, PySem.W.mg_none_of X G z_min⟩
  have FMixed := fun_mk (st := sMixed) lMixed cMixed kMixed
  have bMixed := FMixed.binds (ps := ["cell", "n"]) fun _ _ _ _ _ _ us hl => match us, hl with | [_, _], _ => rfl
  have gMixed := PySem.W.mg_of X G aMixed
  have FDraw := fun_mk (st := sDraw) lDraw cDraw kDraw
  have bDraw := FDraw.binds (ps := ["m", "limit"]) fun _ _ _ _ _ _ us hl => match us, hl with | [_, _], _ => rfl
  have gDraw := PySem.W.mg_of X G aDraw
  have FFolded := fun_mk (st := sFolded) lFolded cFolded kFolded
  have bFolded := FFolded.binds (ps := ["script"]) fun _ _ _ _ _ _ us hl => match us, hl with | [_], _ => rfl
  have gFolded := PySem.W.mg_of X G aFolded
  have FBegun := fun_mk (st := sBegun) lBegun cBegun kBegun
  have bBegun := FBegun.binds (ps := ["script"]) fun _ _ _ _ _ _ us hl => match us, hl with | [_], _ => rfl
  have gBegun := PySem.W.mg_of X G aBegun
  have FWhole := fun_mk (st := sWhole) lWhole cWhole kWhole
  have bWhole := FWhole.binds (ps := ["value", "least", "most"]) fun _ _ _ _ _ _ us hl => match us, hl with | [_, _, _], _ => rfl
  have gWhole := PySem.W.mg_of X G aWhole
  have FFault := fun_mk (st := sFault) lFault cFault kFault
  have bFault := FFault.binds (ps := ["waggons"]) fun _ _ _ _ _ _ us hl => match us, hl with | [_], _ => rfl
  have gFault := PySem.W.mg_of X G aFault
  have FRI := fun_mk (st := sRI) lRI cRI kRI
  have bRI := FRI.binds (ps := ["self", "waggons"]) fun _ _ _ _ _ _ us hl => match us, hl with | [_, _], _ => rfl
  have FRLen := fun_mk (st := sRLen) lRLen cRLen kRLen
  have bRLen := FRLen.binds (ps := ["self"]) fun _ _ _ _ _ _ us hl => match us, hl with | [_], _ => rfl
  have FLTurn := fun_mk (st := sLTurn) lLTurn cLTurn kLTurn
  have bLTurn := FLTurn.binds (ps := ["waggons", "first", "last"]) fun _ _ _ _ _ _ us hl => match us, hl with | [_, _, _], _ => rfl
  have gLTurn := PySem.W.mg_of X G aLTurn
  have FWk := fun_mk (st := sWk) lWk cWk kWk
  have bWk := FWk.binds (ps := ["many"]) fun _ _ _ _ _ _ us hl => match us, hl with | [_], _ => rfl
  have gWk := PySem.W.mg_of X G aWk
  have FClass := fun_mk (st := sClass) lClass cClass kClass
  have bClass := FClass.binds (ps := ["error"]) fun _ _ _ _ _ _ us hl => match us, hl with | [_], _ => rfl
  have gClass := PySem.W.mg_of X G aClass
  have FLeft := fun_mk (st := sLeft) lLeft cLeft kLeft
  have bLeft := FLeft.binds (ps := ["ahead", "many"]) fun _ _ _ _ _ _ us hl => match us, hl with | [_, _], _ => rfl
  have gLeft := PySem.W.mg_of X G aLeft
  have FAllW := fun_mk (st := sAllW) lAllW cAllW kAllW
  have bAllW := FAllW.binds (ps := ["many"]) fun _ _ _ _ _ _ us hl => match us, hl with | [_], _ => rfl
  have gAllW := PySem.W.mg_of X G aAllW
  have FRo := fun_mk (st := sRo) lRo cRo kRo
  have bRo := FRo.binds (ps := ["many"]) fun _ _ _ _ _ _ us hl => match us, hl with | [_], _ => rfl
  have gRo := PySem.W.mg_of X G aRo
  have FLaw := fun_mk (st := sLaw) lLaw cLaw_ kLaw
  have bLaw := FLaw.binds (ps := ["script"]) fun _ _ _ _ _ _ us hl => match us, hl with | [_], _ => rfl
  have gLaw := PySem.W.mg_of X G aLaw
  have FTold := fun_mk (st := sTold) lTold cTold kTold
  have bTold := FTold.binds (ps := ["call"]) fun _ _ _ _ _ _ us hl => match us, hl with | [_], _ => rfl
  have gTold := PySem.W.mg_of X G aTold
  refine ⟨PySem.W.fnOf "law" "law" (defArgs sLaw) (defBody sLaw) (defScope sLaw) .none kVLaw dcLaw pmLaw anLaw (.ref cLaw) ctLaw, [(cLaw, pLaw)], spLaw K [(pLaw, (("law" : Str) ++ ".<locals>.") ++ "<lambda>")], ?_, ?_, ?_, fun s u => .of_eq rfl, ?_, fun base _ _ hTab => ?_⟩
  · intro p hp
    simp only [List.mem_cons, List.not_mem_nil, or_false] at hp
    rcases hp with rfl
    · exact tpLaw.2
  · intro p hp
    simp only [List.mem_cons, List.not_mem_nil, or_false] at hp
    rcases hp with rfl
    · exact npLaw
  · intro p hp
    simp only [List.mem_cons, List.not_mem_nil, or_false] at hp
    rcases hp with rfl
    · exact tpLaw.1
  · intro H a ns hl hH hS
    refine ⟨a, ns, rfl, hS, hl, fun p hp => ?_, fun _ => rfl⟩
    simp only [List.mem_cons, List.not_mem_nil, or_false] at hp
    rcases hp with rfl
    · exact .nil (hH (cLaw, pLaw) (by simp))
  have TBpLaw := hTab (cLaw, pLaw) (by simp)
  have hmpLaw : (pLaw, (("law" : Str) ++ ".<locals>.") ++ "<lambda>") ∈ ([(pLaw, (("law" : Str) ++ ".<locals>.") ++ "<lambda>")] : List (Addr × Str)) := by simp
  have hupLaw : ∀ p ∈ ([(pLaw, (("law" : Str) ++ ".<locals>.") ++ "<lambda>")] : List (Addr × Str)), p.1 = pLaw → p.2 = (("law" : Str) ++ ".<locals>.") ++ "<lambda>" := fun p hp e => by
    simp only [List.mem_cons, List.not_mem_nil, or_false] at hp
    rcases hp with rfl
    · rfl
  have DX1I : XDs l.prog w K mg base (kdC c1 c2 c3 c4 c5 c6 c7 c8 c9) .row := ⟨_, _, _, _, _, _, eb_value, TX1I, aX1I, xfX1I, (ok_xRow FX1I FC), bX1I, xno .row, gX1⟩
  have DX2I : XDs l.prog w K mg base (kdC c1 c2 c3 c4 c5 c6 c7 c8 c9) .turn := ⟨_, _, _, _, _, _, eb_value, TX2I, aX2I, xfX2I, (ok_xTurn FX2I FC), bX2I, xno .turn, gX2⟩
  have DX3I : XDs l.prog w K mg base (kdC c1 c2 c3 c4 c5 c6 c7 c8 c9) .place := ⟨_, _, _, _, _, _, eb_value, TX3I, aX3I, xfX3I, (ok_xPlace FX3I FC), bX3I, xno .place, gX3⟩
  have DX4I : XDs l.prog w K mg base (kdC c1 c2 c3 c4 c5 c6 c7 c8 c9) .number := ⟨_, _, _, _, _, _, eb_value, TX4I, aX4I, xfX4I, (ok_xNumber FX4I FC), bX4I, xno .number, gX4⟩
  have DX6I : XDs l.prog w K mg base (kdC c1 c2 c3 c4 c5 c6 c7 c8 c9) .great := ⟨_, _, _, _, _, _, eb_over, TX6I, aX6I, xfX6I, (ok_xGreat FX6I B ofi), bX6I, xno .great, gX6⟩
  have DX7I : XDs l.prog w K mg base (kdC c1 c2 c3 c4 c5 c6 c7 c8 c9) .text := ⟨_, _, _, _, _, _, eb_value, TX7I, aX7I, xfX7I, (ok_xText FX7I FC), bX7I, xno .text, gX7⟩
  have DX8I : XDs l.prog w K mg base (kdC c1 c2 c3 c4 c5 c6 c7 c8 c9) .way := ⟨_, _, _, _, _, _, eb_value, TX8I, aX8I, xfX8I, (ok_xWay FX8I FC), bX8I, xno .way, gX8⟩
  have XB : ∀ k, hasK k = true → XDs l.prog w K mg base (kdC c1 c2 c3 c4 c5 c6 c7 c8 c9) k := fun k h => by
    cases k
    · exact DX1I
    · exact DX2I
    · exact DX3I
    · exact DX4I
    · exact absurd h (by decide)
    · exact DX6I
    · exact DX7I
    · exact DX8I
    · exact absurd h (by decide)
  have hso := PySem.W.mg_none_of X G z_sorted
  have hsum := PySem.W.mg_none_of X G z_sum
  have hall := PySem.W.mg_none_of X G z_all
  have hany := PySem.W.mg_none_of X G z_any
  have dMixed : Dn l.prog w K mg base 1 "_law_mixed" fMixed _ ["cell", "n"] spMixed := ⟨ok_mixed FMixed B, gMixed, kMixed, bMixed⟩
  have dDraw : Dn l.prog w K mg base 2 "_law_draw" fDraw _ ["m", "limit"] spDraw := ⟨ok_draw FDraw B dMixed, gDraw, kDraw, bDraw⟩
  have dFolded : Dn l.prog w K mg base 1 "_law_folded" fFolded _ ["script"] (spFolded K) := ⟨ok_folded FFolded B, gFolded, kFolded, bFolded⟩
  have dBegun : Dn l.prog w K mg base 2 "_law_begun" fBegun _ ["script"] (spBegun K) := ⟨ok_begun FBegun B dFolded, gBegun, kBegun, bBegun⟩
  have dWhole : Dn l.prog w K mg base 1 "is_whole" fWhole _ ["value", "least", "most"] (spWhole K) := ⟨ok_whole FWhole B, gWhole, kWhole, bWhole⟩
  have dFault : Dn l.prog w K mg base 2 "first_fault" fFault _ ["waggons"] (spFault K) := ⟨ok_fault FFault B dWhole, gFault, kFault, bFault⟩
  have oRI := ok_ri FRI B R XB dFault
  have RM : Mk K CR fRI := ⟨rmk, aRI, iRI, rkc⟩
  have oLen := ok_rlen (P := l.prog) (w := w) (base := base) FRLen B R
  have dLTurn : Dn l.prog w K mg base 1 "_law_turn" fLTurn _ ["waggons", "first", "last"] spLTurn := ⟨ok_lturn FLTurn B, gLTurn, kLTurn, bLTurn⟩
  have dWk : Dn l.prog w K mg base 2 "_law_walked" fWk _ ["many"] (spWk w) := ⟨ok_wk FWk B dLTurn, gWk, kWk, bWk⟩
  have dClass : Dn l.prog w K mg base 1 "_law_class" fClass _ ["error"] (spClass (kdC c1 c2 c3 c4 c5 c6 c7 c8 c9)) := ⟨ok_class FClass B XE, gClass, kClass, bClass⟩
  have dLeft : Dn l.prog w K mg base 1 "waggons_left" fLeft _ ["ahead", "many"] spLeft := ⟨ok_left FLeft B, gLeft, kLeft, bLeft⟩
  have dAllW : Dn l.prog w K mg base 2 "all_waggons" fAllW _ ["many"] spAllW := ⟨ok_allW FAllW B dLeft, gAllW, kAllW, bAllW⟩
  have hMostC := PySem.W.mg_of X G aMostC
  have hns : PySem.W.subIn K (.ref ((kdC c1 c2 c3 c4 c5 c6 c7 c8 c9) .number)) (.type "StopIteration") = some false := nsN
  have GY : DnYn l.prog w K mg base 7 "rows_of" fRo _ ["many"] (spRowsY CR) := ⟨ok_rowsY FRo R hMostC dWhole dAllW RM oRI bRI, gRo, kRo, bRo⟩
  have GE : DnGn l.prog w K mg base 5 "rows_of" fRo _ ["many"] (spRowsE K (kdC c1 c2 c3 c4 c5 c6 c7 c8 c9)) := ⟨ok_rowsE FRo hMostC XB dWhole, gRo, kRo, bRo⟩
  have DT : DL K mg "_law_told" sTold fTold _ ["call"] _ _ _ _ _ _ _ _ := ⟨gTold, kTold, lTold, cTold, bTold⟩
  exact ok_law B R XE hso hns TBpLaw hmpLaw hupLaw DT dClass dBegun dDraw dWk GY GE oLen ⟨aRLen, iRLen, bRLen⟩ ⟨gLaw, kLaw, lLaw, cLaw_, bLaw⟩
end Fab
namespace PySem.W.Fast
theorem te7877797039402962132 : True := trivial
end PySem.W.Fast
open PySem PySem.W PyProof.Rows in
set_option maxRecDepth 100000 in
set_option maxHeartbeats 0 in
theorem PySem.Challenge.cw_faceabout_k41_rows_listed_holds : PySem.Challenge.rw_faceabout_k41_rows_listed.Holds := by
  w_on; o_law; k_head; (case hw => w_witness2)
  k_fill
  refine Fab.walkG (l := PySem.Challenge.rw_faceabout_k41_rows_listed) (n := 63) (k := 32) (x := "script") (CX := fun _ => L2.CX0) rfl (by decide) rfl ⟨rfl, by decide, by decide⟩ (fun w h Y => PySem.W.km_in_of Y) ?F (fun _ _ _ _ _ z => z)
  case F =>
    intro w mg fa h Y KX TO G hmg
    refine' Fab.all_mk KX G hmg ?aCR ?rpg ?rhd ?rpo ?rsa ?rmk ?rkc ?rnw ?rhc ?rhm ?rks ?ohn ?oht ?aMost ?aCF ?aX1 ?aX2 ?aX3 ?aX4 ?aX5 ?aX6 ?aX7 ?aX8 ?aX9 ?fgi ?frd ?ffi ?ofi ?xno ?xexc ?xkit ?xkve ?xxf ?xany ?xlX1I ?xtX1I ?xsX1I ?xbX1I ?xyX1I ?xkX1I ?aX1I ?iX1I ?lX1I ?cX1I ?kX1I ?xfX1I ?xlX2I ?xtX2I ?xsX2I ?xbX2I ?xyX2I ?xkX2I ?aX2I ?iX2I ?lX2I ?cX2I ?kX2I ?xfX2I ?xlX3I ?xtX3I ?xsX3I ?xbX3I ?xyX3I ?xkX3I ?aX3I ?iX3I ?lX3I ?cX3I ?kX3I ?xfX3I ?xlX4I ?xtX4I ?xsX4I ?xbX4I ?xyX4I ?xkX4I ?aX4I ?iX4I ?lX4I ?cX4I ?kX4I ?xfX4I ?xlX6I ?xtX6I ?xsX6I ?xbX6I ?xyX6I ?xkX6I ?aX6I ?iX6I ?lX6I ?cX6I ?kX6I ?xfX6I ?xlX7I ?xtX7I ?xsX7I ?xbX7I ?xyX7I ?xkX7I ?aX7I ?iX7I ?lX7I ?cX7I ?kX7I ?xfX7I ?xlX8I ?xtX8I ?xsX8I ?xbX8I ?xyX8I ?xkX8I ?aX8I ?iX8I ?lX8I ?cX8I ?kX8I ?xfX8I ?z_int ?z_len ?z_range ?z_enumerate ?z_list ?z_tuple ?z_isinstance ?z_ValueError ?z_zip ?z_abs ?z_repr ?z_set ?z_max ?z_bool ?z_OverflowError ?z_all ?z_str ?z_sorted ?z_sum ?z_min ?z_any ?aMixed ?lMixed ?cMixed ?kMixed ?aDraw ?lDraw ?cDraw ?kDraw ?aFolded ?lFolded ?cFolded ?kFolded ?aBegun ?lBegun ?cBegun ?kBegun ?aWhole ?lWhole ?cWhole ?kWhole ?aFault ?lFault ?cFault ?kFault ?aRI ?iRI ?lRI ?cRI ?kRI ?aRLen ?iRLen ?lRLen ?cRLen ?kRLen ?aLTurn ?lLTurn ?cLTurn ?kLTurn ?aWk ?lWk ?cWk ?kWk ?aClass ?lClass ?cClass ?kClass ?aLeft ?lLeft ?cLeft ?kLeft ?aAllW ?lAllW ?cAllW ?kAllW ?aMostC ?nsN ?aRo ?lRo ?cRo ?kRo ?aLaw ?lLaw ?cLaw_ ?kLaw ?aTold ?lTold ?cTold ?kTold ?upLaw ?npLaw ?tpLaw
    (case aCR => first | k_is | rfl | kernel_rfl)
    (case rpg => first | k_is | rfl | kernel_rfl)
    (case rhd => first | k_is | rfl | kernel_rfl)
    (case rpo => first | k_is | rfl | kernel_rfl)
    (case rsa => first | k_is | rfl | kernel_rfl)
    (case rmk => first | k_is | rfl | kernel_rfl)
    (case rkc => first | k_is | rfl | kernel_rfl)
    (case rnw => first | k_is | rfl | kernel_rfl)
    (case rhc => first | k_is | rfl | kernel_rfl)
    (case rhm => first | k_is | rfl | kernel_rfl)
    (case rks => first | k_is | rfl | kernel_rfl)
    (case ohn => first | k_is | rfl | kernel_rfl)
    (case oht => first | k_is | rfl | kernel_rfl)
    (case aMost => first | k_is | rfl | kernel_rfl)
    (case aCF => first | k_is | rfl | kernel_rfl)
    (case aX1 => first | k_is | rfl | kernel_rfl)
    (case aX2 => first | k_is | rfl | kernel_rfl)
    (case aX3 => first | k_is | rfl | kernel_rfl)
    (case aX4 => first | k_is | rfl | kernel_rfl)
    (case aX5 => first | k_is | rfl | kernel_rfl)
    (case aX6 => first | k_is | rfl | kernel_rfl)
    (case aX7 => first | k_is | rfl | kernel_rfl)
    (case aX8 => first | k_is | rfl | kernel_rfl)
    (case aX9 => first | k_is | rfl | kernel_rfl)
    (case fgi => first | k_is | rfl | kernel_rfl)
    (case frd => first | k_is | rfl | kernel_rfl)
    (case ffi => first | k_is | rfl | kernel_rfl)
    (case ofi => first | k_is | rfl | kernel_rfl)
    (case xno => intro k; cases k <;> (try dsimp only [Fab.kdC, Fab.Kd.fld]) <;> first | kernel_rfl | k_is | rfl)
    (case xexc => intro k; cases k <;> refine ⟨?_, ?_, ?_, ?_, ?_, ?_, ?_, ?_⟩ <;> (try dsimp only [Fab.kdC]) <;> first | k_is | rfl | kernel_rfl)
    (case xkit => intro k j; cases k <;> cases j <;> (try dsimp only [Fab.kdC]) <;> first | kernel_rfl | k_is | rfl)
    (case xkve => intro k; cases k <;> (try dsimp only [Fab.kdC, Fab.Kd.fld]) <;> first | kernel_rfl | k_is | rfl)
    (case xxf => intro k; cases k <;> refine ⟨?_, ?_, ?_, ?_⟩ <;> (try dsimp only [Fab.kdC]) <;> first | k_is | rfl | kernel_rfl)
    (case xany => intro k; cases k <;> (try dsimp only [Fab.kdC, Fab.Kd.fld]) <;> first | kernel_rfl | k_is | rfl)
    (case xlX1I => first | k_is | rfl | kernel_rfl)
    (case xtX1I => first | kernel_rfl | rfl | k_is)
    (case xsX1I => first | k_is | rfl | kernel_rfl)
    (case xbX1I => first | k_is | rfl | kernel_rfl)
    (case xyX1I => first | k_is | rfl | kernel_rfl)
    (case xkX1I => first | k_is | rfl | kernel_rfl)
    (case aX1I => first | k_is | rfl | kernel_rfl)
    (case iX1I => first | k_is | rfl | kernel_rfl)
    (case lX1I => first | k_is | rfl | kernel_rfl)
    (case cX1I => first | k_is | rfl | kernel_rfl)
    (case kX1I => first | k_is | rfl | kernel_rfl)
    (case xfX1I => first | k_is | rfl | kernel_rfl)
    (case xlX2I => first | k_is | rfl | kernel_rfl)
    (case xtX2I => first | kernel_rfl | rfl | k_is)
    (case xsX2I => first | k_is | rfl | kernel_rfl)
    (case xbX2I => first | k_is | rfl | kernel_rfl)
    (case xyX2I => first | k_is | rfl | kernel_rfl)
    (case xkX2I => first | k_is | rfl | kernel_rfl)
    (case aX2I => first | k_is | rfl | kernel_rfl)
    (case iX2I => first | k_is | rfl | kernel_rfl)
    (case lX2I => first | k_is | rfl | kernel_rfl)
    (case cX2I => first | k_is | rfl | kernel_rfl)
    (case kX2I => first | k_is | rfl | kernel_rfl)
    (case xfX2I => first | k_is | rfl | kernel_rfl)
    (case xlX3I => first | k_is | rfl | kernel_rfl)
    (case xtX3I => first | kernel_rfl | rfl | k_is)
    (case xsX3I => first | k_is | rfl | kernel_rfl)
    (case xbX3I => first | k_is | rfl | kernel_rfl)
    (case xyX3I => first | k_is | rfl | kernel_rfl)
    (case xkX3I => first | k_is | rfl | kernel_rfl)
    (case aX3I => first | k_is | rfl | kernel_rfl)
    (case iX3I => first | k_is | rfl | kernel_rfl)
    (case lX3I => first | k_is | rfl | kernel_rfl)
    (case cX3I => first | k_is | rfl | kernel_rfl)
    (case kX3I => first | k_is | rfl | kernel_rfl)
    (case xfX3I => first | k_is | rfl | kernel_rfl)
    (case xlX4I => first | k_is | rfl | kernel_rfl)
    (case xtX4I => first | kernel_rfl | rfl | k_is)
    (case xsX4I => first | k_is | rfl | kernel_rfl)
    (case xbX4I => first | k_is | rfl | kernel_rfl)
    (case xyX4I => first | k_is | rfl | kernel_rfl)
    (case xkX4I => first | k_is | rfl | kernel_rfl)
    (case aX4I => first | k_is | rfl | kernel_rfl)
    (case iX4I => first | k_is | rfl | kernel_rfl)
    (case lX4I => first | k_is | rfl | kernel_rfl)
    (case cX4I => first | k_is | rfl | kernel_rfl)
    (case kX4I => first | k_is | rfl | kernel_rfl)
    (case xfX4I => first | k_is | rfl | kernel_rfl)
    (case xlX6I => first | k_is | rfl | kernel_rfl)
    (case xtX6I => first | kernel_rfl | rfl | k_is)
    (case xsX6I => first | k_is | rfl | kernel_rfl)
    (case xbX6I => first | k_is | rfl | kernel_rfl)
    (case xyX6I => first | k_is | rfl | kernel_rfl)
    (case xkX6I => first | k_is | rfl | kernel_rfl)
    (case aX6I => first | k_is | rfl | kernel_rfl)
    (case iX6I => first | k_is | rfl | kernel_rfl)
    (case lX6I => first | k_is | rfl | kernel_rfl)
    (case cX6I => first | k_is | rfl | kernel_rfl)
    (case kX6I => first | k_is | rfl | kernel_rfl)
    (case xfX6I => first | k_is | rfl | kernel_rfl)
    (case xlX7I => first | k_is | rfl | kernel_rfl)
    (case xtX7I => first | kernel_rfl | rfl | k_is)
    (case xsX7I => first | k_is | rfl | kernel_rfl)
    (case xbX7I => first | k_is | rfl | kernel_rfl)
    (case xyX7I => first | k_is | rfl | kernel_rfl)
    (case xkX7I => first | k_is | rfl | kernel_rfl)
    (case aX7I => first | k_is | rfl | kernel_rfl)
    (case iX7I => first | k_is | rfl | kernel_rfl)
    (case lX7I => first | k_is | rfl | kernel_rfl)
    (case cX7I => first | k_is | rfl | kernel_rfl)
    (case kX7I => first | k_is | rfl | kernel_rfl)
    (case xfX7I => first | k_is | rfl | kernel_rfl)
    (case xlX8I => first | k_is | rfl | kernel_rfl)
    (case xtX8I => first | kernel_rfl | rfl | k_is)
    (case xsX8I => first | k_is | rfl | kernel_rfl)
    (case xbX8I => first | k_is | rfl | kernel_rfl)
    (case xyX8I => first | k_is | rfl | kernel_rfl)
    (case xkX8I => first | k_is | rfl | kernel_rfl)
    (case aX8I => first | k_is | rfl | kernel_rfl)
    (case iX8I => first | k_is | rfl | kernel_rfl)
    (case lX8I => first | k_is | rfl | kernel_rfl)
    (case cX8I => first | k_is | rfl | kernel_rfl)
    (case kX8I => first | k_is | rfl | kernel_rfl)
    (case xfX8I => first | k_is | rfl | kernel_rfl)
    (case z_int => first | k_is | rfl | kernel_rfl)
    (case z_len => first | k_is | rfl | kernel_rfl)
    (case z_range => first | k_is | rfl | kernel_rfl)
    (case z_enumerate => first | k_is | rfl | kernel_rfl)
    (case z_list => first | k_is | rfl | kernel_rfl)
    (case z_tuple => first | k_is | rfl | kernel_rfl)
    (case z_isinstance => first | k_is | rfl | kernel_rfl)
    (case z_ValueError => first | k_is | rfl | kernel_rfl)
    (case z_zip => first | k_is | rfl | kernel_rfl)
    (case z_abs => first | k_is | rfl | kernel_rfl)
    (case z_repr => first | k_is | rfl | kernel_rfl)
    (case z_set => first | k_is | rfl | kernel_rfl)
    (case z_max => first | k_is | rfl | kernel_rfl)
    (case z_bool => first | k_is | rfl | kernel_rfl)
    (case z_OverflowError => first | k_is | rfl | kernel_rfl)
    (case z_all => first | k_is | rfl | kernel_rfl)
    (case z_str => first | k_is | rfl | kernel_rfl)
    (case z_sorted => first | k_is | rfl | kernel_rfl)
    (case z_sum => first | k_is | rfl | kernel_rfl)
    (case z_min => first | k_is | rfl | kernel_rfl)
    (case z_any => first | k_is | rfl | kernel_rfl)
    (case aMixed => first | k_is | rfl | kernel_rfl)
    (case lMixed => first | k_is | rfl | kernel_rfl)
    (case cMixed => first | k_is | rfl | kernel_rfl)
    (case kMixed => first | k_is | rfl | kernel_rfl)
    (case aDraw => first | k_is | rfl | kernel_rfl)
    (case lDraw => first | k_is | rfl | kernel_rfl)
    (case cDraw => first | k_is | rfl | kernel_rfl)
    (case kDraw => first | k_is | rfl | kernel_rfl)
    (case aFolded => first | k_is | rfl | kernel_rfl)
    (case lFolded => first | k_is | rfl | kernel_rfl)
    (case cFolded => first | k_is | rfl | kernel_rfl)
    (case kFolded => first | k_is | rfl | kernel_rfl)
    (case aBegun => first | k_is | rfl | kernel_rfl)
    (case lBegun => first | k_is | rfl | kernel_rfl)
    (case cBegun => first | k_is | rfl | kernel_rfl)
    (case kBegun => first | k_is | rfl | kernel_rfl)
    (case aWhole => first | k_is | rfl | kernel_rfl)
    (case lWhole => first | k_is | rfl | kernel_rfl)
    (case cWhole => first | k_is | rfl | kernel_rfl)
    (case kWhole => first | k_is | rfl | kernel_rfl)
    (case aFault => first | k_is | rfl | kernel_rfl)
    (case lFault => first | k_is | rfl | kernel_rfl)
    (case cFault => first | k_is | rfl | kernel_rfl)
    (case kFault => first | k_is | rfl | kernel_rfl)
    (case aRI => first | k_is | rfl | kernel_rfl)
    (case iRI => first | k_is | rfl | kernel_rfl)
    (case lRI => first | k_is | rfl | kernel_rfl)
    (case cRI => first | k_is | rfl | kernel_rfl)
    (case kRI => first | k_is | rfl | kernel_rfl)
    (case aRLen => first | k_is | rfl | kernel_rfl)
    (case iRLen => first | k_is | rfl | kernel_rfl)
    (case lRLen => first | k_is | rfl | kernel_rfl)
    (case cRLen => first | k_is | rfl | kernel_rfl)
    (case kRLen => first | k_is | rfl | kernel_rfl)
    (case aLTurn => first | k_is | rfl | kernel_rfl)
    (case lLTurn => first | k_is | rfl | kernel_rfl)
    (case cLTurn => first | k_is | rfl | kernel_rfl)
    (case kLTurn => first | k_is | rfl | kernel_rfl)
    (case aWk => first | k_is | rfl | kernel_rfl)
    (case lWk => first | k_is | rfl | kernel_rfl)
    (case cWk => first | k_is | rfl | kernel_rfl)
    (case kWk => first | k_is | rfl | kernel_rfl)
    (case aClass => first | k_is | rfl | kernel_rfl)
    (case lClass => first | k_is | rfl | kernel_rfl)
    (case cClass => first | k_is | rfl | kernel_rfl)
    (case kClass => first | k_is | rfl | kernel_rfl)
    (case aLeft => first | k_is | rfl | kernel_rfl)
    (case lLeft => first | k_is | rfl | kernel_rfl)
    (case cLeft => first | k_is | rfl | kernel_rfl)
    (case kLeft => first | k_is | rfl | kernel_rfl)
    (case aAllW => first | k_is | rfl | kernel_rfl)
    (case lAllW => first | k_is | rfl | kernel_rfl)
    (case cAllW => first | k_is | rfl | kernel_rfl)
    (case kAllW => first | k_is | rfl | kernel_rfl)
    (case aMostC => first | k_is | rfl | kernel_rfl)
    (case nsN => first | k_is | rfl | kernel_rfl)
    (case aRo => first | k_is | rfl | kernel_rfl)
    (case lRo => first | k_is | rfl | kernel_rfl)
    (case cRo => first | k_is | rfl | kernel_rfl)
    (case kRo => first | k_is | rfl | kernel_rfl)
    (case aLaw => first | k_is | rfl | kernel_rfl)
    (case lLaw => first | k_is | rfl | kernel_rfl)
    (case cLaw_ => first | k_is | rfl | kernel_rfl)
    (case kLaw => first | k_is | rfl | kernel_rfl)
    (case aTold => first | k_is | rfl | kernel_rfl)
    (case lTold => first | k_is | rfl | kernel_rfl)
    (case cTold => first | k_is | rfl | kernel_rfl)
    (case kTold => first | k_is | rfl | kernel_rfl)
    (case upLaw => exact rfl)
    (case npLaw => first | rfl | kernel_rfl)
    (case tpLaw => exact TO _ "law" _ _ rfl (by kernel_rfl))
#print axioms PySem.Challenge.cw_faceabout_k41_rows_listed_holds
