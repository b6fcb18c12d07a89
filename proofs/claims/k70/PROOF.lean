import PyProof.Rows.All
import Wide.All
import OpenK.AllK
import Wide.FinOn
import HandS.ForMost
import HandS.Evl
import HandS.TupAny
import HandS.Style
import HandS.Conv
import HandS.Walk
import HandS.Lambda
import HandS.EndTab
import HandS.ExcInit
import KE.KExcInit
import KE.KTryMore
import HandS.TryOnly
import HandS.ExcIs
import HandS.ExcField
import HandS.IsInst
import KE.GoesEnum
import KE.GoesMore
import HandS.OwnEq
import HandS.ExcValue
import KE.KDflt
import KE.KxField
import HandS.FStr
import HandS.Strs
import HandS.WordsExc
import HandS.ExcOwn
import HandS.TupMul
import HandS.Text
import HandS.Zip
import PySem.Challenge.RW_faceabout_k70_texts_written_and_read
set_option Elab.async false
set_option linter.all false
set_option maxRecDepth 100000
set_option maxHeartbeats 4000000
/-! Readings that the simplifier can reckon with: what stands at an address is asked of the heap alone. -/
namespace Fab
open PySem L2
/-! ### weaker readings -/
theorem peI {X : Cx} {e : Expr} {t t' : TE} (he : PE X e t) (h : ∀ σ H Q, t' σ H Q → t σ H Q) : PE X e t' := ⟨fun pins s σ H Q I q => he.run pins s σ H Q I (h σ H Q q)⟩
theorem ptI {X : Cx} {e : Expr} {t t' : TT} (he : PT X e t) (h : ∀ σ H Q, t' σ H Q → t σ H Q) : PT X e t' := ⟨fun pins s σ H Q I q => he.run pins s σ H Q I (h σ H Q q)⟩
theorem psI {X : Cx} {e : Stmt} {t t' : TS} (he : PS X e t) (h : ∀ D σ H, t' D σ H → t D σ H) : PS X e t' := ⟨fun pins s σ H D I q => he.run pins s σ H D I (h D σ H q)⟩
theorem opI' {X : Cx} {f : Value → Value → Sem Value} {r r' : R2} (ho : OpR X f r) (h : ∀ x y H Q, r' x y H Q → r x y H Q) : OpR X f r' := fun pins s σ H x y v u Q I rx ry q => ho pins s σ H x y v u Q I rx ry (h x y H Q q)
theorem clI {X : Cx} {f : Value} {r r' : List V → Hp → VK → Prop} (ho : CallR X f r) (h : ∀ xs H Q, r' xs H Q → r xs H Q) : CallR X f r' := fun pins s σ H xs us Q I rx q => ho pins s σ H xs us Q I rx (h xs H Q q)
theorem ixI {X : Cx} {r r' : R2} (ho : IxR X r) (h : ∀ x y H Q, r' x y H Q → r x y H Q) : IxR X r' := fun value slice pins s σ H x y v u Q I rx ry q => ho value slice pins s σ H x y v u Q I rx ry (h x y H Q q)
theorem slI {X : Cx} {r r' : V → Option Int → Option Int → Hp → VK → Prop} (ho : SlR X r) (h : ∀ x lo hi H Q, r' x lo hi H Q → r x lo hi H Q) : SlR X r' := fun pins s σ H x v vl vu lo hi sl Q I rx hs pl pu q => ho pins s σ H x v vl vu lo hi sl Q I rx hs pl pu (h x lo hi H Q q)
/-! ### new things, changed things -/
def newAt (H : Hp) (o : HO) (k : Addr → Hp → Prop) : Prop := ∀ p, H p = none → k p (upd H p o)
def setAt (H : Hp) (a : Addr) (o : HO) (k : Hp → Prop) : Prop := k (upd H a o)
/-- a tuple, new or one that stands -/
def newTup (H : Hp) (xs : List V) (k : Addr → Hp → Prop) : Prop := ∀ p H', (H' = H ∨ (H p = none ∧ H' = upd H p (.tup xs))) → H' p = some (.tup xs) → k p H'
theorem newTup.mk {H : Hp} {xs : List V} {k : Addr → Hp → Prop} (h : newTup H xs k) : ∀ p, H p = none → k p (upd H p (.tup xs)) := fun p hp => h p _ (.inr ⟨hp, rfl⟩) upd_same
theorem newTup.old {H : Hp} {xs : List V} {k : Addr → Hp → Prop} (h : newTup H xs k) {p : Addr} (hp : H p = some (.tup xs)) : k p H := h p _ (.inl rfl) hp
/-- the items of a list, of a tuple -/
def sq : HO → Option (List V)
  | .lst xs => some xs
  | .tup xs => some xs
  | .frz _ (.lst xs) => some xs
  | _ => none
theorem sq_or {K : PySem.W.Frag} {H : Hp} {p : Addr} {o : HO} {xs : List V} (h : H p = some o) (hs : sq o = some xs) : SqL K H p xs ∨ SqT K H p xs := by
  cases o with
  | lst ys =>
    cases hs
    exact .inl (SqL.of h)
  | tup ys =>
    cases hs
    exact .inr (SqT.of h)
  | frz ob u =>
    cases u with
    | lst ys =>
      cases hs
      exact .inl (.inl (.inr ⟨_, h⟩))
    | _ => cases hs
  | _ => cases hs
/-! ### the view: what is known of the heap -/
structure VW (H0 H : Hp) (L : List (Addr × HO)) (T : List (Addr × List V)) : Prop where
  at_ : ∀ p ∈ L, H p.1 = some p.2
  nd : (L.map (·.1)).Nodup
  own : ∀ p ∈ L, H0 p.1 = none
  fr : ∀ a o, H0 a = some o → H a = some o
  tu : ∀ p ∈ T, H p.1 = some (.tup p.2)
section
variable {H0 H H' : Hp} {L : List (Addr × HO)} {T : List (Addr × List V)} {o : HO} {a : Addr} {xs : List V}
theorem VW.start : VW H H [] [] := ⟨(fun _ h => nomatch h), List.nodup_nil, (fun _ h => nomatch h), (fun _ _ h => h), (fun _ h => nomatch h)⟩
theorem VW.push (v : VW H0 H L T) {p : Addr} (hp : H p = none) : VW H0 (upd H p o) ((p, o) :: L) T := by
  have n0 : H0 p = none := by
    cases e : H0 p with
    | none => rfl
    | some u =>
      have := v.fr p u e
      rw [hp] at this
      cases this
  have nl : ∀ q ∈ L, q.1 ≠ p := fun q hq z => by
    have := v.at_ q hq
    rw [z, hp] at this
    cases this
  refine ⟨fun q hq => ?_, ?_, fun q hq => ?_, fun b u hb => ?_, fun q hq => ?_⟩
  · rcases List.mem_cons.mp hq with rfl | hq
    · exact upd_same
    · rw [upd_ne (nl q hq)]
      exact v.at_ q hq
  · rw [List.map_cons, List.nodup_cons]
    refine ⟨fun hm => ?_, v.nd⟩
    obtain ⟨q, hq, e⟩ := List.mem_map.mp hm
    exact nl q hq e
  · rcases List.mem_cons.mp hq with rfl | hq
    · exact n0
    · exact v.own q hq
  · rw [upd_ne (ne_of_none hb n0)]
    exact v.fr b u hb
  · have h := v.tu q hq
    rw [upd_ne (ne_of_none h hp)]
    exact h
theorem VW.tuple (v : VW H0 H L T) {p : Addr} (h : H' = H ∨ (H p = none ∧ H' = upd H p (.tup xs))) (hp : H' p = some (.tup xs)) : VW H0 H' L ((p, xs) :: T) := by
  rcases h with rfl | ⟨hn, rfl⟩
  · exact ⟨v.at_, v.nd, v.own, v.fr, fun q hq => by
      rcases List.mem_cons.mp hq with rfl | hq
      · exact hp
      · exact v.tu q hq⟩
  · have w := v.push (o := .tup xs) hn
    exact ⟨fun q hq => w.at_ q (List.mem_cons_of_mem _ hq), v.nd, v.own, w.fr, fun q hq => by
      rcases List.mem_cons.mp hq with rfl | hq
      · exact hp
      · exact w.tu q hq⟩
def noTup : HO → Bool
  | .tup _ => false
  | _ => true
theorem VW.put (v : VW H0 H L T) (i : Nat) {o0 : HO} (hi : L[i]? = some (a, o0)) (hn : noTup o0 = true) : VW H0 (upd H a o) (L.set i (a, o)) T := by
  have hm : (a, o0) ∈ L := List.mem_of_getElem? hi
  have h0 := v.at_ _ hm
  have hlt : i < L.length := (List.getElem?_eq_some_iff.mp hi).1
  have hmap : (L.set i (a, o)).map (·.1) = L.map (·.1) := by
    apply List.ext_getElem?
    intro j
    rw [List.map_set]
    by_cases hj : i = j
    · subst hj
      rw [List.getElem?_set_self (by simpa using hlt), List.getElem?_map, hi]
      rfl
    · rw [List.getElem?_set_ne hj]
  have hnd : ((L.set i (a, o)).map (·.1)).Nodup := by rw [hmap]; exact v.nd
  refine ⟨fun q hq => ?_, hnd, fun q hq => ?_, fun b u hb => ?_, fun q hq => ?_⟩
  · obtain ⟨j, hj⟩ := List.getElem?_of_mem hq
    by_cases e : i = j
    · subst e
      rw [List.getElem?_set_self hlt] at hj
      cases hj
      exact upd_same
    · rw [List.getElem?_set_ne e] at hj
      have hq' := List.mem_of_getElem? hj
      have ne : q.1 ≠ a := fun z => by
        have n1 : (L.map (·.1))[i]? = some a := by rw [List.getElem?_map, hi]; rfl
        have n2 : (L.map (·.1))[j]? = some a := by rw [List.getElem?_map, hj, ← z]; rfl
        obtain ⟨l1, e1⟩ := List.getElem?_eq_some_iff.mp n1
        obtain ⟨l2, e2⟩ := List.getElem?_eq_some_iff.mp n2
        exact e ((List.getElem_inj v.nd).mp (e1.trans e2.symm))
      rw [upd_ne ne]
      exact v.at_ q hq'
  · have : q.1 ∈ (L.set i (a, o)).map (·.1) := List.mem_map_of_mem hq
    rw [hmap] at this
    obtain ⟨r, hr, e⟩ := List.mem_map.mp this
    rw [← e]
    exact v.own r hr
  · rw [upd_ne (ne_of_none hb (v.own _ hm))]
    exact v.fr b u hb
  · have h := v.tu q hq
    have ne : q.1 ≠ a := fun z => by
      rw [z, h0] at h
      have := Option.some.inj h
      subst this
      cases hn
    rw [upd_ne ne]
    exact h
theorem VW.drop (v : VW H0 H L T) {L' : List (Addr × HO)} {T' : List (Addr × List V)} (hL : L'.Sublist L) (hT : ∀ p ∈ T', p ∈ T) : VW H0 H L' T' :=
  ⟨fun p hp => v.at_ p (hL.subset hp), (hL.map _).nodup v.nd, fun p hp => v.own p (hL.subset hp), v.fr, fun p hp => v.tu p (hT p hp)⟩
/-- what is known, in one row -/
def factsT (H : Hp) : List (Addr × List V) → Prop
  | [] => True
  | p :: T => H p.1 = some (.tup p.2) ∧ factsT H T
def facts (H : Hp) (T : List (Addr × List V)) : List (Addr × HO) → Prop
  | [] => factsT H T
  | p :: L => H p.1 = some p.2 ∧ facts H T L
theorem factsT_of (H : Hp) : ∀ (T : List (Addr × List V)), (∀ p ∈ T, H p.1 = some (.tup p.2)) → factsT H T
  | [], _ => True.intro
  | p :: T, h => ⟨h p List.mem_cons_self, factsT_of H T (fun q hq => h q (List.mem_cons_of_mem _ hq))⟩
theorem facts_of (H : Hp) (T : List (Addr × List V)) (hT : ∀ p ∈ T, H p.1 = some (.tup p.2)) : ∀ (L : List (Addr × HO)), (∀ p ∈ L, H p.1 = some p.2) → facts H T L
  | [], _ => factsT_of H T hT
  | p :: L, h => ⟨h p List.mem_cons_self, facts_of H T hT L (fun q hq => h q (List.mem_cons_of_mem _ hq))⟩
theorem VW.facts (v : VW H0 H L T) : facts H T L := facts_of H T v.tu L v.at_
theorem view_new {k : Addr → Hp → Prop} (v : VW H0 H L T) (h : ∀ p H', VW H0 H' ((p, o) :: L) T → k p H') : newAt H o k := fun p hp => h p _ (v.push hp)
theorem view_set {k : Hp → Prop} (v : VW H0 H L T) (i : Nat) {o0 : HO} (hi : L[i]? = some (a, o0)) (hn : noTup o0 = true) (h : ∀ H', VW H0 H' (L.set i (a, o)) T → k H') : setAt H a o k := h _ (v.put i hi hn)
theorem view_tup {k : Addr → Hp → Prop} (v : VW H0 H L T) (h : ∀ p H', VW H0 H' L ((p, xs) :: T) → k p H') : newTup H xs k := fun p _ e hp => h p _ (v.tuple e hp)
end
/-! ### the rules -/
section
variable {X : Cx}
def rIxF : R2 := fun x y H Q => ∃ p i, x = .ref p ∧ y = .int i ∧ ∃ o, H p = some o ∧ ∃ xs, sq o = some xs ∧ ∃ v, atI xs i = some v ∧ Q v H
theorem ixF : IxR X rIxF := ixI ix_seq fun x y H Q ⟨p, i, hx, hy, o, ho, xs, hs, v, hv, q⟩ => by
  rcases sq_or (K := X.K) ho hs with h | h
  · exact .inl ⟨p, xs, i, v, hx, hy, h, hv, q⟩
  · exact .inr (.inl ⟨p, xs, i, v, hx, hy, h, hv, q⟩)
def rLenF : List V → Hp → VK → Prop := fun vs H Q => ∃ p, vs = [.ref p] ∧ ∃ o, H p = some o ∧ ∃ xs, sq o = some xs ∧ Q (.int (xs.length : Int)) H
theorem lenF : CallR X (.builtin "len") rLenF := clI call_len_seq fun vs H Q ⟨p, e, o, ho, xs, hs, q⟩ => ⟨p, xs, e, sq_or ho hs, q⟩
def rIntF : List V → Hp → VK → Prop := fun vs H Q => ∃ i, vs = [.int i] ∧ Q (.int i) H
theorem intF : CallR X (.type "int") rIntF := clI call_int1 fun vs H Q ⟨i, e, q⟩ => .inl ⟨i, e, q⟩
def rListF : List V → Hp → VK → Prop := fun vs H Q => ∃ p, vs = [.ref p] ∧ ∃ o, H p = some o ∧ ∃ xs, sq o = some xs ∧ newAt H (.lst xs) fun l H' => Q (.ref l) H'
theorem listF : CallR X (.type "list") rListF := clI call_list_of fun vs H Q ⟨p, e, o, ho, xs, hs, q⟩ => ⟨p, xs, e, sq_or ho hs, q⟩
def rTupF : List V → Hp → VK → Prop := fun vs H Q => ∃ p, vs = [.ref p] ∧ ∃ o, H p = some o ∧ ∃ xs, sq o = some xs ∧ newTup H xs fun l H' => Q (.ref l) H'
theorem tupF : CallR X (.type "tuple") rTupF := clI call_tuple_of fun vs H Q ⟨p, e, o, ho, xs, hs, q⟩ => by
  refine ⟨p, xs, e, ?_⟩
  cases o with
  | lst ys =>
    cases hs
    exact .inl ⟨SqL.of ho, q.mk⟩
  | tup ys =>
    cases hs
    exact .inr ⟨SqT.of ho, q.old ho⟩
  | frz ob u =>
    cases u with
    | lst ys =>
      cases hs
      exact .inl ⟨.inl (.inr ⟨_, ho⟩), q.mk⟩
    | _ => cases hs
  | _ => cases hs
def rSlF : V → Option Int → Option Int → Hp → VK → Prop := fun x lo hi H Q => ∃ a, x = .ref a ∧ ∃ xs, H a = some (.lst xs) ∧ newAt H (.lst (cutV xs lo hi)) fun p H' => Q (.ref p) H'
theorem slF : SlR X rSlF := slI sl_list fun x lo hi H Q ⟨a, e, xs, h, q⟩ => ⟨a, xs, e, SqL.of h, q⟩
theorem cut_whole {xs : List V} {lo hi : Option Int} (h : HT.sIx xs.length 0 lo = 0 ∧ HT.sIx xs.length xs.length hi = xs.length) : cutV xs lo hi = xs := by
  unfold cutV
  rw [h.1, h.2]
  simp
def rSlTF : V → Option Int → Option Int → Hp → VK → Prop := fun x lo hi H Q => ∃ a, x = .ref a ∧ ∃ xs, H a = some (.tup xs) ∧ newTup H (cutV xs lo hi) fun p H' => Q (.ref p) H'
theorem slTF : SlR X rSlTF := slI sl_tupA fun x lo hi H Q ⟨a, e, xs, h, q⟩ => ⟨a, xs, e, SqT.of h, fun hw => q.old (by rw [cut_whole hw]; exact h), fun _ => q.mk⟩
def rCatF : R2 := fun x y H Q => ∃ l b, x = .ref l ∧ y = .ref b ∧ ∃ xs, H l = some (.lst xs) ∧ ∃ zs, H b = some (.lst zs) ∧ xs.length + zs.length ≤ sizeLine ∧ newAt H (.lst (xs ++ zs)) fun p H' => Q (.ref p) H'
theorem catF : OpR X (binaryOp .Add) rCatF := opI' op_cat fun x y H Q ⟨l, b, e1, e2, xs, h1, zs, h2, hz, q⟩ => ⟨l, b, xs, zs, e1, e2, h1, h2, hz, q⟩
def rCatTF : R2 := fun x y H Q => ∃ l b, x = .ref l ∧ y = .ref b ∧ ∃ xs, H l = some (.tup xs) ∧ ∃ zs, H b = some (.tup zs) ∧ xs.length + zs.length ≤ sizeLine ∧ newTup H (xs ++ zs) fun p H' => Q (.ref p) H'
theorem catTF : OpR X (binaryOp .Add) rCatTF := opI' op_catA fun x y H Q ⟨l, b, e1, e2, xs, h1, zs, h2, hz, q⟩ => ⟨l, b, xs, zs, e1, e2, SqT.of h1, SqT.of h2, hz,
  fun e => q.old (by rw [e]; exact h2), fun _ e => q.old (by rw [e, List.append_nil]; exact h1), fun _ _ => q.mk⟩
def rInF : R2 := fun x y H Q => ∃ p, y = .ref p ∧ ∃ o, H p = some o ∧ ∃ xs, sq o = some xs ∧ flatV x = true ∧ xs.all flatV = true ∧ Q (.bl (inV x xs)) H
theorem inF : OpR X (compareOp .In) rInF := opI' op_in_seq fun x y H Q ⟨p, e, o, ho, xs, hs, h1, h2, q⟩ => ⟨p, xs, e, sq_or ho hs, h1, h2, q⟩
def rNotInF : R2 := fun x y H Q => ∃ p, y = .ref p ∧ ∃ o, H p = some o ∧ ∃ xs, sq o = some xs ∧ flatV x = true ∧ xs.all flatV = true ∧ Q (.bl (!inV x xs)) H
theorem notInF : OpR X (compareOp .NotIn) rNotInF := opI' op_notIn_seq fun x y H Q ⟨p, e, o, ho, xs, hs, h1, h2, q⟩ => ⟨p, xs, e, sq_or ho hs, h1, h2, q⟩
/-- a reading, what is wanted behind it weakened -/
def mon (t : TE) : TE := fun σ H Q => ∃ Q0 : VK, t σ H Q0 ∧ ∀ v H', Q0 v H' → Q v H'
theorem pe_mon {e : Expr} {t : TE} (h : PE X e t) : PE X e (mon t) := ⟨fun pins s σ H Q I ⟨Q0, q, k⟩ => thn (h.run pins s σ H Q0 I q) fun _ _ ⟨v, H', I', r, q'⟩ => ⟨v, H', I', r, k v H' q'⟩⟩
def monA (t : TA) : TA := fun σ H Q => ∃ Q0 : List V → Hp → Prop, t σ H Q0 ∧ ∀ v H', Q0 v H' → Q v H'
theorem pa_mon {es : List Expr} {t : TA} (h : PA X es t) : PA X es (monA t) := ⟨fun pos pins s σ H Q I ⟨Q0, q, k⟩ => thn (h.run pos pins s σ H Q0 I q) fun _ _ ⟨v, H', I', r, q'⟩ => ⟨v, H', I', r, k v H' q'⟩⟩
theorem mon_of {t : TE} {σ : St} {H : Hp} {Q Q' : VK} (q : t σ H Q) (k : ∀ v H', Q v H' → Q' v H') : mon t σ H Q' := ⟨Q, q, k⟩
theorem monA_of {t : TA} {σ : St} {H : Hp} {Q Q' : List V → Hp → Prop} (q : t σ H Q) (k : ∀ v H', Q v H' → Q' v H') : monA t σ H Q' := ⟨Q, q, k⟩
def tTupF (t : TA) : TE := fun σ H Q => t σ H fun xs H1 => xs.length ≤ sizeLine ∧ newTup H1 xs fun p H' => Q (.ref p) H'
def tLstF (t : TA) : TE := fun σ H Q => t σ H fun xs H1 => xs.length ≤ sizeLine ∧ newAt H1 (.lst xs) fun p H' => Q (.ref p) H'
theorem pe_lstF {es : List Expr} {pos : Pos} {t : TA} (h : PA X es t) : PE X (.List es pos) (tLstF t) := peI (pe_lst (pa_mon h)) fun _ _ _ q => monA_of q fun _ _ q => q
theorem pe_tupF {es : List Expr} {x1} {pos : Pos} {t : TA} (h : PA X es t) : PE X (.Tuple es x1 pos) (tTupF t) := peI (pe_tup (pa_mon h)) fun _ _ _ q => monA_of q fun _ _ ⟨z, q⟩ => ⟨z, q.mk⟩
def tRevF (te : TE) : TE := fun σ H Q => te σ H fun x H1 => ∃ a, x = .ref a ∧ ∃ xs, H1 a = some (.lst xs) ∧ newAt H1 (.lst xs.reverse) fun p H' => Q (.ref p) H'
theorem pe_revF {e : Expr} {te : TE} {k : Nat} {p1 p2 p3 pos : Pos} (he : PE X e te) : PE X (.Subscript e (.Slice none none (some (.UnaryOp .USub (.Constant (.int 1) k p1) p2)) p3) pos) (tRevF te) :=
  peI (pe_revL (pe_mon he)) fun _ _ _ q => mon_of q fun _ _ ⟨a, e, xs, h, q⟩ => ⟨a, xs, e, SqL.of h, q⟩
/-- a method of a list -/
def tLM (r : V → List V → Hp → VK → Prop) (to : TE) (t : TA) : TE := fun σ H Q => to σ H fun x H1 => ∃ p, x = .ref p ∧ ∃ xs, H1 p = some (.lst xs) ∧ t σ H1 fun vs H2 => r x vs H2 Q
def rAppF : V → List V → Hp → VK → Prop := fun x vs H Q => ∃ l y, x = .ref l ∧ vs = [y] ∧ ∃ xs, H l = some (.lst xs) ∧ xs.length < sizeLine ∧ setAt H l (.lst (xs ++ [y])) fun H' => Q .non H'
theorem appF : MtR X "list.append" rAppF := fun pins s σ H x xs v us Q I rx rxs ⟨l, y, e1, e2, zs, h, hz, q⟩ => mt_append pins s σ H x xs v us Q I rx rxs ⟨l, zs, y, e1, e2, h, hz, q⟩
def rPopF : V → List V → Hp → VK → Prop := fun x vs H Q => ∃ l i, x = .ref l ∧ vs = [.int i] ∧ ∃ xs, H l = some (.lst xs) ∧ -(2 ^ 63) ≤ i ∧ i < 2 ^ 63 ∧ ∃ k, seqIndex? i xs.length = some k ∧ ∃ y, xs[k]? = some y ∧ setAt H l (.lst (xs.eraseIdx k)) fun H' => Q y H'
theorem popF : MtR X "list.pop" rPopF := fun pins s σ H x xs v us Q I rx rxs ⟨l, i, e1, e2, zs, h, h1, h2, k, hk, y, hy, q⟩ => mt_popAt pins s σ H x xs v us Q I rx rxs ⟨l, zs, i, k, y, e1, e2, h, h1, h2, hk, hy, q⟩
theorem tLM_of {K : PySem.W.Frag} {r : V → List V → Hp → VK → Prop} {to : TE} {t : TA} {σ : St} {H : Hp} {Q : VK} (q : tLM r to t σ H Q) : tBM K "list" r (mon to) t σ H Q :=
  mon_of q fun _ _ ⟨_, e, xs, h, q⟩ => by
    subst e
    exact ⟨.inl ⟨rfl, xs, SqL.of h⟩, q⟩
/-! dicts with int and text keys -/
def keyOf : V → Option Key
  | .int i => some (Sum.inl i)
  | .str x => some (Sum.inr x)
  | _ => none
theorem keyOf_kV {y : V} {k : Key} (h : keyOf y = some k) : y = kV k := by
  cases y <;> cases h <;> rfl
def tDGetF (td ty : TE) : TE := fun σ H Q => td σ H fun x H1 => ty σ H1 fun y H2 => ∃ a, x = .ref a ∧ ∃ kvs, H2 a = some (.dK kvs) ∧ ∃ k, keyOf y = some k ∧ ∃ v, valV kvs k = some v ∧ Q v H2
theorem pe_dgetF {o i : Expr} {pos : Pos} {td ty : TE} (hu : X.A.units + 1 < cLine) (ho : PE X o td) (hi : PE X i ty) (hs : NoSl i) : PE X (.Subscript o i pos) (tDGetF td ty) :=
  peI (pe_dget hu (pe_mon ho) (pe_mon hi) hs) fun _ _ _ q => mon_of q fun _ _ q => mon_of q fun _ _ ⟨a, e, kvs, hk, k, hy, v, hv, q⟩ => ⟨a, v, e, .inl ⟨kvs, k, .inl hk, keyOf_kV hy, hv.symm⟩, q⟩
def sDPutF (td ty tv : TE) : TS := fun D σ H => tv σ H fun v H1 => td σ H1 fun x H2 => ty σ H2 fun y H3 => ∃ a, x = .ref a ∧ ∃ kvs, H3 a = some (.dK kvs) ∧ ∃ k, keyOf y = some k ∧ kvs.length < sizeLine ∧ setAt H3 a (.dK (putK kvs k v)) fun H4 => D.nx σ H4
theorem ps_dputF {o i value : Expr} {pos pos' : Pos} {td ty tv : TE} (hu : X.A.units + 1 < cLine) (ho : PE X o td) (hi : PE X i ty) (hv : PE X value tv) (hs : swapsWith value (some (.Subscript o i pos')) pos.line X.env = pure false := by rfl) :
    PS X (.Assign [.Subscript o i pos'] value pos) (sDPutF td ty tv) :=
  psI (ps_dput hu (pe_mon ho) (pe_mon hi) (pe_mon hv) hs) fun _ _ _ q => mon_of q fun _ _ q => mon_of q fun _ _ q => mon_of q fun _ _ ⟨a, e, kvs, hk, k, hy, hl, q⟩ => ⟨a, _, e, .inl ⟨kvs, k, hk, keyOf_kV hy, hl, rfl⟩, q⟩
def keysOf : List (V × V) → Option (List (Key × V))
  | [] => some []
  | (x, v) :: r => (keyOf x).bind fun k => (keysOf r).map fun l => (k, v) :: l
theorem keysOf_is : ∀ {ps : List (V × V)} {kvs : List (Key × V)}, keysOf ps = some kvs → ps = kvs.map (fun kv => (kV kv.1, kv.2))
  | [], kvs, h => by
    cases h
    rfl
  | (x, v) :: r, kvs, h => by
    unfold keysOf at h
    cases e : keyOf x with
    | none => rw [e] at h; cases h
    | some k =>
      cases e2 : keysOf r with
      | none => rw [e, e2] at h; cases h
      | some l =>
        rw [e, e2] at h
        cases h
        rw [keyOf_kV e, keysOf_is e2]
        rfl
theorem tPairs_mon : ∀ {trs : List (TE × TE)} {σ : St} {H : Hp} {Q Q' : List (V × V) → Hp → Prop}, tPairs trs σ H Q → (∀ v H', Q v H' → Q' v H') → tPairs (trs.map fun p => (mon p.1, mon p.2)) σ H Q'
  | [], _, _, _, _, q, k => k _ _ q
  | (a, b) :: r, _, _, _, _, q, k => mon_of q fun _ _ q => mon_of q fun _ _ q => tPairs_mon q fun _ _ q => k _ _ q
def tDispF (trs : List (TE × TE)) : TE := fun σ H Q => newAt H (.dK []) fun p H1 => tPairs trs σ H1 fun ps H2 => H2 p = some (.dK []) ∧ ∃ kvs, keysOf ps = some kvs ∧ kvs.length ≤ 15 ∧ setAt H2 p (.dK (mergeK [] kvs)) fun H3 => Q (.ref p) H3
inductive PPm (X : Cx) (pos : Pos) : List (Option Expr) → List Expr → List (TE × TE) → Prop
  | nil : PPm X pos [] [] []
  | cons {k v : Expr} {ks : List (Option Expr)} {vs : List Expr} {tk tv : TE} {trs : List (TE × TE)} (hk : PE X k tk) (hv : PE X v tv) (hr : PPm X pos ks vs trs) : PPm X pos (some k :: ks) (v :: vs) ((tk, tv) :: trs)
theorem PPm.to {pos : Pos} {ks : List (Option Expr)} {vs : List Expr} {trs : List (TE × TE)} (h : PPm X pos ks vs trs) : PPs X pos ks vs (trs.map fun p => (mon p.1, mon p.2)) := by
  induction h with
  | nil => exact pps_nil
  | cons hk hv _ ih => exact pps_cons (pe_mon hk) (pe_mon hv) ih
theorem pe_dispF {pos : Pos} {keys : List (Option Expr)} {values : List Expr} {trs : List (TE × TE)} (h : PPm X pos keys values trs) (hall : keys.all (·.isSome) = true) (hl : keys.length = values.length) (h0 : keys ≠ []) (h15 : keys.length ≤ 15) : PE X (.Dict keys values pos) (tDispF trs) :=
  peI (pe_disp h.to hall hl h0 h15) fun _ _ _ q p hp => tPairs_mon (q p hp) fun _ _ ⟨h1, kvs, h2, h3, q⟩ => ⟨h1, kvs, keysOf_is h2, h3, q⟩
/-! fields of instances -/
def sFldF (K : PySem.W.Frag) (ta tv : TE) (f : Str) : TS := fun D σ H => tv σ H fun y H1 => ta σ H1 fun x H2 => ∃ a, x = .ref a ∧ ∃ C dx fs, H2 a = some (.ins C dx fs) ∧ Cls K C ∧ NoAttr K C f ∧ fs.length < 1000 ∧ setAt H2 a (.ins C dx (putF f y fs)) fun H3 => D.nx σ H3
theorem ps_fldF {o value : Expr} {f : Str} {pos pos' : Pos} {ta tv : TE} (ha : PE X o ta) (hv : PE X value tv) (hs : swapsWith value (some (.Attribute o f pos')) pos.line X.env = pure false := by rfl) : PS X (.Assign [.Attribute o f pos'] value pos) (sFldF X.K ta tv f) :=
  psI (ps_fld (pe_mon ha) (pe_mon hv) hs) fun _ _ _ q => mon_of q fun _ _ q => mon_of q fun _ _ ⟨a, e, C, dx, fs, h, h1, h2, h3, q⟩ => ⟨a, C, dx, fs, e, h, h1, h2, h3, q⟩
def tFldF (K : PySem.W.Frag) (ta : TE) (f : Str) : TE := fun σ H Q => ta σ H fun x H1 => ∃ a, x = .ref a ∧ ∃ C dx fs, H1 a = some (.ins C dx fs) ∧ Cls K C ∧ NoAttr K C f ∧ ∃ v, fs.lookup f = some v ∧ Q v H1
theorem pe_fldF {e : Expr} {f : Str} {pos : Pos} {ta : TE} (he : PE X e ta) (hb : attributeBase e f X.env (eval e X.env) = eval e X.env := by rfl) : PE X (.Attribute e f pos) (tFldF X.K ta f) :=
  peI (pe_fld (pe_mon he) hb) fun _ _ _ q => mon_of q fun _ _ ⟨a, e, C, dx, fs, h, h1, h2, v, hv, q⟩ => ⟨a, C, dx, fs, v, e, h, h1, h2, hv, q⟩
/-- xs[i] = e -/
def rSetF : TSet := fun o i v H Q => ∃ p k, o = .ref p ∧ i = .int k ∧ ∃ xs, H p = some (.lst xs) ∧ ∃ j, ixN xs.length k = some j ∧ setAt H p (.lst (xs.set j v)) Q
theorem setF : PSet X rSetF := fun pins s σ H o i v ov iv u Q I ro ri rv ⟨p, k, e1, e2, xs, h, j, hj, q⟩ => set_list pins s σ H o i v ov iv u Q I ro ri rv ⟨p, xs, k, j, e1, e2, h, hj, q⟩
end
theorem sz_le {n : Nat} (h : n ≤ 16777216) : n ≤ sizeLine := by rw [sizeLine_eq]; exact h
theorem sz_lt {n : Nat} (h : n < 16777216) : n < sizeLine := by rw [sizeLine_eq]; exact h
end Fab
set_option maxHeartbeats 4000000
/-! Defs whose promise is told where no repr runs around them. -/
namespace Fab
open PySem L2
open PyProof.Rows (envOfC)
theorem guards_deeper {A : Around} {env : Env} : (A.deeper env).guards = A.guards := by
  first | rfl | (unfold Around.deeper; rfl) | (cases A; simp [Around.deeper])
theorem guards_caller : callerA.guards = some [] := by first | rfl | decide | simp [callerA]
/-- a def keeps its promise where nothing is being told by repr -/
structure FnG (P : Program) (w : World) (K : PySem.W.Frag) (mg : Str → Option Value) (base : Heap) (CX : CXT) (k : Nat) (f : Addr) (fd : FuncData) (ps : List Str) (sp : Sp) : Prop where
  len : ∀ vs H Q E, sp vs H Q E → vs.length = ps.length
  run : ∀ (A : Around) (outer : List Env) (s : Shared) (H : Hp) (args : Args) (us : List Value) (vs : List V) (Q : VK) (E : XK), A.guards = some [] → Room k A → Env0 P w K mg base A outer s H → BindsTo s fd args (ps.zip us) → Vals vs us → sp vs H Q E →
    codeAny (model P w) A (.call (.ref f) args) (CR CX outer P w H s Q E) s
section
variable {P : Program} {w : World} {K : PySem.W.Frag} {mg : Str → Option Value} {base : Heap} {CX : CXT} {k : Nat} {f : Addr} {fd : FuncData} {ps : List Str} {sp : Sp}
theorem FnG.of (F : FnOk P w K mg base CX k f fd ps sp) : FnG P w K mg base CX k f fd ps sp := ⟨F.len, fun A outer s H args us vs Q E _ hr e hb hv h => F.run A outer s H args us vs Q E hr e hb hv h⟩
theorem FnG.mono {j : Nat} (F : FnG P w K mg base CX j f fd ps sp) (h : j ≤ k) : FnG P w K mg base CX k f fd ps sp := ⟨F.len, fun A outer s H args us vs Q E hg hr => F.run A outer s H args us vs Q E hg (hr.mono h)⟩
/-- the rule for such a def -/
theorem fnG {x qual : Str} {st : Stmt} {N : List Str} (F : Fun K x qual st f fd) (S : FnScope N ps (defScope st)) (len : ∀ vs H Q E, sp vs H Q E → vs.length = ps.length)
    (hbody : ∀ (cdv : Value) (A : Around) (outer : List Env) (s : Shared) (H : Hp) (vs : List V) (Q : VK) (E : XK), A.guards = some [] → Room k (A.deeper (envOfC qual (defScope st) s.heap.objs.size f cdv)) → sp vs H Q E →
      ∃ t, PSs (cxOf CX P w K mg base N qual (defScope st) f cdv A outer s H E) (defBody st) t ∧ t { nx := fun _ H' => Q .non H', rt := Q } (L2.start N vs) H) : FnG P w K mg base CX (k + 1) f fd ps sp := by
  obtain ⟨oc, od, kV, doc, pm, an, cdv, ct, osl, rfl, lk, hcd⟩ := F.ex
  exact ⟨len, fun A outer s H args us vs Q E hg hr e0 hb hv h => LamX.run_ofS lk hcd S hr e0 hb hv (len _ _ _ _ h) fun hr' => hbody cdv A outer s H vs Q E hg hr' h⟩
end
section
variable {X : Cx} {CX : CXT} {k : Nat} {f : Addr} {fd : FuncData} {ps : List Str} {sp : Sp} {ds : List Value} {dvs : List V} {E : XK} {x : Str} {p pos : Pos} {e : Expr} {es : List Expr} {t : TA}
theorem runG {pins : List (Addr × Obj)} {σ : St} {H : Hp} {s : Shared} {Q : VK} {us : List Value} {vs : List V} (F : FnG X.prog X.w X.K X.mg X.base CX k f fd ps sp) (hg : X.A.guards = some []) (hr : Room k X.A) (hb : Binds X.K fd ps ds) (hd : Vals dvs ds) (hx : Passes CX X E)
    (I : Inv X pins σ H s) (r : Vals vs us) (h : sp (vs ++ dvs) H Q E) : wpAny (model X.prog X.w) X.A (call (.ref f) us) (EP X pins σ Q) X.xe s := by
  have r2 := r.append hd
  have hl : (us ++ ds).length = ps.length := r2.length.symm.trans (F.len _ _ _ _ h)
  have go := F.run X.A X.stack s H ⟨us, []⟩ (us ++ ds) (vs ++ dvs) Q E hg hr I.env0 (hb s us I.kIn hl) r2 h
  refine wpAny_call (codeAny_mono go ?_)
  rintro (er | fl) s' hq
  · exact hx pins σ H s er s' I hq
  · cases fl
    case ret u => exact I.after hq
    all_goals exact False.elim hq
theorem pe_callG (F : FnG X.prog X.w X.K X.mg X.base CX k f fd ps sp) (hgd : X.A.guards = some []) (hr : Room k X.A) (hg : Gl X x) (hm : X.mg x = some (.ref f)) (hk : PySem.W.keepIn X.K (.ref f) = true) (hb : Binds X.K fd ps ds) (hd : Vals dvs ds) (hx : Passes CX X E) (ha : PA X (e :: es) t)
    (hdb : (x == ("__debug__" : Str)) = false := by decide) (he : starEach (e :: es) X.env = (false, eval e X.env) :: starEach es X.env := by rfl) (hpl : (backTo pos (starEach es X.env)).any (·.1) = false := by rfl) : PE X (.Call (.Name x p) (e :: es) [] pos) (tCall sp dvs E t) :=
  ⟨fun pins s σ H Q I h => wpAny_Call_Name_kw (ld_glob I hg hm
    (PySem.W.callWith_K (h₀ := X.base) I.ok.mod.kin hk (thn (ha.run pos pins s σ H _ I h) fun us s1 ⟨vs, H1, I1, r, q⟩ => ⟨I1.kIn, runG F hgd hr hb hd hx I1 r q⟩) he hpl) hdb)⟩
end
/-! ### repr of data -/
section
variable {X : Cx}
def rRepr (K : PySem.W.Frag) : List V → Hp → VK → Prop := fun xs H Q => ∃ x d, xs = [x] ∧ Dp K H x d ∧ d.showable = true ∧ d.hasDict = false ∧ d.depth ≤ 60 ∧ d.shown.length ≤ sizeLine ∧ Q (.str d.shown) H
theorem call_repr (hg : X.A.guards = some []) (hu : X.A.units + 64 < cLine) : CallR X (.builtin "repr") (rRepr X.K) := by
  intro pins s σ H xs us Q I r h
  obtain ⟨x, d, rfl, hd, hs, hn, hdp, hz, q⟩ := h
  obtain ⟨u, rfl, rx⟩ := vals1 r
  obtain ⟨as, rd⟩ := Dp.reads I d x u hd rx
  have key : wpAny (model X.prog X.w) X.A (call (.builtin "repr") [u]) (EP X pins σ Q) X.xe s := by
    cases hd with
    | non => cases rx; exact PySem.P.repr_of_none ⟨.str _, H, I.tok _, ⟨_, rfl⟩, q⟩
    | bl b => cases rx; exact PySem.P.repr_of_bool ⟨.str _, H, I.tok _, ⟨_, rfl⟩, q⟩
    | int i =>
      obtain ⟨t, rfl⟩ := rx
      exact PySem.P.repr_of_int (of_decide_eq_true hs) ⟨.str _, H, I.tok _, ⟨_, rfl⟩, q⟩
    | str y =>
      obtain ⟨t, rfl⟩ := rx
      exact PySem.P.repr_of_str ⟨.str _, H, I.tok _, ⟨_, rfl⟩, q⟩ hz
    | lst a b =>
      cases rx
      exact repr_of_reads' rd hs (PyData.noDict_hsm hn) hg (by omega) (fun _ _ z => z) (fun h' t tk kp => ⟨.str _, H, I.kept kp, ⟨_, rfl⟩, q⟩) hz
    | tup a b =>
      cases rx
      exact repr_of_reads' rd hs (PyData.noDict_hsm hn) hg (by omega) (fun _ _ z => z) (fun h' t tk kp => ⟨.str _, H, I.kept kp, ⟨_, rfl⟩, q⟩) hz
  exact key
end
end Fab
set_option maxHeartbeats 4000000
/-! The end of a law row: the law's promise where no repr runs, with the tables of its makers of lambdas. -/
namespace Fab
open PySem L2 LamX
open PySem.Spec PyProof.Rows
/-- an empty table; a list as it is handed in -/
abbrev oTab : Obj := { cls := .none, data := .fields #[] }
abbrev oLst (vs : List Value) : Obj := { cls := .type "list", data := .seq vs.toArray }
section
variable {P : Program} {w : World} {K : PySem.W.Frag} {mg mb : Str → Option Value} {CX : CXT} {k : Nat} {fa a : Addr} {cs : List (Addr × Addr)} {fd : FuncData} {x : Str} {sp : Sp} {s : Shared} {vs : List Value} {ns : List Int}
/-- what is tracked at the start -/
def H00 (K : PySem.W.Frag) (T : List Addr) (a : Addr) (vs : List Value) (ns : List Int) : Hp := fun b =>
  if b ∈ T then some (.tbl #[]) else if b = a ∧ K.lookup a = none then some (.frz (oLst vs) (.lst (ns.map V.int))) else none
theorem h00_case {T : List Addr} {b : Addr} {u : HO} (h : H00 K T a vs ns b = some u) : (b ∈ T ∧ u = .tbl #[]) ∨ (b ∉ T ∧ b = a ∧ K.lookup a = none ∧ u = .frz (oLst vs) (.lst (ns.map V.int))) := by
  unfold H00 at h
  by_cases h1 : b ∈ T
  · simp [h1] at h
    exact .inl ⟨h1, h.symm⟩
  · by_cases h2 : b = a ∧ K.lookup a = none
    · simp only [if_neg h1, if_pos h2] at h
      exact .inr ⟨h1, h2.1, h2.2, (Option.some.inj h).symm⟩
    · rw [if_neg h1, if_neg h2] at h
      cases h
theorem law_goG (KX : K.In s.heap) (hns : s.heap.Ns mainGlobals mg) (hb : s.heap.Ns builtinsNs mb) (hbb : ∀ x : Str, x ≠ "__name__" → mb x = bootBuiltins x) (hlim : s.heap.NoLimit) (hg : s.gens = #[])
    (hT : ∀ p ∈ cs, s.heap.get? p.2 = some oTab) (nT : ∀ p ∈ cs, K.lookup p.2 = none) (C : ∀ p ∈ cs, PySem.W.CodeHd s.heap p.1 p.2)
    (hbm : ∃ (bm : Addr) (ob : Obj), mg "__builtins__" = some (.ref bm) ∧ bm ≠ builtinsNs ∧ s.heap.get? bm = some ob ∧ ob.cls = .type "module" ∧ ob.dict = some builtinsNs ∧ ob.data = .plain)
    (ha : s.heap.get? a = some (oLst vs)) (hi : IntsAre vs ns) (hl : ns.length ≤ sizeLine) (hr : Room k callerA)
    (F : ∀ base : Heap, K.In base → base.Ns mainGlobals mg → (∀ p ∈ cs, TabB base mg p.1 p.2) → FnG P w K mg base CX k fa fd [x] sp) (hbind : ∀ (s : Shared) (u : Value), BindsTo s fd ⟨[u], []⟩ [(x, u)])
    (hsp : ∀ H : Hp, (∀ p ∈ cs, H p.2 = some (.tbl #[])) → SqL K H a (ns.map V.int) → sp [.ref a] H (fun v _ => v = .bl true) fun _ _ _ => False)
    (hCX : ∀ H e s', CX [] H s (fun _ _ _ => False) e s' → False) :
    codeAny (model P w) callerA (.call (.ref fa) ⟨[.ref a], []⟩) (fun r s' => r = .ok (.ret (.bool true)) ∧ OldK s.heap s'.heap ∧ s'.os = s.os ∧ AllBare s'.gens) s := by
  have rv := vals_ints hi
  obtain ⟨T, eT⟩ : ∃ T, T = cs.map (·.2) := ⟨_, rfl⟩
  have inT : ∀ p ∈ cs, p.2 ∈ T := fun p hp => by
    rw [eT]
    exact List.mem_map_of_mem hp
  have atT : ∀ b ∈ T, s.heap.get? b = some oTab ∧ K.lookup b = none := fun b hb => by
    rw [eT] at hb
    obtain ⟨p, hp, rfl⟩ := List.mem_map.mp hb
    exact ⟨hT p hp, nT p hp⟩
  have aT : a ∉ T := fun z => by
    have q := (atT a z).1
    rw [ha] at q
    cases q
  obtain ⟨H, eH⟩ : ∃ H, H = H00 K T a vs ns := ⟨_, rfl⟩
  have cH : ∀ {b : Addr} {u : HO}, H b = some u → (b ∈ T ∧ u = .tbl #[]) ∨ (b ∉ T ∧ b = a ∧ K.lookup a = none ∧ u = .frz (oLst vs) (.lst (ns.map V.int))) := fun {b u} h => by
    rw [eH] at h
    exact h00_case h
  have tabH : ∀ b ∈ T, H b = some (.tbl #[]) := fun b hb => by
    rw [eH]
    unfold H00
    rw [if_pos hb]
  -- what is no table and no list is not tracked
  have free : ∀ {b : Addr} {o : Obj}, s.heap.get? b = some o → o ≠ oTab → o ≠ oLst vs → H b = none := fun {b o} e h1 h2 => by
    cases q : H b with
    | none => rfl
    | some u =>
      rcases cH q with ⟨z, _⟩ | ⟨_, z, _, _⟩
      · rw [(atT b z).1] at e
        exact absurd (Option.some.inj e).symm h1
      · rw [z, ha] at e
        exact absurd (Option.some.inj e).symm h2
  have lay : ∀ {b : Addr} {o : Obj}, s.heap.get? b = some o → o ≠ oTab → o ≠ oLst vs → (hidT s.heap H).get? b = some o := fun e h1 h2 => hidT_get e (free e h1 h2)
  have nsB : ∀ {b : Addr} {m : Str → Option Value}, s.heap.Ns b m → (hidT s.heap H).Ns b m := fun ⟨o, es, ep, e, d, r⟩ =>
    ⟨o, es, ep, lay e (fun z => by rw [z] at d; cases d) (fun z => by rw [z] at d; cases d), d, r⟩
  have KB : K.In (hidT s.heap H) := fun b o e => by
    refine hidT_get (KX b o e) ?_
    cases q : H b with
    | none => rfl
    | some u =>
      rcases cH q with ⟨z, _⟩ | ⟨_, z, z2, _⟩
      · rw [(atT b z).2] at e
        cases e
      · rw [z, z2] at e
        cases e
  have hM : L2.Mod K mg (hidT s.heap H) := ⟨KB, nsB hns, ⟨mb, nsB hb, hbb⟩, hlim.elim fun mc h => ⟨mc, nsB h.1, h.2⟩⟩
  have ok : HOk P w H s.heap := fun b u q => by
    rcases cH q with ⟨z, rfl⟩ | ⟨_, rfl, _, rfl⟩
    · exact (atT b z).1
    · exact ⟨ha, by rw [List.length_map]; exact hl, vs, _, rv, ha⟩
  have e0 : Env0 P w K mg (hidT s.heap H) callerA [] s H := ⟨rfl, hM, fun b o e => of_hidT e, Nat.le_of_eq (hidT_size _ _), trivial, fun b hb => absurd (show b ∈ ([] : List Addr) from hb) (by simp), ok, .of_eq hg⟩
  have TB : ∀ p ∈ cs, TabB (hidT s.heap H) mg p.1 p.2 := fun p hp => by
    refine ⟨?_, ?_, fun z => ?_⟩
    · obtain ⟨o, us, file, tf, flags, tg, inF, text, tt, e1, r1, r2, r⟩ := C p hp
      exact ⟨o, us, file, tf, flags, tg, inF, text, tt, lay e1 (fun z => by rw [z] at r1; cases r1) (fun z => by rw [z] at r2; cases r2), r1, r2, r⟩
    · obtain ⟨bm, ob, b1, b2, b3, b4, b5, b6⟩ := hbm
      refine ⟨bm, ob, b1, b2, fun q => ?_, fun q => ?_, lay b3 (fun z => by rw [z] at b4; cases b4) (fun z => by rw [z] at b6; cases b6), b4, b5, b6⟩
      · obtain ⟨o, es, ep, e, hd, _⟩ := hns
        rw [q, e] at b3
        cases b3
        rw [hd] at b6
        cases b6
      · rw [q, hT p hp] at b3
        cases b3
        cases b6
    · obtain ⟨o, es, ep, e, hd, _⟩ := hns
      rw [z, hT p hp] at e
      cases e
      cases hd
  have hS : SqL K H a (ns.map V.int) := by
    cases hk : K.lookup a with
    | none =>
      refine .inl (.inr ⟨oLst vs, ?_⟩)
      rw [eH]
      unfold H00
      rw [if_neg aT, if_pos ⟨rfl, hk⟩]
    | some o =>
      have e := KX a o hk
      rw [ha] at e
      cases e
      exact .inr ⟨_, vs.toArray, _, hk, rfl, rfl, rfl, by rw [List.size_toArray, hi.length]; exact hl, by simpa using rv⟩
  refine codeAny_mono ((F _ KB (nsB hns) TB).run callerA [] s H ⟨[.ref a], []⟩ [.ref a] [.ref a] _ _ guards_caller hr e0 (hbind s (.ref a)) (.cons rfl .nil) (hsp H (fun p hp => tabH _ (inT p hp)) hS)) ?_
  rintro (e | fl) s' h
  · exact (hCX H e s' h).elim
  · cases fl
    case ret u =>
      obtain ⟨v, H', os, bare, un, ok', r', q⟩ := h
      have q' : v = .bl true := q
      subst q'
      obtain rfl : u = Value.bool true := r'
      have no : ∀ b : Addr, b ∉ frs ([] : List Env) := fun b z => absurd (show b ∈ ([] : List Addr) from z) (by simp)
      have kept : ∀ b o, b ∉ T → s.heap.get? b = some o → s'.heap.get? b = some o := fun b o nb e => by
        cases q : H b with
        | none => exact un.keep b o e q (no b) (by simp)
        | some u =>
          rcases cH q with ⟨z, _⟩ | ⟨_, _, _, rfl⟩
          · exact absurd z nb
          · have e1 := (ok b _ q).1
            have e2 := (ok' b _ (un.frzs b _ _ q)).1
            rw [e] at e1
            cases e1
            exact e2
      have grown : ∀ b ∈ T, ∃ more : Array Value, s'.heap.get? b = some { cls := .none, data := .fields more } := fun b hb => by
        obtain ⟨more, z⟩ := un.tbls b #[] (tabH b hb)
        exact ⟨_, ok' b _ z⟩
      refine ⟨rfl, ⟨fun b o e => ?_, fun b o e => ?_⟩, os, bare⟩
      · by_cases hbT : b ∈ T
        · obtain ⟨more, hm⟩ := grown b hbT
          have hbT' := hbT
          rw [eT] at hbT'
          obtain ⟨p, hp, ep⟩ := List.mem_map.mp hbT'
          have e' := (atT b hbT).1
          rw [e] at e'
          cases e'
          subst ep
          exact .inr (.inl ⟨((C p hp).tab (hT p hp)).isCodeTable, rfl, #[], more, rfl, by rw [Array.empty_append]; exact hm⟩)
        · exact .inl (kept b o hbT e)
      · by_cases hbT : b ∈ T
        · obtain ⟨more, hm⟩ := grown b hbT
          exact ⟨_, hm⟩
        · exact ⟨o, kept b o hbT e⟩
    all_goals exact False.elim h
/-- what the law's text must give -/
def LawG (l : PySem.W.OpenLaw) (w : World) (K : PySem.W.Frag) (CX : CXT) (k n : Nat) (x : Str) (mg : Str → Option Value) (fa : Addr) (h : Heap) : Prop :=
  ∃ (fd : FuncData) (cs : List (Addr × Addr)) (sp : Sp), (∀ p ∈ cs, h.get? p.2 = some oTab) ∧ (∀ p ∈ cs, K.lookup p.2 = none) ∧ (∀ p ∈ cs, PySem.W.CodeHd h p.1 p.2) ∧ (∀ (s : Shared) (u : Value), BindsTo s fd ⟨[u], []⟩ [(x, u)]) ∧
    (∀ (H : Hp) (a : Addr) (ns : List Int), ns.length ≤ n → (∀ p ∈ cs, H p.2 = some (.tbl #[])) → SqL K H a (ns.map V.int) → sp [.ref a] H (fun v _ => v = .bl true) fun _ _ _ => False) ∧
    ∀ base : Heap, K.In base → base.Ns mainGlobals mg → (∀ p ∈ cs, TabB base mg p.1 p.2) → FnG l.prog w K mg base CX k fa fd [x] sp
def TabOf (q : Program) (K : PySem.W.Frag) (h : Heap) : Prop := ∀ (d : DefRec) (x : Str) (c P : Addr), (recsOf q).find? (fun e => e.name == x) = some d → PySem.W.tabIn K x = some (c, P) → PySem.W.CodeHd h c P ∧ h.get? P = some oTab
theorem walkG {l : PySem.W.OpenLaw} {n k : Nat} {q : Program} {loose : List Str} {XP : (Str → Option Value) → Heap → Prop} {YP : World → Heap → Prop} {d : DefRec} {K : Params → PySem.W.Frag} {CX : World → CXT} {x : Str}
    (hn : l.most = some n) (hn2 : n ≤ sizeLine) (hdf : d.params.defaults = []) (hr : Room k callerA) (hY : ∀ (w : World) (h : Heap), YP w h → (K w.params).In h)
    (F : ∀ (w : World) (mg : Str → Option Value) (fa : Addr) (h : Heap), YP w h → (K w.params).In h → TabOf q (K w.params) h → h.Ns mainGlobals mg → mg d.name = some (.ref fa) → LawG l w (K w.params) (CX w) k n x mg fa h)
    (hCX : ∀ (w : World) (H : Hp) (s : Shared) (e : Value) (s' : Shared), CX w [] H s (fun _ _ _ => False) e s' → False) : PySem.W.WalkO q loose XP YP l.row.toRowW d [] (fun f vs => PySem.call f vs) :=
  Att.attach_callB hn hdf fun w s₀ s₁ mg mb fa o pm cd doc a vs ns G Y ho hd hcd hmg hobj hints hlen hbits hg => by
    have KX := hY w _ Y
    obtain ⟨fd, cs, sp, hT, nT, C, hb, hsp, hF⟩ := F w mg fa _ Y KX (fun d x c P hr ht => PySem.W.tab_of G.T KX hr ht) G.T.g hmg
    exact law_goG KX G.T.g G.T.b G.T.builtins G.T.nolimit hg hT nT C G.T.bmain hobj hints (Nat.le_trans hlen hn2) hr hF hb (fun H hH hS => hsp H a ns hlen hH hS) fun H e s' => hCX w H s₁ e s'
end
end Fab
set_option maxHeartbeats 4000000
/-! Own exceptions over any built-in base, made by an __init__ that calls its base's and stores one field. -/
namespace PySem
namespace FabX
open PySem.W PySem.Calls PyProof.Rows PySem.HandSPX
open Builtin Builtin.ObjectAttr
/-- a built-in exception class below own ones -/
structure EBase (B newId initId : String) (bmB : List Value) : Prop where
  F : ExcBaseFacts B newId initId bmB
  S : StoreFacts B bmB "object.__setattr__" "object"
  ob : bmB.contains (.type "object") = true
  ne : bmB ≠ []
theorem EBase.nonempty {B newId initId : String} {bmB : List Value} (b : EBase B newId initId bmB) {l : List Value} (h : excTail bmB l = true) : l.isEmpty = false := by
  rcases excTail_cases l h with ⟨c, r, rfl, _⟩ | rfl
  · rfl
  · cases l with
    | nil => exact absurd rfl b.ne
    | cons _ _ => rfl
theorem eb_value : EBase "ValueError" "ValueError.__new__" "ValueError.__init__" [.type "ValueError", .type "Exception", .type "BaseException", .type "object"] := ⟨F.excBase_ValueError, F.store_ValueError, by decide, by decide⟩
theorem eb_over : EBase "OverflowError" "OverflowError.__new__" "OverflowError.__init__" [.type "OverflowError", .type "ArithmeticError", .type "Exception", .type "BaseException", .type "object"] := ⟨F.excBase_OverflowError, F.store_OverflowError, by decide, by decide⟩
section
variable {prog : Program} {w : World} {A : Around} {E : Value → Shared → Prop} {R : Result → Shared → Prop} {hp : Heap} {g : Array GenState} {d : Drawn} {t : Nat} {os : OsState} {B newId initId : String} {bmB : List Value}
/-- the first field of a fresh exception is set -/
theorem osa_first (b : EBase B newId initId bmB) {K : W.Frag} {name : Str} {tk : Tok} {v : Value} {x C : Addr} {fv : Array Value} {cd : ClassData} (X : K.In hp) (hx : hp.get? x = some { cls := .ref C, data := .fields fv }) (hcd : W.clsIn K C = some cd)
    (hm : excTail bmB cd.mro = true) (hh : cd.hasDict = true) (ha : W.findIn K (.ref C) name = some none)
    (hq : ∀ h' tk' dx, (∀ c o, c ≠ x → hp.get? c = some o → h'.get? c = some o) → hp.objs.size ≤ dx → dx ≠ x → h'.get? x = some { cls := .ref C, dict := some dx, data := .fields fv } → h'.Ns1 dx (fun y => if y = name then some v else none) →
      R (.ok (.ret .none)) ⟨h', g, d, tk', os⟩) : codeAny (model prog w) A (.call (.builtin "object.__setattr__") ⟨[.ref x, .str name tk, v], []⟩) R ⟨hp, g, d, t, os⟩ := by
  have I : W.InstAt hp x { cls := .ref C, data := .fields fv } C none := ⟨hx, rfl, rfl, trivial⟩
  have hnew : x ≠ hp.objs.size := Nat.ne_of_lt (Heap.lt_size hx)
  have hsub : W.Looks (model prog w) hp (isInstance (.ref x) (.type "object")) true := I.type.andThen (W.looks_mroIn X (by
    unfold W.mroIn
    rw [hcd, Option.bind_some, if_neg (by rw [b.nonempty hm]; decide), excTail_contains "object" _ hm, b.ob]))
  refine codeAny_call_builtin F.store_object.slot.plain F.store_object.entry (@W.check_slot (model prog w) _ _ ⟨hp, g, d, t, os⟩ "object.__setattr__" "object" "__setattr__" (.ref x) [.str name tk, v] [] _ F.store_object.kind F.store_object.split hsub
    (F.store_object.args (.ref x) (.str name tk) v) ?_)
  have hmro : W.Looks (model prog w) hp (mroOf (.ref C)) cd.mro := (W.looks_clsIn X hcd).andThen .now
  rw [W.osa_eq, refuse_eq]
  refine wpAny_bind (wpAny_bind (I.type.at (wpAny_bind (hmro.at ?_))))
  rw [excTail_pass (.ref x) (b.S.passes (.ref x)) cd.mro hm]
  refine wpAny_pure (wpAny_bind (I.type.at (wpAny_bind ((W.looks_findIn X ha).at (wpAny_bind ((show W.Looks (model prog w) hp (storeTaker? none) none from .now).at ?_))))))
  show wpAny _ _ (storeInOwnDict (.ref x) (.ref C) (.str name tk) name v false) _ _ _
  have hcl : W.Looks (model prog w) hp (classData C) cd := W.looks_clsIn X hcd
  obtain ⟨nm, bs, mro, ns, qn, hd, sn, sb, ab, col, del⟩ := cd
  obtain rfl : hd = true := hh
  unfold storeInOwnDict ownDictForStores
  repeat (first | with_reducible refine store_in_new ?_ ?_ | with_reducible refine wpAny_loadPart_at hx ?_ | with_reducible refine hcl.at ?_ | wp_step)
  · exact ⟨_, #[], _, (Heap.get?_update_ne _ _ _ _ hnew.symm).trans (Heap.get?_push_at rfl rfl), rfl, (fun e he => absurd he (by simp)), fun _ => rfl⟩
  · intro h' tk' hn hs
    refine hq h' tk' hp.objs.size (fun c o hc ho => ?_) (Nat.le_refl _) hnew.symm ?_ hn
    · rw [hs.2 c (Nat.ne_of_lt (Heap.lt_size ho)), Heap.get?_update_ne _ _ _ _ hc]
      exact Heap.get?_push_of_some _ ho
    · rw [hs.2 x hnew]
      exact Heap.get?_update_self _ (Heap.get?_push_of_some _ hx) rfl
end
end FabX
end PySem

namespace Fab
open PySem L2 PySem.Spec PyProof.Rows PySem.FabX
/-- what the written part says of an own exception class over B -/
structure XCls (newId : String) (bmB : List Value) (K : PySem.W.Frag) (C : Addr) : Prop where
  cls : ∃ nm q N bs bm sn sub ab col dd k0 k1 k2 k3 k5, K.lookup C = some (excClassObj nm q C N bs bm true sn sub ab col dd k0 k1 k2 k3 k5 newId) ∧ PySem.W.excTail bmB bm = true
  sa : PySem.W.findIn K (.ref C) "__setattr__" = some (some (.builtin "object.__setattr__"))
  exC : PySem.W.subIn K (.ref C) (.type "BaseException") = some true
  tyC : PySem.W.typeIn K (.ref C) = some (.type "type")
  kC : PySem.W.keepIn K (.ref C) = true
section
variable {X : Cx} {pins : List (Addr × Obj)} {σ : L2.St} {H : Hp} {s : Shared} {a C dx : Addr} {f : Str} {y : V} {u : Value} {B newId initId : String} {bmB : List Value}
theorem clsIn_of {K : PySem.W.Frag} {nm q : Str} {N : Addr} {bs bm : List Value} {sn : List Str} {sub : List Value} {ab : Bool} {col : Option Bool} {dd : Option Addr} {k0 k1 k2 k3 k5 : Option Value} (h : K.lookup C = some (excClassObj nm q C N bs bm true sn sub ab col dd k0 k1 k2 k3 k5 newId)) :
    PySem.W.clsIn K C = some { name := nm, bases := bs, mro := .ref C :: bm, ns := N, qualname := q, hasDict := true, slotNames := sn, subclasses := sub, abstract := ab, collection := col, hasDel := false } := by
  unfold PySem.W.clsIn
  rw [h]
  all_goals rfl
/-- self.f = y on a fresh exception -/
theorem xst_first (b : EBase B newId initId bmB) (T : XCls newId bmB X.K C) (I : Inv X pins σ H s) (e : H a = some (exo a C none)) (hno : PySem.W.findIn X.K (.ref C) f = some none) (ry : RelV y u) {Q : Unit → Shared → Prop} {E : Value → Shared → Prop} {A : Around}
    (h : ∀ dx s', H dx = none → dx ≠ a → Inv X pins σ (upd (upd H dx (exd dx [(f, y)])) a (exo a C (some dx))) s' → Q () s') : wpAny (model X.prog X.w) A (setAttr (.ref a) f u) Q E s := by
  obtain ⟨nm, q, N, bs, bm, sn, sub, ab, col, dd, k0, k1, k2, k3, k5, hC, hbm⟩ := T.cls
  obtain ⟨t1, ho⟩ := exo_at I.hok e
  obtain ⟨hp, g, d, t, os⟩ := s
  refine PySem.W.set_plain I.kIn (ox := { cls := .ref C, dict := none, data := .fields #[.ref t1, .none, .none, .none, .bool false, .none] }) (od := none) ⟨ho, rfl, rfl, trivial⟩ T.sa ?_
  refine osa_first b I.kIn ho (clsIn_of hC) (show PySem.W.excTail bmB (.ref C :: bm) = true from hbm) rfl hno fun h' tk' dx k dn dne hx hn => ?_
  have nH : H dx = none := I.hok.fresh dn
  have apart : ∀ {c : Addr} {o : Obj}, hp.get? c = some o → c ≠ dx := fun z => Nat.ne_of_lt (Nat.lt_of_lt_of_le (Heap.lt_size z) dn)
  have nota : ∀ {c : Addr}, H c = none → c ≠ a := fun n z => by
    rw [z, e] at n
    cases n
  have at_ : ∀ {c : Addr} {o : HO}, H c = some o → exo a C none ≠ o → upd (upd H dx (exd dx [(f, y)])) a (exo a C (some dx)) c = some o := fun {c o} z ne => by
    rw [upd_ne (at_ne e z ne), upd_ne (ne_of_none z nH)]
    exact z
  refine h dx _ nH dne (I.un (t' := tk') ⟨fun c o z n _ _ => k c o (nota n) z, fun c o z n _ _ => ⟨o.slots, k c o (nota n) z⟩, fun c o z n _ => by rw [upd_ne (nota n), upd_ne (apart z)]; exact n, fun c o z _ => ?_, fun c xs z => at_ z exo_tup, fun c o v z => at_ z exo_frz,
    fun c ps z => ⟨#[], by rw [at_ z exo_tbl]; simp⟩⟩ fun c o z => ?_)
  · by_cases hc : c = a
    · exact ⟨_, by rw [hc]; exact hx⟩
    · exact ⟨o, k c o hc z⟩
  · by_cases hc : c = a
    · subst hc
      rw [upd_same] at z
      cases z
      exact exo_ok hx
    · rw [upd_ne hc] at z
      by_cases hd : c = dx
      · subst hd
        rw [upd_same] at z
        cases z
        exact exd_ok hn (relO_put (fs := []) ry fun g => True.intro)
      · rw [upd_ne hd] at z
        refine (I.hok c o z).stay (fun b v hb w => k b v ?_ w) (fun b w => at_ w exo_own) (fun b xs w => at_ w exo_tup)
        rcases hb with rfl | hb
        · exact hc
        · exact at_ne e hb exo_own
/-- B.__init__(self, ..) -/
theorem xinit_ok (b : EBase B newId initId bmB) {us : List Value} {Q : Value → Shared → Prop} {E : Value → Shared → Prop} {A : Around} (T : XCls newId bmB X.K C) (I : Inv X pins σ H s) (e : H a = some (exo a C none)) (hl : us.length ≤ sizeLine) (h : ∀ s', Inv X pins σ H s' → Q .none s') :
    wpAny (model X.prog X.w) A (call (.builtin initId) (.ref a :: us)) Q E s := by
  obtain ⟨nm, q, N, bs, bm, sn, sub, ab, col, dd, k0, k1, k2, k3, k5, hC, hbm⟩ := T.cls
  obtain ⟨t1, ho⟩ := exo_at I.hok e
  obtain ⟨hp, g, d, t, os⟩ := s
  refine wpAny_call (PySem.HandSPX.init_base b.F (fun Y => PySem.W.excTail_contains Y bm hbm) (I.kIn _ _ hC) ho hl fun h' t2 k hx => h _ ?_)
  have J := I.write (t' := t) (x := a) (e := a) (o := exo a C none) (by rw [e]; exact True.intro) (.inl rfl) k ⟨_, hx⟩ (exo_ok hx)
  have same : upd H a (exo a C none) = H := by
    funext c
    by_cases hc : c = a
    · rw [hc, upd_same, e]
    · rw [upd_ne hc]
  rw [same] at J
  exact J
end
/-! ### readings and rules -/
/-- BASE.__init__(self, ..) -/
def tXi (newId : String) (bmB : List Value) (K : PySem.W.Frag) (ta : TA) : TE := fun σ H Q => ta σ H fun vs H1 => ∃ (a C : Addr) (ws : List V), vs = .ref a :: ws ∧ ws.length ≤ 1000 ∧ XCls newId bmB K C ∧ H1 a = some (exo a C none) ∧ Q .non H1
/-- self.f = e -/
def tXst (newId : String) (bmB : List Value) (K : PySem.W.Frag) (f : Str) (to te : TE) : TS := fun D σ H => te σ H fun y H1 => to σ H1 fun x H2 => ∃ a C : Addr, x = .ref a ∧ XCls newId bmB K C ∧ PySem.W.findIn K (.ref C) f = some none ∧ H2 a = some (exo a C none) ∧
  ∀ dx, H2 dx = none → dx ≠ a → D.nx σ (upd (upd H2 dx (exd dx [(f, y)])) a (exo a C (some dx)))
section
variable {X : Cx} {o e : Expr} {es : List Expr} {to te : TE} {ta : TA} {f x : Str} {p p' p1 p2 pos : Pos} {B newId initId : String} {bmB : List Value} {CB : Addr}
/-- the base is an own class -/
theorem pe_xiC (b : EBase B newId initId bmB) {pl : Sem Bool} (hg : Gl X x) (hm : X.mg x = some (.ref CB)) (gi : PySem.W.specialIn X.K (.ref CB) "__getattribute__" = some (some (.builtin "type.__getattribute__"))) (rd : PySem.W.readsIn X.K CB (.type "type") = true)
    (fi : PySem.W.findCls X.K (.ref CB) (.type "type") "__init__" = some (.val (.builtin initId))) (hh : PySem.W.handedIn (.builtin initId) = true) (ha : PA X (e :: es) ta) (hc : eval (.Call (.Attribute (.Name x p1) "__init__" p2) (e :: es) [] pos) X.env = (do
      let ov ← eval (.Name x p1) X.env
      standAt p2.atName
      let (f, first) ← holding [ov] (getMethod ov "__init__" pl)
      callWith pos f first (backTo pos (starEach (e :: es) X.env)) (backToKw pos (keywordEach [] X.env))) := by rfl)
    (hdb : (x == ("__debug__" : Str)) = false := by decide) (he : starEach (e :: es) X.env = (false, eval e X.env) :: starEach es X.env := by rfl) (hpl : (backTo pos (starEach es X.env)).any (·.1) = false := by rfl) :
    PE X (.Call (.Attribute (.Name x p1) "__init__" p2) (e :: es) [] pos) (tXi newId bmB X.K ta) := by
  refine ⟨fun pins s σ H Q I h => PySem.W.methodCall_KW (ld_glob I hg hm ?_ hdb) hc⟩
  refine PySem.W.method_cls I.kIn gi (PySem.W.cls_value I.kIn rd fi hh ?_)
  refine PyProof.Rows.callWith_method1 (thn (ha.run pos pins _ σ H _ (I.tok _) h) fun us s1 ⟨vs, H1, I1, r1, a, C, ws, ev, hl, T, ea, q⟩ => ?_) he hpl
  subst ev
  cases r1 with
  | @cons _ u0 _ ur ra rw' =>
    obtain rfl : u0 = Value.ref a := ra
    exact xinit_ok b T I1 ea (by rw [← Paired.length rw', sizeLine_eq]; omega) fun s' J => ⟨.non, H1, J, rfl, q⟩
/-- the base is a built-in class -/
theorem pe_xiT (b : EBase B newId initId bmB) {pl : Sem Bool} (hg : Gl X x) (hm : X.mg x = none) (hv : bootBuiltins x = some (.type B)) (ht : typeOf (.type B) = pure (.type "type")) (hst : Manifest.isStub B = false)
    (fi : PySem.W.findCls X.K (.type B) (.type "type") "__init__" = some (.val (.builtin initId))) (hh : PySem.W.handedIn (.builtin initId) = true) (ha : PA X (e :: es) ta) (hc : eval (.Call (.Attribute (.Name x p1) "__init__" p2) (e :: es) [] pos) X.env = (do
      let ov ← eval (.Name x p1) X.env
      standAt p2.atName
      let (f, first) ← holding [ov] (getMethod ov "__init__" pl)
      callWith pos f first (backTo pos (starEach (e :: es) X.env)) (backToKw pos (keywordEach [] X.env))) := by rfl)
    (hn : x ≠ "__name__" := by decide) (hdb : (x == ("__debug__" : Str)) = false := by decide) (he : starEach (e :: es) X.env = (false, eval e X.env) :: starEach es X.env := by rfl) (hpl : (backTo pos (starEach es X.env)).any (·.1) = false := by rfl) :
    PE X (.Call (.Attribute (.Name x p1) "__init__" p2) (e :: es) [] pos) (tXi newId bmB X.K ta) := by
  refine ⟨fun pins s σ H Q I h => PySem.W.methodCall_KW (ld_blt I hg hm hv ?_ hn hdb) hc⟩
  obtain ⟨m, fr⟩ := I.fr
  refine PySem.W.method_type fr I.ok.mod.kin ht hst fi hh ?_
  refine PyProof.Rows.callWith_method1 (thn (ha.run pos pins _ σ H _ (I.tok _) h) fun us s1 ⟨vs, H1, I1, r1, a, C, ws, ev, hl, T, ea, q⟩ => ?_) he hpl
  subst ev
  cases r1 with
  | @cons _ u0 _ ur ra rw' =>
    obtain rfl : u0 = Value.ref a := ra
    exact xinit_ok b T I1 ea (by rw [← Paired.length rw', sizeLine_eq]; omega) fun s' J => ⟨.non, H1, J, rfl, q⟩
theorem ps_xst (b : EBase B newId initId bmB) (ho : PE X o to) (he : PE X e te) (hs : swapsWith e (some (.Attribute o f p')) pos.line X.env = pure false := by rfl) : PS X (.Assign [.Attribute o f p'] e pos) (tXst newId bmB X.K f to te) := by
  refine ⟨fun pins s σ H D I h => plainObj_wpAny_Assign_Attribute (thn (he.run pins s σ H _ I h) fun v s1 ⟨y, H1, I1, r1, q1⟩ => thn (ho.run pins s1 σ H1 _ I1 q1) fun u s2 ⟨x, H2, I2, r2, a, C, ex, T, hno, ea, q⟩ => ?_) hs⟩
  subst ex
  obtain rfl : u = Value.ref a := r2
  exact xst_first b T I2 ea hno r1 fun dx s' n ne J => ⟨σ, _, J, q dx n ne⟩
/-- what the making of C(e, ..) leaves, told to a wish q; a: the exception, d: its own dict -/
theorem make_run {CX : CXT} {C fI : Addr} {k : Nat} {fd : FuncData} {ps : List Str} {sp : Sp} {pins : List (Addr × Obj)} {σ : L2.St} {H : Hp} {s : Shared} {us : List Value} {vs : List V} {Qv E : Value → Shared → Prop} (b : EBase B newId initId bmB) (T : XCls newId bmB X.K C)
    (iC : PySem.W.findIn X.K (.ref C) "__init__" = some (some (.ref fI))) (tI : PySem.W.typeIn X.K (.ref fI) = some (.type "function")) (F : FnOk X.prog X.w X.K X.mg X.base CX k fI fd ps sp) (hr : Room (k + 1) X.A) (hb : Binds X.K fd ps [])
    (hx : ∀ H s e s', ¬ CX X.stack H s (fun _ _ _ => False) e s') (I : Inv X pins σ H s) (r : Vals vs us) (hz : vs.length ≤ 1000) {Q : Addr → Hp → Prop}
    (h : ∀ a, H a = none → sp (.ref a :: vs) (upd H a (exo a C none)) (fun v H2 => v = .non ∧ Q a H2) (fun _ _ _ => False))
    (k1 : ∀ (a : Addr) (H2 : Hp) (hp2 : Heap) (s' : Shared), s.heap.objs.size ≤ a → (∀ b o, s.heap.get? b = some o → hp2.get? b = some o) → Un (frs X.stack) [] (upd H a (exo a C none)) H2 hp2 s'.heap → HOk X.prog X.w H2 s'.heap → s'.os = s.os → AllBare s'.gens → Q a H2 → Qv (.ref a) s') :
    wpAny (model X.prog X.w) X.A (call (.ref C) us) Qv E s := by
  obtain ⟨nm, q, N, bs, bm, sn, sub, ab, col, dd, k0, k1', k2, k3, k5, hC, hbm⟩ := T.cls
  obtain ⟨hp, g, dr, tk, os⟩ := s
  have new : H (hp.objs.size + 1) = none := I.hok.fresh (Nat.le_succ _)
  have old : ∀ b o, hp.get? b = some o → ((hp.push (PySem.W.kdv_tup us)).push (PySem.HandSPX.excO C hp.objs.size)).get? b = some o := fun b o e => Heap.get?_push_of_some _ (Heap.get?_push_of_some _ e)
  have there : ((hp.push (PySem.W.kdv_tup us)).push (PySem.HandSPX.excO C hp.objs.size)).get? (hp.objs.size + 1) = some (PySem.HandSPX.excO C hp.objs.size) := by heap_get
  have I2 : Inv X pins σ (upd H (hp.objs.size + 1) (exo (hp.objs.size + 1) C none)) ⟨(hp.push (PySem.W.kdv_tup us)).push (PySem.HandSPX.excO C hp.objs.size), g, dr, tk, os⟩ := I.laid (t' := tk) old (Nat.le_succ _) (exo_ok there)
  have hq := h _ new
  have r2 : Vals (V.ref (hp.objs.size + 1) :: vs) (Value.ref (hp.objs.size + 1) :: us) := .cons rfl r
  have hl : (Value.ref (hp.objs.size + 1) :: us).length = ps.length := r2.length.symm.trans (F.len _ _ _ _ hq)
  have hus : us.length ≤ sizeLine := by rw [← Paired.length r, sizeLine_eq]; omega
  have go := F.run _ X.stack _ _ ⟨Value.ref (hp.objs.size + 1) :: us, []⟩ (Value.ref (hp.objs.size + 1) :: us) _ _ (fun _ _ _ => False) (hr.make C us []) (I2.env0.make C us []) (by simpa using hb _ (Value.ref (hp.objs.size + 1) :: us) I2.kIn (by simpa using hl)) r2 hq
  refine wpAny_call (PySem.HandSPX.call_own b.F (fun Y => PySem.W.excTail_contains Y bm hbm) (I.kIn _ _ hC) (PySem.W.looks_findIn I.kIn iC) (fun self => PySem.W.bind_fn I.kIn self tI) hus (codeAny_mono go ?_))
  rintro (er | fl) s' z
  · exact (hx _ _ er s' z).elim
  · cases fl
    case ret u =>
      obtain ⟨v, H2, os2, bare2, un2, hok2, rv, rfl, q2⟩ := z
      exact ⟨rv, k1 _ H2 _ s' (Nat.le_succ _) old un2 hok2 os2 bare2 q2⟩
    all_goals exact False.elim z
/-- raised: C(e, ..), its dict behind -/
def tXmk (C : Addr) (sp : Sp) (ta : TA) : L2.St → Hp → XK → Prop := fun σ H Q => ta σ H fun vs H1 => vs.length ≤ 1000 ∧ ∀ a, H1 a = none → sp (.ref a :: vs) (upd H1 a (exo a C none))
  (fun v H2 => v = .non ∧ ∃ (d : Addr) (fs : List (Str × V)), H2 a = some (exo a C (some d)) ∧ H2 d = some (exd d fs) ∧ H1 d = none ∧ Q (.ref C) (some d) (upd (del H2 a) d (.xd fs))) (fun _ _ _ => False)
theorem pmk_x {CX : CXT} {C fI : Addr} {k : Nat} {fd : FuncData} {ps : List Str} {sp : Sp} (b : EBase B newId initId bmB) (T : XCls newId bmB X.K C) (iC : PySem.W.findIn X.K (.ref C) "__init__" = some (some (.ref fI))) (tI : PySem.W.typeIn X.K (.ref fI) = some (.type "function"))
    (F : FnOk X.prog X.w X.K X.mg X.base CX k fI fd ps sp) (hr : Room (k + 1) X.A) (hb : Binds X.K fd ps []) (hx : ∀ H s e s', ¬ CX X.stack H s (fun _ _ _ => False) e s') (hg : Gl X x) (hm : X.mg x = some (.ref C)) (ha : PA X (e :: es) ta)
    (hdb : (x == ("__debug__" : Str)) = false := by decide) (he : starEach (e :: es) X.env = (false, eval e X.env) :: starEach es X.env := by rfl) (hpl : (backTo pos (starEach es X.env)).any (·.1) = false := by rfl) :
    PMk X (.Call (.Name x p) (e :: es) [] pos) (tXmk C sp ta) := by
  intro pins s σ H Q I h
  refine wpAny_Call_Name_kw (ld_glob I hg hm ?_ hdb)
  refine PySem.W.callWith_K (h₀ := X.base) I.ok.mod.kin T.kC (thn (ha.run pos pins s σ H _ I h) fun us s1 ⟨vs, H1, I1, r1, hz, q1⟩ => ⟨I1.kIn, ?_⟩) he hpl
  obtain ⟨hp, g, dr, tk, os⟩ := s1
  refine make_run b T iC tI F hr hb hx I1 r1 hz q1 fun a H2 hp2 s' ha' kk un hok ho hbare ⟨d, fs, ea, ed, hd, q⟩ => ?_
  obtain ⟨h2, g2, d2, t2, os'⟩ := s'
  exact mk_end (raises_own T.exC T.tyC) I1 ha' kk un hok ho hbare ea ed hd q
end
end Fab
set_option maxHeartbeats 4000000
/-! try: .. except (A, B) as n: suite, where what is raised is of A or of B; behind it the exception is tracked. -/
namespace PySem
namespace FabX
open PySem.HandSPX
theorem flying_keep {B h h' : Heap} {l : List Env} {e : Addr} {Z : Obj → Prop} (x : FlyingZ B l e Z h) (k : ∀ b o, h.get? b = some o → h'.get? b = some o) : FlyingZ B l e Z h' := by
  obtain ⟨x1, x2, x3, oe, vs, T, oT, ts, y1, y2, y3, y4, y5, y6, y7, y8, y9⟩ := x
  exact ⟨fun b o z => k b o (x1 b o z), x2, Heap.FunFrames.of_keeps (fun b o z _ => ⟨o, k b o z, rfl⟩) x3, oe, vs, T, oT, ts, k _ _ y1, y2, y3, y4, y5, y6, k _ _ y7, y8, y9⟩
end FabX
end PySem
namespace Fab
open PySem L2 PySem.Spec PyProof.Rows
/-- a caught exception, let go: its class, its own dict -/
def exK (a : Addr) (cls : Value) (d : Option Addr) : HO := .ext fun h => ∃ oe vs, h.get? a = some oe ∧ Zc cls d oe ∧ oe.data = .fields vs
theorem exK_ok {P : Program} {w : World} {H : Hp} {h : Heap} {a : Addr} {cls : Value} {d : Option Addr} {oe : Obj} {vs : Array Value} (he : h.get? a = some oe) (hz : Zc cls d oe) (hd : oe.data = .fields vs) : ObjOk P w H h a (exK a cls d) :=
  ⟨⟨oe, vs, he, hz, hd⟩, ⟨oe, he⟩, fun h1 h2 ⟨oe, vs, e, z, d⟩ k => ⟨oe, vs, k _ e, z, d⟩⟩
theorem exK_at {P : Program} {w : World} {H : Hp} {h : Heap} {a : Addr} {cls : Value} {d : Option Addr} (hok : HOk P w H h) (e : H a = some (exK a cls d)) : ∃ oe vs, h.get? a = some oe ∧ Zc cls d oe ∧ oe.data = .fields vs := by
  have x : ObjOk P w H h a (.ext fun h => ∃ oe vs, h.get? a = some oe ∧ Zc cls d oe ∧ oe.data = .fields vs) := hok a _ e
  exact x.1
section
variable {X : Cx} {pins : List (Addr × Obj)} {σ : L2.St} {H : Hp} {s : Shared} {a : Addr}
/-- an object of ours that was not tracked is tracked from now on -/
theorem inv_track {oe : Obj} {vs : Array Value} {cls : Value} {d : Option Addr} (I : Inv X pins σ H s) (h0 : X.s_0.heap.get? a = none) (hH : H a = none) (he : s.heap.get? a = some oe) (hz : Zc cls d oe) (hd : oe.data = .fields vs) (hp : ∀ p ∈ X.pn ++ pins, p.1 ≠ a) :
    Inv X pins σ (upd H a (exK a cls d)) s := by
  have nB : ∀ {b : Addr} {o : HO}, H b = some o → upd H a (exK a cls d) b = some o := fun {b o} z => by
    rw [upd_ne (ne_of_none z hH)]
    exact z
  have nL : X.env.locals ≠ a := fun z => by
    obtain ⟨m, ⟨o, es, ep, e1, e2, _⟩, _⟩ := I.loc
    rw [z, he] at e1
    cases e1
    rw [hd] at e2
    cases e2
  refine ⟨I.ok, I.os, I.bare, ⟨I.base.keep, I.base.slot, fun b o z n hx => ?_, I.base.there, fun b xs z => nB (I.base.tups b xs z), fun b o u z => nB (I.base.frzs b o u z), fun b ps z => ?_⟩, I.loc, I.cell, ?_, fun x c z => ?_, fun p hm => ?_, fun b o z => ?_, I.len⟩
  · rw [upd_ne (fun q => by rw [q, h0] at z; cases z)]
    exact I.base.free b o z n hx
  · obtain ⟨more, q⟩ := I.base.tbls b ps z
    exact ⟨more, nB q⟩
  · rw [upd_ne nL]
    exact I.free
  · have nc : c ≠ a := fun q => by
      obtain ⟨v, o, e1, e2⟩ := I.cell x c z
      rw [q, he] at e1
      cases e1
      rw [hd] at e2
      cases e2
    rw [upd_ne nc]
    exact I.freeC x c z
  · obtain ⟨e1, e2, e3, e4, e5⟩ := I.pin p hm
    exact ⟨e1, by rw [upd_ne (hp p hm)]; exact e2, e3, e4, e5⟩
  · by_cases q : b = a
    · subst q
      rw [upd_same] at z
      cases z
      exact exK_ok he hz hd
    · rw [upd_ne q] at z
      exact (I.hok b o z).stay (fun _ _ _ w => w) (fun c w => nB w) (fun c xs w => nB w)
end
/-- the wish of a body: all that is raised is of one of the two classes -/
def wTwo (K : PySem.W.Frag) (c1 c2 : Value) (i n : Nat) (ts : Addr → TS) (D : Ends) : WX := fun cls d σ H => PySem.W.exmAny K cls [c1, c2] = some true ∧ ∀ a, H a = none → σ.length = n →
  ts a { nx := fun σ' H' => H' a = none → D.nx (σ'.set i none) (upd H' a (exK a cls d)), rt := fun _ _ => False, bk := fun _ _ => False, ct := fun _ _ => False } (σ.set i (some (.ref a))) H
section
variable {X : Cx} {x1 x2 n : Str} {C1 C2 : Addr} {i : Nat} {body suite : List Stmt} {b₀ : Stmt} {np1 np2 tp pos pos' : Pos} {kt : Nat} {tb : WX → TS} {ts : Addr → TS}
theorem ps_try_two (hs : X.stack = X.env :: X.outer) (hf : X.env.frame = some X.env.locals) (hex : X.ex = []) (hN : X.N.Nodup) (hi : X.N[i]? = some n) (hln : X.env.kindOf n = some .local) (hg1 : Gl X x1) (hm1 : X.mg x1 = some (.ref C1)) (hg2 : Gl X x2) (hm2 : X.mg x2 = some (.ref C2))
    (hb : ∀ (W : WX) (pn : List (Addr × Obj)) (xe : Value → Shared → Prop), Takes (X.tr pn xe) W → PassesOwn (model X.prog X.w) X.A X.env xe → PSs (X.tr pn xe) body (tb W))
    (hsu : ∀ (a : Addr) (pn : List (Addr × Obj)), PSs (X.suite a pn) (b₀ :: suite) (ts a))
    (hd1 : (x1 == ("__debug__" : Str)) = false := by decide) (hd2 : (x2 == ("__debug__" : Str)) = false := by decide) :
    PS X (.Try body [.ExceptHandler (some (.Tuple [.Name x1 np1, .Name x2 np2] kt tp)) (some n) (b₀ :: suite) pos'] [] [] pos) (fun D σ H => tb (wTwo X.K (.ref C1) (.ref C2) i X.N.length ts D) D σ H) := by
  refine ⟨fun pins s σ H D I h => wpAny_Try_except ?_⟩
  have ok := I.ok
  have hfr : X.A.frames = some (X.env :: X.outer) := by rw [ok.frames, hs]
  refine wpAny_mono ((hb _ (X.pn ++ pins) (fun e s₁ => wpAny (model X.prog X.w) X.A (noteFrame e X.env) (fun _ s₂ => wpAny (model X.prog X.w) X.A (setFlight e none) (fun _ s₃ =>
    wpAny (model X.prog X.w) X.A (handleBy e X.env [.ExceptHandler (some (.Tuple [.Name x1 np1, .Name x2 np2] kt tp)) (some n) (b₀ :: suite) pos']) (SP X pins D) X.xe s₃) X.xe s₂) X.xe s₁) ?_ PassesOwn.looking).run [] s σ H D (I.toTry _) h) ?_ fun e s1 he => he
  · -- what is raised is caught
    rintro u s' ⟨a, B, sI, pins', σ', H', cls, d, rfl, J', nb, up, sky, na, os, ag, hmatch, hyes⟩
    have J : Inv X pins σ' H' sI := J'.ofTry ok
    rw [show (X.tr (X.pn ++ pins) _).stack = X.env :: X.outer from hs] at sky
    show wpAny (model X.prog X.w) X.A (noteFrame (.ref a) X.env) _ _ _
    refine Sky.land Zc.steady hfr hf sky fun h3 fl3 up3 => ?_
    have J3 : Inv X pins σ' H' { s' with heap := h3 } := J.landed nb fl3.1 (up.trans up3) os ag
    obtain ⟨oe3, vs3, he3, hz3, hd3⟩ := fl3.there
    have aFr : a ∉ frs (X.env :: X.outer) := fun hm => by
      obtain ⟨_, o', e', hnf⟩ := fl3.2.2.1.mem hm
      rw [he3] at e'
      cases e'
      exact hnf _ hd3
    have nL : a ≠ X.env.locals := fun z => aFr (List.mem_filterMap.mpr ⟨X.env, List.mem_cons_self, by rw [hf, z]⟩)
    have nF : a ∉ X.fs := fun hm => by
      obtain ⟨e, he, q⟩ := List.mem_filterMap.mp hm
      exact aFr (List.mem_filterMap.mpr ⟨e, List.mem_cons_of_mem _ he, q⟩)
    have notOld : ∀ b o, sI.heap.get? b = some o → b ≠ a := fun b o e z => by
      subst z
      have q := nb b o e (by rw [hs]; exact aFr)
      rw [fl3.2.1] at q
      cases q
    have s0none : X.s_0.heap.get? a = none := by
      cases q : X.s_0.heap.get? a with
      | none => rfl
      | some o =>
        obtain ⟨o', q'⟩ := J.base.there a o q (by rw [hex]; simp)
        exact absurd rfl (notOld a o' q')
    have pinsNe : ∀ p ∈ X.pn ++ pins, p.1 ≠ a := fun p hp => notOld p.1 p.2 (J.pin p hp).1
    have S3 := J3.suite he3 hd3 na nL nF
    refine wpAny_handleBy_cons (codeAny_handlers_test ?_) (by intro q; cases q)
    refine wpAny_Tuple_spliced ?_
    show wpAny _ _ (spliced [(false, eval (.Name x1 np1) X.env), (false, eval (.Name x2 np2) X.env)]) _ _ _
    refine PySem.Calls.spliced_cons (ld_glob (X := X.suite a ((a, oe3) :: (X.pn ++ pins))) S3 hg1 hm1 (PySem.Calls.spliced_cons (ld_glob (X := X.suite a ((a, oe3) :: (X.pn ++ pins))) S3 hg2 hm2 (PySem.Calls.spliced_nil ⟨(by rw [sizeLine_eq]; simp), ?_⟩) hd2)) hd1)
    have k4 : ∀ b o, h3.get? b = some o → (h3.push ({ cls := .type "tuple", data := .seq [Value.ref C1, Value.ref C2].toArray } : Obj)).get? b = some o := fun b o e => Heap.get?_push_of_some _ e
    have fl4 := PySem.FabX.flying_keep fl3 k4
    have J4 : Inv X pins σ' H' { s' with heap := h3.push ({ cls := .type "tuple", data := .seq [Value.ref C1, Value.ref C2].toArray } : Obj) } := J3.kept (t' := s'.toks) k4
    have LT : PySem.W.Looks (model X.prog X.w) (h3.push ({ cls := .type "tuple", data := .seq [Value.ref C1, Value.ref C2].toArray } : Obj)) (typeOf (.ref a)) cls := fun A Q E s k q => wpAny_typeOf_ref (k _ _ (k4 _ _ he3)) (by rw [hz3.1]; exact q)
    refine (PySem.W.exm_tup2 (M := model X.prog X.w) J4.kIn LT (Heap.get?_push_size _ rfl) hmatch).here ?_
    refine codeAny_handlers_suite_as ?_
    refine HandSPX.lands_againZ fl4 fun h5 fl5 up5 => ?_
    have J5 : Inv X pins σ' H' { s' with heap := h5 } := J.landed nb fl5.1 ((up.trans up3).trans ((Heap.UpToSlots.of_keeps k4).trans up5)) os ag
    obtain ⟨oe5, vs5, he5, hz5, hd5⟩ := fl5.there
    have S5 := J5.suite he5 hd5 na nL nF
    refine store_ok (X := X.suite a ((a, oe5) :: (X.pn ++ pins))) (v := .ref a) S5 hN hi (.inl hln) rfl (fun s6 S6 => ?_) (.inr hln)
    refine wpAny_mono ((hsu a ((a, oe5) :: (X.pn ++ pins))).run [] s6 _ H' _ S6 (hyes a na J.len)) ?_ (fun _ _ z => False.elim z)
    intro fl s7 hsp
    cases fl with
    | next =>
      obtain ⟨σ7, H7, S7, q7⟩ := hsp
      have pin7 := S7.pin (a, oe5) (List.mem_append_left _ List.mem_cons_self)
      have U7 : Inv X pins σ7 H7 s7 := S7.unsuite ok
      have K7 := inv_track U7 s0none pin7.2.1 pin7.1 hz5 hd5 pinsNe
      exact gone_ok K7 hN hi hln fun s8 J8 => ⟨_, _, J8, q7 pin7.2.1⟩
    | ret u =>
      obtain ⟨_, _, _, _, _, q7⟩ := hsp
      exact q7.elim
    | brk =>
      obtain ⟨_, _, _, q7⟩ := hsp
      exact q7.elim
    | cont =>
      obtain ⟨_, _, _, q7⟩ := hsp
      exact q7.elim
  · intro fl s1 hsp
    cases fl with
    | next =>
      obtain ⟨σ', H', J', q⟩ := hsp
      exact wpAny_execs_nil ⟨σ', H', J'.ofTry ok, q⟩
    | ret u =>
      obtain ⟨v, σ', H', J', r, q⟩ := hsp
      exact ⟨v, σ', H', J'.ofTry ok, r, q⟩
    | brk =>
      obtain ⟨σ', H', J', q⟩ := hsp
      exact ⟨σ', H', J'.ofTry ok, q⟩
    | cont =>
      obtain ⟨σ', H', J', q⟩ := hsp
      exact ⟨σ', H', J'.ofTry ok, q⟩
end
end Fab

/-! ### what a kept exception is asked: its class, its fields -/
namespace PySem
namespace FabX
open PySem.W PySem.Calls PySem.Spec PyProof.Rows
section
variable {prog : Program} {w : World} {A : Around} {E : Value → Shared → Prop} {s : Shared} {K : Frag} {x D : Addr} {ox : Obj} {od : Option Obj}
/-- a data descriptor of the class is found whatever the instance holds -/
theorem find_data {C : Addr} {name : Str} {a g : Value} (hc : hasDictIn K C = true) (ha : findIn K (.ref C) name = some (some a)) (hg : specialIn K a "__get__" = some (some g)) (ht : takesIn K a = some true) : findObj K C od name = some (.bind g a) := by
  obtain ⟨cd, hcd, _⟩ := any_some hc
  unfold findObj
  rw [hcd, Option.bind_some, ha, Option.bind_some]
  simp [hg, ht]
/-- e.__class__, e an own exception with or without a dict of its own -/
theorem class_of_exc {Q : Option Value → Shared → Prop} (C : L2.ExcC K D) (X : K.In s.heap) (I : InstAt s.heap x ox D od) (h : Q (some (.ref D)) { s with toks := s.toks + 1 }) : wpAny (model prog w) A (getAttr? (.ref x) "__class__") Q E s := by
  have hf : findObj K D od "__class__" = some (.bind (.builtin "getset_descriptor.__get__") (.builtin "object.__class__")) := find_data C.hd C.ha C.hn C.ht
  obtain ⟨hp, g, d, t, os⟩ := s
  have LT := I.type (M := model prog w)
  have LG := looks_findIn (M := model prog w) X C.hg
  have LH := looks_findIn (M := model prog w) X C.hk
  have LF := looks_find (M := model prog w) X I hf
  have isE : Looks (model prog w) hp (isInstance (.ref x) (.type "BaseException")) true := LT.andThen (looks_subIn X C.hs)
  have ne : (Value.builtin "BaseException.__getattribute__" == Value.builtin "object.__getattribute__") = false := by decide +kernel
  unfold getAttr? getAttrBy? getAttrBy
  refine wpAny_bind (wpAny_mkText (wpAny_bind (wpAny_attempt (wpAny_holding (wpAny_bind (LT.at (wpAny_bind (LG.at ?_))))))))
  show wpAny _ _ (if (onTheHeap (Value.ref D) && Value.builtin "BaseException.__getattribute__" == Value.builtin "object.__getattribute__") = true then _ else _) _ _ _
  rw [if_neg (by rw [ne, Bool.and_false]; exact Bool.false_ne_true)]
  unfold getAttrByItsOwn hookBefore
  rw [if_pos (show onTheHeap (Value.ref D) = true from rfl)]
  refine wpAny_bind (LH.at (wpAny_bind (wpAny_attempt (wpAny_holding ?_))))
  unfold callGetattribute
  rw [if_neg (show ¬ (false && onTheHeap (Value.builtin "BaseException.__getattribute__")) = true from Bool.false_ne_true)]
  unfold boundAndCalled
  rw [PySem.F.excAttr_ValueError.ga.bind (.ref x)]
  refine wpAny_bind (wpAny_pure (wpAny_call (codeAny_call_builtin PySem.F.excAttr_ValueError.ga.plain PySem.F.entry_bexc_ga ?_)))
  refine @check_slot (model prog w) _ _ ⟨hp, g, d, t + 1, os⟩ "BaseException.__getattribute__" "BaseException" "__getattribute__" (.ref x) [.str "__class__" t] [] _ (by decide +kernel) (by decide +kernel) isE (PySem.F.args_bexc_ga (.ref x) (.str "__class__" t)) ?_
  unfold Builtin.«object.__getattribute__»
  refine wpAny_bind (wpAny_of_eq (a := ((Value.ref x : Value), [Value.str "__class__" t])) (by first | rfl | (simp only [slotArgs]; rfl)) (wpAny_bind (wpAny_pure (wpAny_bind (LT.at (wpAny_bind (LF.at ?_)))))))
  show wpAny _ _ (holding [Value.builtin "object.__class__"] (call (.builtin "getset_descriptor.__get__") [.builtin "object.__class__", .ref x, .ref D]) >>= ret) _ _ _
  refine wpAny_bind (wpAny_holding (wpAny_call (class_get (s := ⟨hp, g, d, t + 1, os⟩) (ox := ox) (od := od) X I C.hm (wpAny_pure ?_))))
  show wpAny (model prog w) _ (handedOut (.ref D)) _ _ _
  rw [handedOut_of (v := Value.ref D) rfl]
  first
    | exact wpAny_pure (wpAny_pure h)
    | exact wpAny_pure (wpAny_bind (wpAny_pure (wpAny_pure h)))
    | exact wpAny_pure h
/-- what isinstance asks of such an exception -/
theorem kit_exc (C : L2.ExcC K D) : KitX K (.ref x) (.ref D) (fun h => ∃ ox od, InstAt h x ox D od) := by
  obtain ⟨cd, hcd, _⟩ := any_some C.hd
  obtain ⟨o, ho, hob⟩ : ∃ o, K.lookup D = some o ∧ ∃ cc dd sl, o = ⟨cc, dd, .cls cd, sl⟩ := by
    unfold clsIn at hcd
    split at hcd
    · rename_i c' d' cd' sl' ho
      cases hcd
      exact ⟨_, ho, _, _, _, rfl⟩
    · cases hcd
  obtain ⟨cc, dd, sl, rfl⟩ := hob
  refine ⟨fun _ _ _ ⟨_, _, I⟩ => I.type, fun _ _ X _ A' Q' E' s' k q => ?_, fun h tp dt its n sl' X htp => Bool.eq_false_iff.mpr fun q => ?_, fun X ⟨_, _, I⟩ k => class_of_exc C X I k⟩
  · unfold isType loadHead
    exact wpAny_bind (wpAny_loadPart (k _ _ (X _ _ ho)) (wpAny_pure q))
  · obtain rfl : D = tp := Value.ref.inj (beq_iff_eq.mp q)
    cases (X _ _ ho).symm.trans htp
end
end FabX
end PySem
namespace Fab
open PySem L2 PySem.Spec PyProof.Rows
section
variable {X : Cx} {a D : Addr} {d : Option Addr}
/-- its dict, where it has one, stands -/
def XdAt (H : Hp) : Option Addr → Prop
  | some dd => ∃ fs, H dd = some (.xd fs)
  | none => True
theorem inst_of {P : Program} {w : World} {H : Hp} {h : Heap} (hok : HOk P w H h) (e : H a = some (exK a (.ref D) d)) (hd : XdAt H d) : ∃ ox od, PySem.W.InstAt h a ox D od := by
  obtain ⟨oe, vs, he, hz, hv⟩ := exK_at hok e
  have no : PySem.W.notCls oe = true := by
    unfold PySem.W.notCls
    rw [hv]
    all_goals rfl
  cases d with
  | none => exact ⟨oe, none, he, hz.1, no, by rw [hz.2]; exact True.intro⟩
  | some dd =>
    obtain ⟨fs, hfs⟩ := hd
    obtain ⟨mA, ⟨od, es, ep, ho, _⟩, _⟩ := hok dd _ hfs
    exact ⟨oe, some od, he, hz.1, no, by rw [hz.2]; exact ho⟩
/-- isinstance(e, c), e a kept exception -/
def rIsK (K : PySem.W.Frag) : List V → Hp → VK → Prop := fun xs H Q => ∃ (a D : Addr) (d : Option Addr) (c : V) (cv : Value) (b : Bool), xs = [.ref a, c] ∧ ClsV c cv ∧ H a = some (exK a (.ref D) d) ∧ XdAt H d ∧ ExcC K D ∧ PySem.W.kitOne K (.ref D) cv = some b ∧ Q (.bl b) H
theorem call_isK : CallR X (.builtin "isinstance") (rIsK X.K) := by
  intro pins s σ H xs us Q I r h
  obtain ⟨a, D, d, c, cv, b, rfl, hc, ha, hd, C, e, q⟩ := h
  obtain ⟨u1, u2, rfl, r1, r2⟩ := vals2 r
  cases (show u1 = Value.ref a from r1)
  obtain rfl := hc.eq r2
  exact PySem.W.kia_one (PySem.FabX.kit_exc C) I.kIn (inst_of I.hok ha hd) e (fun z => nomatch z) fun tk => ⟨.bl b, H, I.tok tk, rfl, q⟩
/-- e.f, e a kept exception -/
def tXfK (K : PySem.W.Frag) (f : Str) (te : TE) : TE := fun σ H Q => te σ H fun x H1 => ∃ (a C dd : Addr) (fs : List (Str × V)) (v : V), x = .ref a ∧ H1 a = some (exK a (.ref C) (some dd)) ∧ XfC K C ∧ PySem.W.findIn K (.ref C) f = some none ∧ H1 dd = some (.xd fs) ∧ fs.lookup f = some v ∧ Q v H1
theorem pe_xfK {e : Expr} {te : TE} {pos : Pos} {f : Str} (he : PE X e te) (hb : attributeBase e f X.env (eval e X.env) = eval e X.env := by rfl) : PE X (.Attribute e f pos) (tXfK X.K f te) := by
  refine ⟨fun pins s σ H Q I h => attr_of hb (thn (he.run pins s σ H _ I h) fun u s1 ⟨x, H1, I1, rx, a, C, dd, fs, v, ex, ea, T, no, ed, hl, q⟩ => ?_)⟩
  subst ex
  cases (show u = Value.ref a from rx)
  obtain ⟨oe, vs, he1, hz, hv⟩ := exK_at I1.hok ea
  have hx : ObjOk X.prog X.w H1 s1.heap dd (.xd fs) := I1.hok dd _ ed
  obtain ⟨mA, hns, hr⟩ := hx
  obtain ⟨od, ho, hlk⟩ := lookIn_ns hns
  obtain ⟨u, hu, ru⟩ := RelO.some_of (v := v) (o := mA f) (by rw [← hl]; exact hr f)
  have no' : PySem.W.notCls oe = true := by
    unfold PySem.W.notCls
    rw [hv]
    all_goals rfl
  exact HandSPX.exc_get I1.kIn ⟨he1, hz.1, no', by rw [hz.2]; exact ho⟩ T.ga T.gg T.exC (PySem.W.findObj_own T.hdC no rfl (by rw [hlk, hu])) (handed_of ru) ⟨v, H1, I1.tok _, ru, q⟩
end
end Fab
set_option maxHeartbeats 4000000
/-! The own errors of the program, as the laws hear them. -/
namespace Fab
open PySem L2 PySem.FabX
/-- the classes of exceptions that a law asks for -/
inductive Kd where
  | row | turn | place | number | other | great | text | way | nothing
  deriving DecidableEq
def Kd.name : Kd → Str
  | .row => "BadRow" | .turn => "BadTurn" | .place => "BadPlace" | .number => "BadNumber" | .other => "OtherLength" | .great => "TooGreat" | .text => "BadText" | .way => "BadWay" | .nothing => "NothingLeft"
def Kd.fld : Kd → Str
  | .row => "place" | .turn => "place" | .place => "value" | .number => "value" | .other => "" | .great => "most" | .text => "place" | .way => "value" | .nothing => ""
def Kd.word : Kd → Str
  | .row => "row" | .turn => "turn" | .place => "place" | .number => "number" | .other => "other" | .great => "great" | .text => "text" | .way => "way" | .nothing => "nothing"
/-- the classes that have a field -/
def Kd.has : Kd → Bool
  | .other => false | .nothing => false | _ => true
/-- the classes in the order in which the laws ask for them -/
abbrev kds9 : List Kd := [.row, .turn, .place, .number, .other, .text, .way, .nothing, .great]
abbrev wds9 : List Str := ["BadRow", "BadTurn", "BadPlace", "BadNumber", "OtherLength", "BadText", "BadWay", "NothingLeft", "TooGreat"]
structure Exs (K : PySem.W.Frag) (mg : Str → Option Value) (CF : Addr) (C : Kd → Addr) : Prop where
  mgF : mg "FaceError" = some (.ref CF)
  mgc : ∀ k, mg k.name = some (.ref (C k))
  exc : ∀ k, ExcC K (C k)
  kit : ∀ k j, PySem.W.kitOne K (.ref (C k)) (.ref (C j)) = some (decide (k = j))
  kve : ∀ k, PySem.W.kitOne K (.ref (C k)) (.type "ValueError") = some (!decide (k = .great))
  xf : ∀ k, XfC K (C k)
  no : ∀ k, PySem.W.findIn K (.ref (C k)) k.fld = some none
  any : ∀ k, PySem.W.exmAny K (.ref (C k)) [.ref CF, .ref (C .great)] = some true
/-- what is told of a call that is refused, of one that is not -/
def Eh (C : Kd → Addr) (Q : VK) : XK := fun cls d H => (∃ k : Kd, k ≠ .other ∧ cls = .ref (C k) ∧ ∃ dd v, d = some dd ∧ H dd = some (.xd [(k.fld, v)]) ∧ ∀ p H', Same H H' → H' p = some (.tup [.str k.word, v]) → Q (.ref p) H') ∨
  (cls = .ref (C .other) ∧ d = none ∧ ∀ H', Same H H' → Q (.str "other") H')
def Qh (Q : VK) : VK := fun v H => ∀ p H', Same H H' → H' p = some (.lst [v]) → Q (.ref p) H'
def TTh (C : Kd → Addr) : (XK → Hp → VK → Prop) → Hp → VK → Prop := fun tl H Q => ∀ H1, Same H H1 → ∀ Qx : VK, (∀ v H2, Qh Q v H2 → Qx v H2) → tl (Eh C Q) H1 Qx
/-- the tuple that is told of an exception -/
def TdT (k : Kd) (v : V) : List V := if k.has = true then [.str k.name, v] else [.str k.name]
/-- what is wanted of an exception that is told -/
def Et (C : Kd → Addr) (Q : VK) : XK := fun cls d H => ∃ k : Kd, cls = .ref (C k) ∧ ((k.has = true ∧ ∃ dd v, d = some dd ∧ H dd = some (.xd [(k.fld, v)]) ∧ ∀ p H', Same H H' → H' p = some (.tup (TdT k v)) → Q (.ref p) H') ∨
  (k.has = false ∧ d = none ∧ ∀ p H', Same H H' → H' p = some (.tup (TdT k .non)) → Q (.ref p) H'))
theorem pe_cl {X : Cx} {x : Str} {c : Addr} {pos : Pos} (hg : Gl X x) (hm : X.mg x = some (.ref c)) (hd : (x == ("__debug__" : Str)) = false := by decide) : PE X (.Name x pos) (tC (.ref c)) := pe_glob hg hm rfl hd
theorem Same.new {H : Hp} {p : Addr} {o : HO} (h : H p = none) : Same H (upd H p o) := fun a u z => by
  rw [upd_ne (ne_of_none z h)]
  exact z
end Fab
set_option maxHeartbeats 4000000
namespace Fab
open PySem L2
/-- the words whose bit is set -/
def fws (ws : List Str) (bs : List Bool) (n : Nat) : List V := (((ws.zip bs).take n).filter (·.2)).map fun q => V.str q.1
theorem fws_len {ws : List Str} {bs : List Bool} {n : Nat} : (fws ws bs n).length ≤ n := by
  unfold fws
  rw [List.length_map]
  exact Nat.le_trans (List.length_filter_le _ _) (by rw [List.length_take]; omega)
theorem fws_next {ws : List Str} {bs : List Bool} {n : Nat} {x : Str} {b : Bool} (hx : ws[n]? = some x) (hb : bs[n]? = some b) : fws ws bs (n + 1) = if b = true then fws ws bs n ++ [.str x] else fws ws bs n := by
  have e : (ws.zip bs)[n]? = some (x, b) := by simp [List.getElem?_zip_eq_some, hx, hb]
  unfold fws
  rw [List.take_succ, e]
  cases b <;> simp [List.filter_append]
theorem lc_words {K : PySem.W.Frag} {H0 H : Hp} {L : List (Addr × HO)} {T : List (Addr × List V)} {p a0 : Addr} {ws : List Str} {bs : List Bool} {σ : St} {Q : VK} (hl : ws.length = bs.length) (hz : ws.length ≤ 60)
    (h6 : σ.length = 8) (v : VW H0 H L T) (hA : (a0, HO.lst (ws.map V.str)) ∈ L) (hB : (p, HO.lst (bs.map V.bl)) ∈ L) (k : ∀ D H', VW H0 H' ((D, .lst (fws ws bs ws.length)) :: L) T → Q (.ref D) H') :
    ∀ D, H D = none → ∃ W : Nat → Nat → Hp → Prop, (∃ m, W 0 m (upd H D (.lst []))) ∧ ∀ i m H, W i m H →
      ((Itz K a0 p).stop i H ∧ Q (.ref D) H) ∨ ((Itz K a0 p).go i H ∧ ∃ Nx : Hp → Prop, (∀ H', Nx H' → ∃ m', m' < m ∧ W (i + 1) m' H') ∧ ∀ x H', (Itz K a0 p).yld i H x H' → gTup K 2 (gCons (gName 6) (gCons (gName 7) gNil)) x (wipe σ [6, 7]) H' fun σ2 H2 => wipe σ2 [6, 7] = wipe σ [6, 7] ∧ tB (tVar 7) σ2 H2 fun b H3 =>
        if b = true then tVar 6 σ2 H3 fun y H4 => ∃ acc, H4 D = some (.lst acc) ∧ acc.length < sizeLine ∧ Nx (upd H4 D (.lst (acc ++ [y]))) else Nx H3) := by
  intro D hD
  have ln : ws.length = min (ws.map V.str).length (bs.map V.bl).length := by simp [hl]
  refine lc_it (walk_zip (K := K) (a := a0) (b := p) ln) (fun i H' => VW H0 H' ((D, .lst (fws ws bs i)) :: L) T) ?_ (fun i H' _ v' => ⟨SqL.of (v'.at_ _ (List.mem_cons_of_mem _ hA)), SqL.of (v'.at_ _ (List.mem_cons_of_mem _ hB))⟩) ?_ (fun H' v' => k D H' v')
  · have := v.push (o := .lst []) hD
    simpa [fws] using this
  · rintro i x H' H2 hi v' ⟨t, x1, y1, rfl, ht, rfl, e1, e2⟩
    simp only [List.getElem?_map, List.getElem?_eq_getElem hi, List.getElem?_eq_getElem (hl ▸ hi : i < bs.length), Option.map_some, Option.some.injEq] at e1 e2
    subst e1
    subst e2
    have v2 := v'.push (o := .tup [V.str ws[i], V.bl (bs[i]'(by omega))]) ht
    have nx := fws_next (n := i) (List.getElem?_eq_getElem hi) (List.getElem?_eq_getElem (by omega : i < bs.length))
    obtain ⟨a0, a1, a2, a3, a4, a5, a6, a7, rfl⟩ : ∃ a0 a1 a2 a3 a4 a5 a6 a7 : Option V, σ = [a0, a1, a2, a3, a4, a5, a6, a7] := by
      match σ, h6 with
      | [a0, a1, a2, a3, a4, a5, a6, a7], _ => exact ⟨a0, a1, a2, a3, a4, a5, a6, a7, rfl⟩
    refine ⟨t, _, rfl, SqT.of (v2.at_ _ List.mem_cons_self), rfl, _, _, rfl, _, _, rfl, rfl, rfl, ?_⟩
    simp only [tB, tVar]
    generalize hb : bs[i]'(by omega) = b at nx v2
    have v3 := v2.drop (List.sublist_cons_self ..) (fun _ h => h)
    cases b with
    | false =>
      refine ⟨_, rfl, false, rfl, ?_⟩
      rw [if_neg (by decide)]
      rw [if_neg (by decide)] at nx
      rw [nx]
      exact v3
    | true =>
      refine ⟨_, rfl, true, rfl, ?_⟩
      rw [if_pos rfl]
      rw [if_pos rfl] at nx
      rw [nx]
      refine ⟨_, rfl, _, v3.facts.1, ?_, ?_⟩
      · have := fws_len (ws := ws) (bs := bs) (n := i)
        exact sz_lt (by omega)
      · have := v3.put (o := .lst (fws ws bs i ++ [V.str ws[i]])) 0 rfl rfl
        simpa using this
theorem lc_wordsT {K K' : PySem.W.Frag} {H0 H : Hp} {L : List (Addr × HO)} {T : List (Addr × List V)} {p : Addr} {bs : List Bool} {σ : St} {Q : VK} (hK : K = K') (hl : bs.length = 5) (h6 : σ.length = 8) (h4 : σ[4]? = some (some (.ref p)))
    (v : VW H0 H L T) (hB : (p, HO.lst (bs.map V.bl)) ∈ L) (k : ∀ D a0 H', VW H0 H' ((D, .lst (fws ["row", "turn", "place", "number", "other"] bs 5)) :: (a0, .lst [.str "row", .str "turn", .str "place", .str "number", .str "other"]) :: L) T → Q (.ref D) H') :
    tLc (iZip K (tCons (tLstF (tCons (tC (V.str "row")) (tCons (tC (V.str "turn")) (tCons (tC (V.str "place")) (tCons (tC (V.str "number")) (tCons (tC (V.str "other")) tNil)))))) (tCons (tVar 4) tNil)))
      (gTup K' 2 (gCons (gName 6) (gCons (gName 7) gNil))) (tB (tVar 7)) (tVar 6) [6, 7] σ H Q := by
  subst hK
  refine ⟨sz_le (by decide), view_new v fun a0 H4 v5 => ⟨_, h4, a0, p, _, _, rfl, SqL.of v5.facts.1, SqL.of (v5.at_ _ (List.mem_cons_of_mem _ hB)), ?_⟩⟩
  exact lc_words (ws := ["row", "turn", "place", "number", "other"]) hl.symm (by decide) h6 v5 List.mem_cons_self (List.mem_cons_of_mem _ hB) fun D H5 v6 => k D a0 H5 v6
end Fab
set_option maxHeartbeats 4000000
/-! enumerate of a tuple. -/
namespace PySem
namespace FabX
open PySem PySem.W PySem.Calls PyProof.Rows
open Builtin
set_option maxHeartbeats 1000000 in
theorem meets_enumerate_new1 {v : Value} {o : Obj} {H : Heap → Prop} (B : Begins v o H) :
    Meets (Builtin.«enumerate.__new__» ⟨[.type "enumerate", v], []⟩) (fun _ R s => H s.heap ∧
      R (.ok (.ret (.ref (s.heap.push o).objs.size))) { s with heap := (s.heap.push o).push { cls := .type "enumerate", data := .fields #[.none, .bool false, .ref s.heap.objs.size, rawInt 0, .none, .none] } }) :=
  .of_wp fun prog w A R s h => by
    obtain ⟨hp, g, d, tk, os⟩ := s; obtain ⟨h1, h⟩ := h
    have hsub := sub_enumerate
    have q1 : ∀ {A' : Around} {E : Value → Shared → Prop} {Q : Value → Shared → Prop}, Q (.ref hp.objs.size) ⟨hp.push o, g, d, tk, os⟩ → wpAny (model prog w) A' (pyIter v) Q E ⟨hp, g, d, tk, os⟩ :=
      fun q => B.iter prog w _ _ ⟨hp, g, d, tk, os⟩ _ h1 q
    wp_walk using q1
    refine wpAny_stack_any fun st => wpAny_pure ?_
    split
    · rename_i c _ _ _ _ _
      cases (c == Value.type "enumerate")
      · wp_walk using q1
        exact ⟨_, rfl, h⟩
      · wp_walk using q1
        exact ⟨_, rfl, h⟩
    · wp_walk using q1
      exact ⟨_, rfl, h⟩
section
variable {prog : Program} {w : World} {A : Around} {E : Value → Shared → Prop} {s : Shared}
theorem enum_begins1 {v : Value} {o : Obj} {H : Heap → Prop} {Q : Value → Shared → Prop} (B : Begins v o H) (h1 : H s.heap)
    (h : ∀ h', IsEnum h' (s.heap.objs.size + 1) s.heap.objs.size 0 .none → h'.get? s.heap.objs.size = some o → h'.objs.size = s.heap.objs.size + 2 →
      (∀ b o, s.heap.get? b = some o → h'.get? b = some o) → Q (.ref (s.heap.objs.size + 1)) { s with heap := h' }) :
    wpAny (model prog w) A (call (.type "enumerate") [v]) Q E s := by
  refine callType_new F.called_enumerate (by decide) (F.typeCall_enumerate_1 _) (F.newCall_enumerate_1 _) (fun obj => F.args_object_init_2 obj _) F.entry_enumerate_new
    (meets_enumerate_new1 B) ⟨h1, ?_⟩
  have hz : (s.heap.push o).objs.size = s.heap.objs.size + 1 := Heap.size_push ..
  show _ ∧ _
  rw [hz]
  have he : IsEnum ((s.heap.push o).push { cls := .type "enumerate", data := .fields #[.none, .bool false, .ref s.heap.objs.size, rawInt 0, .none, .none] }) (s.heap.objs.size + 1) s.heap.objs.size 0 .none := by
    have := Heap.get?_push_size (s.heap.push o) (o := { cls := .type "enumerate", data := .fields #[.none, .bool false, .ref s.heap.objs.size, rawInt 0, .none, .none] }) rfl
    rw [hz] at this; exact this
  refine ⟨⟨_, he, rfl⟩, h _ he (Heap.get?_push_of_some _ (Heap.get?_push_size _ B.free)) (by rw [Heap.size_push, hz]) fun b o x => Heap.get?_push_of_some _ (Heap.get?_push_of_some _ x)⟩
theorem enumT_end {e it a : Addr} {j : Int} {i : Nat} {items : Array Value} {old : Value} {Q : Option Value → Shared → Prop} (hh : A.handled = none) (he : IsEnum s.heap e it j old) (hit : s.heap.IsTupleIter it a i) (hl : s.heap.IsTuple a items) (hx : items[i]? = none)
    (hQ : ∀ h', Heap.ExtBut it s.heap h' → Q none { s with heap := h' }) : wpAny (model prog w) A (pyNext (.ref e)) Q E s := by
  have hT : s.TypeIs (.ref e) "enumerate" := ⟨_, he, rfl⟩
  unfold pyNext
  refine wpAny_bind (wpAny_attempt (wpAny_callSpecial?_slot (name := Str.ofString "__next__") hT F.slot_enumerate_next
    (wpAny_call_entry F.slot_enumerate_next hT F.entry_enumerate_next ?_ (F.args_enumerate_next_1 _))))
  show wpAny _ _ (field (.ref e) 2 >>= _) _ _ _
  refine wpAny_bind (wpAny_field he rfl (x := .ref it) rfl ?_)
  refine wpAny_bind (wpAny_nextOf_tuple_end (A := A.in1) hh hit hl hx fun h' x he' hx' => ?_)
  obtain ⟨o, ho, hc⟩ := hx'
  refine wpAny_bind (wpAny_isInstance (T := "StopIteration") (b := true) ⟨o, ho, hc⟩ isSubtype_stop ?_)
  exact wpAny_pure (hQ _ he')
end
end FabX
end PySem
namespace Fab
open PySem L2 PySem.Spec PyProof.Rows
/-- the tuple at a as it stands at each turn, each item in a new pair -/
def IteT (K : PySem.W.Frag) (a : Addr) : It :=
  ⟨fun i H => ∃ (xs : List V) (x : V), SqT K H a xs ∧ xs[i]? = some x, fun i H v H' => ∃ T x, v = .ref T ∧ H T = none ∧ H' = upd H T (.tup [.int (i : Nat), x]) ∧ ∀ xs, SqT K H a xs → xs[i]? = some x, fun i H => ∃ xs : List V, SqT K H a xs ∧ xs.length ≤ i⟩
theorem turn_enumT {P : Program} {w : World} {K : PySem.W.Frag} {elts : List Expr} {kk : Nat} {tpos : Pos} (a e it : Addr) :
    Turn P w K (.Tuple elts kk tpos) (IteT K a) [e, it] e (fun i h => (∃ old, IsEnum h e it ((i : Nat) : Int) old) ∧ h.IsTupleIter it a i ∧ e ≠ it ∧ a ≠ it ∧ a ≠ e) where
  mem := by simp
  obj := fun i h st b hb => by
    obtain ⟨⟨old, he⟩, ⟨o, ho, hc, hd⟩, _⟩ := st
    have e' : b = e ∨ b = it := by simpa using hb
    rcases e' with z | z
    · rw [z]; exact ⟨_, he, fun v q => nomatch q⟩
    · rw [z]; exact ⟨o, ho, fun v q => by rw [hd] at q; cases q⟩
  keep := fun i h h' st k => let ⟨⟨old, he⟩, hi, hne⟩ := st; ⟨⟨old, k e (by simp) _ he⟩, hi.at fun o q => k it (by simp) o q, hne⟩
  item := by
    intro X hP hw hK hc i pins s σ H E I hf st hg
    subst hP hw hK
    obtain ⟨⟨old, he⟩, hit, hne, hai, hae⟩ := st
    obtain ⟨xs, x, hq, hx⟩ := hg
    obtain ⟨its, rv, p, hz⟩ := I.tuple hq
    obtain ⟨u, hu, ru⟩ := rv.get hx
    have hel : e < s.heap.objs.size := Heap.lt_size he
    have hil : it < s.heap.objs.size := by obtain ⟨_, q, _⟩ := hit; exact Heap.lt_size q
    have pT : s.heap.IsTuple a its.toArray := p
    have hlt : i < its.toArray.size := by
      have := (List.getElem?_eq_some_iff.mp hu).1
      simpa using this
    refine wpAny_pyNext_enum_itemD (Draws.tuple (A := X.A.in1) (I.ok.hd hc) it a hai its.toArray) he ⟨hit, pT⟩ hlt hne (by simp [hne, hae.symm]) fun x' h' tk hP' ho hst hT hsz hk => ?_
    have ex : x' = u := by
      have h1 : its.toArray[i]? = some x' := hP'
      rw [show its.toArray[i]? = some u by simpa using hu] at h1
      exact (Option.some.inj h1).symm
    subst ex
    refine ⟨_, rfl, wpAny_letOwnedTupleGo_enum (s := { s with heap := h', toks := tk + 1 }) ho fun h'' he' sb => ?_⟩
    have hT2 : h''.get? s.heap.objs.size = some { cls := .type "tuple", data := .seq #[.int i tk, x'] } := (sb.2 _ (Nat.ne_of_gt hel)).trans hT
    have new : ObjOk X.prog X.w (upd H s.heap.objs.size (.tup [.int (i : Nat), x])) h'' s.heap.objs.size (.tup [.int (i : Nat), x]) :=
      ⟨by show 2 ≤ sizeLine; decide, [.int i tk, x'], .cons ⟨_, rfl⟩ (.cons ru .nil), ⟨_, hT2, rfl, _, rfl⟩⟩
    have I1 : Inv X pins σ (upd H s.heap.objs.size (.tup [.int (i : Nat), x])) { s with heap := h'', toks := tk + 1 } :=
      I.turnedNew (ch := [e, it]) (fun b ob hb q => (sb.2 b (fun z => hb (by simp [z]))).trans (hk b ob (fun z => hb (by simp [z])) (fun z => hb (by simp [z])) q)) hf (Nat.le_refl _) new
    refine ⟨.ref s.heap.objs.size, _, I1, rfl, ⟨_, x, rfl, I.hok.fresh (Nat.le_refl _), rfl, fun ys hy => by rw [I.tuple_inj hy hq]; exact hx⟩, ⟨⟨x', ?_⟩, hst.1.at fun o q => (sb.2 it (Ne.symm hne)).trans q, hne, hai, hae⟩, fun b hb => ?_⟩
    · have e1 : ((i + 1 : Nat) : Int) = (i : Int) + 1 := by omega
      rw [e1]; exact he'
    · have hb' : b < s.heap.objs.size := by
        have e' : b = e ∨ b = it := by simpa using hb
        rcases e' with z | z
        · rw [z]; exact hel
        · rw [z]; exact hil
      rw [upd_ne (Nat.ne_of_lt hb')]
      exact (hf b hb).1
  done := by
    intro X hP hw hK hc i pins s σ H E I hf st hg
    subst hP hw hK
    obtain ⟨⟨old, he⟩, hit, hne, hai, hae⟩ := st
    obtain ⟨xs, hq, hx⟩ := hg
    obtain ⟨its, rv, p, hz⟩ := I.tuple hq
    obtain ⟨f0, f1, f2, f3, f4, f5⟩ := hf it (by simp)
    have hl := rv.length
    have pT : s.heap.IsTuple a its.toArray := p
    exact PySem.FabX.enumT_end (I.ok.hd hc) he hit pT (by simp; omega) fun h' eb => ⟨rfl, I.turned (t' := s.toks) (fun b o hb q => eb b o hb q) f0 f1 f3 f4 f5⟩
  self := fun A i s Q E st h => let ⟨⟨_, he⟩, _⟩ := st; wpAny_pyIter_enum he h
def iEnumA (K : PySem.W.Frag) (ta : TA) : TI := fun σ H R => ta σ H fun vs H1 => ∃ a xs, vs = [.ref a] ∧ ((SqL K H1 a xs ∧ R (Ite K a) H1) ∨ (SqT K H1 a xs ∧ R (IteT K a) H1))
theorem pi_enumA {X : Cx} {e : Expr} {ta : TA} {p pos tpos : Pos} {elts : List Expr} {kk : Nat} (hg : Gl X "enumerate") (hm : X.mg "enumerate" = none) (ha : PA X [e] ta) (hs : starEach [e] X.env = [(false, eval e X.env)] := by rfl) :
    PI X (.Tuple elts kk tpos) (.Call (.Name "enumerate" p) [e] [] pos) (iEnumA X.K ta) := by
  refine ⟨fun pins s σ H R I h => ?_⟩
  refine Call_ (ld_blt I hg hm boot_enumerate (PyProof.Rows.callWith_type1 (thn (ha.run pos pins s σ H _ I h) fun us s1 ⟨vs, H1, I1, r1, q1⟩ => ?_) hs rfl))
  obtain ⟨a, xs, ex, hq⟩ := q1
  subst ex
  cases r1 with
  | cons r rr =>
    cases rr
    cases r
    have fresh : ∀ b, b ∈ [s1.heap.objs.size + 1, s1.heap.objs.size] → FpOk X pins H1 b := fun b hb => by
      have e' : b = s1.heap.objs.size + 1 ∨ b = s1.heap.objs.size := by simpa using hb
      have hle : s1.heap.objs.size ≤ b := by
        rcases e' with z | z
        · rw [z]; exact Nat.le_add_right _ _
        · rw [z]; exact Nat.le_refl _
      exact I1.fpOk hle (I1.hok.fresh hle)
    rcases hq with ⟨hq, q⟩ | ⟨hq, q⟩
    · obtain ⟨its, rv, p', hz⟩ := I1.list hq
      refine call_enumerate_list p'.isList fun h' he hit hsz hk => wpAny_pyIter_enum he ?_
      have I2 : Inv X pins σ H1 { s1 with heap := h' } := I1.kept (t' := s1.toks) hk
      exact ⟨s1.heap.objs.size + 1, [s1.heap.objs.size + 1, s1.heap.objs.size], _, _, H1, rfl, I2, turn_enum a (s1.heap.objs.size + 1) s1.heap.objs.size, ⟨⟨.none, he⟩, hit, Nat.succ_ne_self _⟩, fresh, q⟩
    · obtain ⟨its, rv, p', hz⟩ := I1.tuple hq
      have pT : s1.heap.IsTuple a its.toArray := p'
      have al : a < s1.heap.objs.size := by obtain ⟨o, ho, _⟩ := pT; exact Heap.lt_size ho
      refine PySem.FabX.enum_begins1 (begins_tuple a its.toArray) pT fun h' he hit hsz hk => wpAny_pyIter_enum he ?_
      have I2 : Inv X pins σ H1 { s1 with heap := h' } := I1.kept (t' := s1.toks) hk
      exact ⟨s1.heap.objs.size + 1, [s1.heap.objs.size + 1, s1.heap.objs.size], _, _, H1, rfl, I2, turn_enumT a (s1.heap.objs.size + 1) s1.heap.objs.size, ⟨⟨.none, he⟩, ⟨_, hit, rfl, rfl⟩, Nat.succ_ne_self _, Nat.ne_of_lt al, Nat.ne_of_lt (Nat.lt_succ_of_lt al)⟩, fresh, q⟩
theorem walk_enumT {K : PySem.W.Frag} {a : Addr} {xs : List V} : Walk (IteT K a) xs.length (fun H => SqT K H a xs) (YPair (fun i => some (.int (i : Nat))) (fun i => xs[i]?)) := by
  refine ⟨fun i _ hi q => ⟨xs, xs[i], q, by simp [hi]⟩, fun _ q => ⟨xs, q, Nat.le_refl _⟩, fun i H v H' _ q y => ?_⟩
  obtain ⟨T, x, h1, h2, h3, h4⟩ := y
  exact ⟨T, .int (i : Nat), x, h1, h2, h3, rfl, h4 xs q⟩
end Fab
set_option maxHeartbeats 4000000
/-! len(x) and x == y by an own class's methods, with any answer. -/
namespace Fab
open PySem L2 PySem.Spec PyProof.Rows
section
variable {X : Cx} {CX : CXT} {C f : Addr} {k : Nat} {fd : FuncData} {ps : List Str} {sp : Sp} {E : XK}
def rLenO (C : Addr) (sp : Sp) (E : XK) : List V → Hp → VK → Prop := fun xs H Q => ∃ a dx fs, xs = [.ref a] ∧ H a = some (.ins C dx fs) ∧ sp [.ref a] H (fun v H' => ∃ n : Int, v = .int n ∧ 0 ≤ n ∧ n < 2 ^ 63 ∧ Q (.int n) H') E
theorem call_lenO (F : FnOk X.prog X.w X.K X.mg X.base CX k f fd ps sp) (hs : PySem.W.findIn X.K (.ref C) "__len__" = some (some (.ref f))) (hf : PySem.W.isFn X.K (.ref f) = true) (hr : Room (k + 1) X.A) (hb : Binds X.K fd ps []) (hx : Passes CX X E) : CallR X (.builtin "len") (rLenO C sp E) := by
  intro pins s σ H xs us Q I r h
  obtain ⟨a, dx, fs, rfl, ha, h⟩ := h
  obtain ⟨u, rfl, rx⟩ := vals1 r
  cases rx
  obtain ⟨mA, J, _⟩ := ins_get I.hok ha
  obtain ⟨od, J, _⟩ := J.look
  obtain ⟨m, hF⟩ := I.fr
  refine PySem.W.len_K hF I.ok.mod.kin J hs hf ?_
  have e0 : Env0 X.prog X.w X.K X.mg X.base X.A.in1 X.stack s H := by
    have e := I.env0
    exact ⟨e.frames, e.mod, e.bs, e.bsz, e.funs, e.frf, e.hok, e.bare⟩
  have hl := F.len _ _ _ _ h
  have r2 : Vals [V.ref a] [Value.ref a] := .cons rfl .nil
  refine wpAny_call (codeAny_mono (F.run X.A.in1 X.stack s H ⟨[.ref a], []⟩ [.ref a] [.ref a] _ E hr.in1 e0 (by
    have := hb s [.ref a] I.kIn (by simpa using hl)
    simpa using this) r2 h) fun r s' hq => ?_)
  cases r with
  | error e => exact hx pins σ H s e s' I hq
  | ok fl =>
    cases fl with
    | ret w =>
      obtain ⟨z, H', I', rz, n, ez, h0, h1, q⟩ := I.after hq
      subst ez
      obtain ⟨t, rfl⟩ := rz
      exact ⟨⟨h0, h1⟩, .int n, H', I'.tok _, ⟨_, rfl⟩, q⟩
    | next => exact False.elim hq
    | brk => exact False.elim hq
    | cont => exact False.elim hq
def rEqO (C : Addr) (sp : Sp) (E : XK) : R2 := fun x y H Q => ∃ a b dx dy fs gs, x = .ref a ∧ y = .ref b ∧ H a = some (.ins C dx fs) ∧ H b = some (.ins C dy gs) ∧ sp [.ref a, .ref b] H (fun v H' => ∃ c, v = .bl c ∧ Q (.bl c) H') E
theorem op_eqO (F : FnOk X.prog X.w X.K X.mg X.base CX k f fd ps sp) (hs : PySem.W.findIn X.K (.ref C) "__eq__" = some (some (.ref f))) (hf : PySem.W.isFn X.K (.ref f) = true) (hr : Room k X.A) (hb : Binds X.K fd ps []) (hx : Passes CX X E) : OpR X (compareOp .Eq) (rEqO C sp E) := by
  intro pins s σ H x y v u Q I rx ry h
  obtain ⟨a, b, dx, dy, fs, gs, rfl, rfl, ha, hb', hr'⟩ := h
  cases rx
  cases ry
  show wpAny (model X.prog X.w) X.A (richCompare .Eq (.ref a) (.ref b)) (EP X pins σ Q) X.xe s
  obtain ⟨mA, J, _⟩ := ins_get I.hok ha
  obtain ⟨mB, J', _⟩ := ins_get I.hok hb'
  obtain ⟨od, J, _⟩ := J.look
  obtain ⟨od', J', _⟩ := J'.look
  obtain ⟨m, hF⟩ := I.fr
  refine PySem.W.cmp_K (op := .Eq) (tb := .ref C) hr.units0 hF I.ok.mod.kin J J'.type (by simp [PySem.W.notFirst]) hs hf ?_
  have hl := F.len _ _ _ _ hr'
  have r2 : Vals [V.ref a, V.ref b] [Value.ref a, Value.ref b] := .cons rfl (.cons rfl .nil)
  refine wpAny_call (codeAny_mono (F.run X.A X.stack s H ⟨[.ref a, .ref b], []⟩ [.ref a, .ref b] [.ref a, .ref b] _ E hr I.env0 (by
    have := hb s [.ref a, .ref b] I.kIn (by simpa using hl)
    simpa using this) r2 hr') fun r s' hq => ?_)
  cases r with
  | error e => exact hx pins σ H s e s' I hq
  | ok fl =>
    cases fl with
    | ret w =>
      obtain ⟨z, H', I', rz, c, ez, q⟩ := I.after hq
      subst ez
      cases rz
      exact ⟨.bl c, H', I', rfl, q⟩
    | next => exact False.elim hq
    | brk => exact False.elim hq
    | cont => exact False.elim hq
/-! x != y where the class has an __eq__ of its own alone -/
theorem ifBound_objNe {M : Model} {A : Around} {E' : Value → Shared → Prop} {s : Shared} {K : PySem.W.Frag} {x C : Addr} {ox : Obj} {od : Option Obj} {args : List Value} {Q : Option Value → Shared → Prop} (X : K.In s.heap) (I : PySem.W.InstAt s.heap x ox C od) (hs : PySem.W.findIn K (.ref C) "__ne__" = some (some (.builtin "object.__ne__")))
    (h : wpAny M A (call (.builtin "object.__ne__") (.ref x :: args)) (fun v => Q (some v)) E' s) : wpAny M A (callSpecialIfBound? (.ref x) "__ne__" args) Q E' s := by
  simp only [callSpecialIfBound?, bindSpecialIfBound?]
  refine wpAny_holding (wpAny_bind (wpAny_bind (wpAny_bind (I.type.here ((PySem.W.looks_findIn X hs).here ?_)))))
  refine wpAny_bind (wpAny_askSetting (wpAny_ite ?_))
  have fin : wpAny M A (call (.builtin "object.__ne__") ([.ref x] ++ args) >>= fun v => pure (some v)) Q E' s := wpAny_bind (wpAny_mono h (fun v s' h' => wpAny_pure h') fun _ _ h' => h')
  split
  · exact wpAny_bind (wpAny_of_eq (F.cmp_object.ne.bind _) (wpAny_pure (by exact fin)))
  · exact wpAny_tryCatch (wpAny_bind (wpAny_of_eq (F.cmp_object.ne.bind _) (wpAny_pure (by exact fin))))
def rNeO (C : Addr) (sp : Sp) (E : XK) : R2 := fun x y H Q => ∃ a b dx dy fs gs, x = .ref a ∧ y = .ref b ∧ H a = some (.ins C dx fs) ∧ H b = some (.ins C dy gs) ∧ sp [.ref a, .ref b] H (fun v H' => ∃ c, v = .bl c ∧ Q (.bl (!c)) H') E
theorem op_neO (Fn : FnOk X.prog X.w X.K X.mg X.base CX k f fd ps sp) (hs : PySem.W.findIn X.K (.ref C) "__eq__" = some (some (.ref f))) (hf : PySem.W.isFn X.K (.ref f) = true) (hne : PySem.W.findIn X.K (.ref C) "__ne__" = some (some (.builtin "object.__ne__"))) (hm : PySem.W.mroIn X.K C (.type "object") = some true)
    (hr : Room (k + 1) X.A) (hb : Binds X.K fd ps []) (hx : Passes CX X E) : OpR X (compareOp .NotEq) (rNeO C sp E) := by
  intro pins s σ H x y v u Q I rx ry h
  obtain ⟨a, b, dx, dy, fs, gs, rfl, rfl, ha, hb', hr'⟩ := h
  cases rx
  cases ry
  show wpAny (model X.prog X.w) X.A (richCompare .NotEq (.ref a) (.ref b)) (EP X pins σ Q) X.xe s
  obtain ⟨mA, J, _⟩ := ins_get I.hok ha
  obtain ⟨mB, J', _⟩ := ins_get I.hok hb'
  obtain ⟨od, J, _⟩ := J.look
  obtain ⟨od', J', _⟩ := J'.look
  have hu : X.A.units + 1 < cLine := by have := hr.units; omega
  have hl := Fn.len _ _ _ _ hr'
  have r2 : Vals [V.ref a, V.ref b] [Value.ref a, Value.ref b] := .cons rfl (.cons rfl .nil)
  have e0 : Env0 X.prog X.w X.K X.mg X.base X.A.in1 X.stack s H := by
    have e := I.env0
    exact ⟨e.frames, e.mod, e.bs, e.bsz, e.funs, e.frf, e.hok, e.bare⟩
  have inner : wpAny (model X.prog X.w) X.A.in1 (call (.ref f) [.ref a, .ref b]) (fun v s' => ∃ c, v = .bool c ∧ EP X pins σ Q (.bool !c) s') X.xe s := by
    refine wpAny_call (codeAny_mono (Fn.run X.A.in1 X.stack s H ⟨[.ref a, .ref b], []⟩ [.ref a, .ref b] [.ref a, .ref b] _ E hr.in1 e0 (by
      have := hb s [.ref a, .ref b] I.kIn (by simpa using hl)
      simpa using this) r2 hr') fun r s' hq => ?_)
    cases r with
    | error e => exact hx pins σ H s e s' I hq
    | ok fl =>
      cases fl with
      | ret w =>
        obtain ⟨z, H', I', rz, c, ez, q⟩ := I.after hq
        subst ez
        cases rz
        exact ⟨c, rfl, .bl !c, H', I', rfl, q⟩
      | next => exact False.elim hq
      | brk => exact False.elim hq
      | cont => exact False.elim hq
  have entry : ∀ {Q' : Fin → Shared → Prop}, (∀ c s', EP X pins σ Q (.bool !c) s' → Q' (.done (.ret (.bool !c))) s') → wpAny (model X.prog X.w) X.A.in1 (Builtin.«object.__ne__» ⟨[.ref a, .ref b], []⟩) Q' X.xe s := by
    intro Q' hq
    unfold Builtin.«object.__ne__»
    have hu1 : X.A.in1.units < cLine := hu
    have step : wpAny (model X.prog X.w) X.A.in1 (callSpecialIfBound? (.ref a) "__eq__" [.ref b]) (fun r s' => ∃ c, r = some (.bool c) ∧ EP X pins σ Q (.bool !c) s') X.xe s :=
      PySem.W.ifBound_K I.kIn J hs hf (wpAny_mono inner (fun v s' ⟨c, e, q⟩ => ⟨c, by rw [e], q⟩) fun _ _ e => e)
    repeat (first | with_reducible refine wpAny_cRoomFor hu1 ?_ | (with_reducible refine wpAny_bind (wpAny_mono step (fun r s' z => ?_) fun _ _ e => e)) | wp_step)
    obtain ⟨c, rfl, q⟩ := z
    dsimp only
    repeat (first | with_reducible refine wpAny_truthy_bool ?_ | wp_step)
    exact hq c _ q
  have one : wpAny (model X.prog X.w) X.A (tryCompare (.ref a) "__ne__" (.ref b)) (fun r s' => ∃ v, r = some v ∧ EP X pins σ Q v s') X.xe s := by
    unfold tryCompare
    refine wpAny_bind (ifBound_objNe I.kIn J hne (wpAny_call (codeAny_call_builtin F.cmp_object.ne.plain F.cmpEntry_ne (PySem.W.check_slot F.cmpKind_ne F.cmpSplit_ne (J.type.andThen (PySem.W.looks_mroIn I.kIn hm)) (F.cmpArgs_ne _ _) (entry fun c s' q => ?_)))))
    exact wpAny_pure ⟨_, rfl, q⟩
  obtain ⟨m, hF⟩ := I.fr
  have hn : PySem.W.notFirst X.K C (.ref C) = true := by simp [PySem.W.notFirst]
  simp only [richCompare, cmpInfo_NotEq, oneThing_ref]
  refine wpAny_holding (wpAny_bind (wpAny_cRoomFor (Nat.lt_of_succ_lt hu) ?_))
  refine wpAny_bind (J.type.here (wpAny_bind (J'.type.here ?_)))
  split
  · rename_i q
    simp at q
  · refine wpAny_bind (wpAny_pure ?_)
    simp only [Bool.false_eq_true, if_false]
    refine wpAny_bind (wpAny_mono one (fun r s' z => ?_) fun _ _ e => e)
    obtain ⟨v, rfl, hq⟩ := z
    exact wpAny_pure hq
end
end Fab
set_option maxHeartbeats 4000000
/-! t[::-1] of a tuple. -/
namespace Fab
open PySem L2 PySem.Spec PyProof.Rows
section
variable {prog : Program} {w : World} {A : Around} {E : Value → Shared → Prop} {s : Shared}
theorem adjust_rev (n : Nat) : Builtin.Slice.sliceAdjust none none (-1) (n : Int) = ((n : Int) - 1, -1) := by
  unfold Builtin.Slice.sliceAdjust
  simp
theorem places_rev (n : Nat) : Builtin.Slice.slicePlaces ((n : Int) - 1) (-1) (-1) = n := by
  unfold Builtin.Slice.slicePlaces
  simp
  all_goals omega
theorem pick_rev (xs : Array Value) : ((List.range xs.size).filterMap fun (m : Nat) => xs[(((xs.size : Nat) : Int) - 1 + (m : Int) * (-1)).toNat]?).toArray = xs.toList.reverse.toArray := by
  congr 1
  have e : ∀ k, k ≤ xs.size → ((List.range k).filterMap fun (m : Nat) => xs[(((xs.size : Nat) : Int) - 1 + (m : Int) * (-1)).toNat]?) = xs.toList.reverse.take k := by
    intro k
    induction k with
    | zero => intro _; simp
    | succ k ih =>
      intro hk
      rw [List.range_succ, List.filterMap_append, ih (by omega), List.take_succ]
      congr 1
      have h1 : (((xs.size : Nat) : Int) - 1 + (k : Int) * (-1)).toNat = xs.size - 1 - k := by omega
      have h2 : xs.toList.reverse[k]? = some xs[xs.size - 1 - k] := by
        rw [List.getElem?_reverse (by simp; omega)]
        simp
      simp only [List.filterMap_cons, List.filterMap_nil, h1, h2, Array.getElem?_eq_getElem (by omega : xs.size - 1 - k < xs.size)]
      rfl
  rw [e _ (Nat.le_refl _)]
  exact List.take_of_length_le (by simp)
theorem sliceApplied_rev {sl : Addr} {t : Tok} {n : Nat} {Q : Int × Int × Nat → Shared → Prop} (hs : s.heap.IsSliceOf sl .none .none (.int (-1) t)) (h : Q ((n : Int) - 1, -1, n) s) : wpAny (model prog w) A (Builtin.Slice.sliceApplied (.ref sl) (pure (n : Int))) Q E s := by
  obtain ⟨os, hos, hcs, hds⟩ := id hs
  unfold Builtin.Slice.sliceApplied Builtin.Slice.sliceFields
  refine wpAny_bind (wpAny_bind (wpAny_field hos hds (x := .none) rfl (wpAny_bind (wpAny_field hos hds (x := .none) rfl (wpAny_bind (wpAny_field hos hds (x := .int (-1) t) rfl (wpAny_pure ?_)))))))
  refine wpAny_bind (HT.slicePart_ (.int (-1) t) ?_)
  show wpAny _ _ (if ((-1 : Int) == 0) = true then _ else _) _ _ s
  rw [if_neg (by decide)]
  refine wpAny_bind (HT.slicePart_ .none (wpAny_bind (HT.slicePart_ .none (wpAny_bind (wpAny_pure ?_)))))
  show wpAny _ _ (match Builtin.Slice.sliceAdjust none none (-1) (n : Int) with | (lo, hi) => pure (lo, (-1 : Int), Builtin.Slice.slicePlaces lo hi (-1))) _ _ s
  rw [adjust_rev n]
  show wpAny _ _ (pure ((n : Int) - 1, (-1 : Int), Builtin.Slice.slicePlaces ((n : Int) - 1) (-1) (-1))) _ _ s
  rw [places_rev]
  exact wpAny_pure h
theorem getItem_tuple_rev {t sl : Addr} {items : Array Value} {tk : Tok} {Q : Value → Shared → Prop} (ht : IsTup s.heap t items) (hs : s.heap.IsSliceOf sl .none .none (.int (-1) tk))
    (h : Q (.ref s.heap.objs.size) { s with heap := s.heap.push { cls := .type "tuple", data := .seq items.toList.reverse.toArray } }) (hsz : items.size ≤ sizeLine) : wpAny (model prog w) A (getItem (.ref t) (.ref sl)) Q E s := by
  have htake : sizeOk (.seq items.toList.reverse.toArray) := by
    show items.toList.reverse.toArray.size ≤ sizeLine
    rw [List.size_toArray, List.length_reverse, Array.length_toList]
    exact hsz
  obtain ⟨os, hos, hcs, hds⟩ := id hs
  have hTs : s.TypeIs (.ref sl) "slice" := ⟨os, hos, hcs⟩
  unfold getItem
  try with_reducible refine wpAny_holding ?_
  first | refine wpAny_bind (wpAny_pure ?_) | skip
  refine wpAny_bind (wpAny_sequenceKey ht.typeIs (by decide) ?_)
  refine wpAny_bind (wpAny_callSpecial?_slot (name := Str.ofString "__getitem__") ht.typeIs PyProof.Rows.slot_tuple_getitem
    (wpAny_call_entry PyProof.Rows.slot_tuple_getitem ht.typeIs entry_tuple_getitem ?_ (args_tuple_getitem _ _)))
  show wpAny _ _ (Builtin.Tuple.tupleItemsOf (.ref t) >>= _) _ _ s
  refine wpAny_bind (PyProof.Rows.tupleItemsOf_ ht ?_)
  refine wpAny_bind (wpAny_typeOf hTs ?_)
  rw [if_pos (by decide)]
  refine wpAny_bind (sliceApplied_rev (n := items.size) hs ?_)
  show wpAny _ _ (if (((items.size : Nat) : Int) - 1 == 0 && (-1 : Int) == 1 && items.size == items.size) = true then _ else _) _ _ s
  rw [if_neg (by simp), pick_rev]
  first
    | exact wpAny_bind (m := Builtin.Tuple.tupleExact _) (wpAny_newObj_type (wpAny_pure ⟨_, rfl, wpAny_pure h⟩) htake)
    | exact wpAny_bind (m := Builtin.Tuple.tupleExact _) (wpAny_newObj_type (wpAny_bind (wpAny_pure (wpAny_pure ⟨_, rfl, wpAny_pure h⟩))) htake)
    | exact wpAny_bind (wpAny_bind (m := Builtin.Tuple.tupleExact _) (wpAny_newObj_type (wpAny_pure (wpAny_pure ⟨_, rfl, wpAny_pure h⟩)) htake))
    | exact wpAny_bind (wpAny_bind (m := Builtin.Tuple.tupleExact _) (wpAny_newObj_type (wpAny_pure ⟨_, rfl, wpAny_pure h⟩) htake))
end
section
variable {X : Cx}
def tRevTF (te : TE) : TE := fun σ H Q => te σ H fun x H1 => ∃ a, x = .ref a ∧ ∃ xs, H1 a = some (.tup xs) ∧ newTup H1 xs.reverse fun p H' => Q (.ref p) H'
theorem pe_revTF {e : Expr} {te : TE} {k : Nat} {p1 p2 p3 pos : Pos} (he : PE X e te) : PE X (.Subscript e (.Slice none none (some (.UnaryOp .USub (.Constant (.int 1) k p1) p2)) p3) pos) (tRevTF te) := by
  refine ⟨fun pins s σ H Q I h => ?_⟩
  refine Subscript_ (thn (he.run pins s σ H _ I h) fun v s1 ⟨x, H1, I1, r1, q1⟩ => ?_)
  obtain ⟨a, ex, xs, hx, q⟩ := q1
  subst ex
  cases r1
  have hst : PO X (some (.UnaryOp .USub (.Constant (.int 1) k p1) p2)) (tPart (tUn (rU fun i => .int (-i)) (tC (.int 1)))) := po_some (pe_un un_neg pe_int)
  refine wpAny_Slice (thn (po_none.run pins s1 σ H1 (fun o H2 => o = none ∧ H2 = H1) I1 ⟨rfl, rfl⟩) fun vl s2 ⟨l, H2, I2, pl, el, e2⟩ => ?_)
  subst el e2
  refine thn (po_none.run pins s2 σ H2 (fun o H3 => o = none ∧ H3 = H2) I2 ⟨rfl, rfl⟩) fun vu s3 ⟨u, H3, I3, pu, eu, e3⟩ => ?_
  subst eu e3
  refine thn (hst.run pins s3 σ H3 (fun o H4 => o = some (-1) ∧ H4 = H3) I3 ⟨1, rfl, -1, rfl, rfl, rfl⟩) fun vs s4 ⟨o, H4, I4, ps, eo, e4⟩ => ?_
  subst eo e4
  have I5 : Inv X pins σ H4 { s4 with heap := s4.heap.push { cls := .type "slice", data := .fields #[vl, vu, vs] } } := I4.kept (t' := s4.toks) fun b ob q => Heap.get?_push_of_some _ q
  obtain ⟨its, r, ht, hz⟩ := I5.tuple (SqT.of hx)
  have hlen := r.length
  cases pl
  cases pu
  cases ps with
  | int i t =>
    show wpAny (model X.prog X.w) X.A (subscriptTail e (.Slice none none (some (.UnaryOp .USub (.Constant (.int 1) k p1) p2)) p3) (.ref a) (.ref s4.heap.objs.size)) (EP X pins σ Q) X.xe { s4 with heap := s4.heap.push { cls := .type "slice", data := .fields #[.none, .none, .int (-1) t] } }
    refine tail_any (ops := [.ref a, .ref s4.heap.objs.size]) ht.typeIs (PyProof.Rows.slot_tuple_getitem.lookup) ?_ (by with_unfolding_all rfl)
    refine getItem_tuple_rev ht (Heap.IsSliceOf.new _ .none .none (.int (-1) t)) ?_ (by rw [List.size_toArray]; omega)
    refine ⟨.ref _, _, I5.laid (t' := s4.toks) (o := .tup xs.reverse) (fun b ob q => Heap.get?_push_of_some _ q) (Nat.le_refl _) ?_, rfl, q.mk _ (I5.hok.fresh (Nat.le_refl _))⟩
    exact ⟨by rw [List.length_reverse]; exact hz, _, r.reverse, by
      have := IsTup.new (s4.heap.push { cls := .type "slice", data := .fields #[.none, .none, .int (-1) t] }) its.reverse.toArray
      simpa using this⟩
end
end Fab
set_option maxHeartbeats 4000000
/-! repr where an empty dict may stand: by itself, or behind a word. -/
namespace Fab
open PySem L2
open PyProof.Rows (envOfC)
section
variable {X : Cx}
/-- x is told by repr as d is -/
inductive Rp (K : PySem.W.Frag) (H : Hp) : V → PyData → Prop
  | dp {x : V} {d : PyData} (h : Dp K H x d) (hs : d.showable = true) (hn : d.hasDict = false) (hd : d.depth ≤ 60) (hz : d.shown.length ≤ sizeLine) : Rp K H x d
  | nd {p : Addr} (h : H p = some (.dK [])) : Rp K H (.ref p) (.dict [])
  | wd {t p : Addr} {w : Str} (h : H t = some (.tup [.str w, .ref p])) (hp : H p = some (.dK [])) (hz : (PyData.tuple [.str w, .dict []]).shown.length ≤ sizeLine) : Rp K H (.ref t) (.tuple [.str w, .dict []])
theorem dk0_reads {pins : List (Addr × Obj)} {σ : St} {H : Hp} {s : Shared} {p : Addr} (I : Inv X pins σ H s) (h : H p = some (.dK [])) : (p == sysModules) = false ∧ Reads s.heap (.ref p) (.dict []) [p] := by
  have q : ObjOk X.prog X.w H s.heap p (.dK []) := I.hok p _ h
  obtain ⟨_, hsys, vs, hv, o, es, ep, ho, hx, hd, _, he, _⟩ := q
  cases hv
  refine ⟨hsys, ?_⟩
  have e0 : es.toList = [] := by
    cases hl : es.toList with
    | nil => rfl
    | cons a l => rw [hl] at he; cases he
  have := Reads.dict (h := s.heap) (kvs := []) (as := []) (bs := []) ho hx.1 hd (by rw [e0]; exact .nil) (by rw [e0]; exact .nil)
  simpa using this
def rReprQ (K : PySem.W.Frag) : List V → Hp → VK → Prop := fun xs H Q => ∃ x d, xs = [x] ∧ Rp K H x d ∧ Q (.str d.shown) H
theorem call_reprQ (hg : X.A.guards = some []) (hu : X.A.units + 64 < cLine) : CallR X (.builtin "repr") (rReprQ X.K) := by
  intro pins s σ H xs us Q I r h
  obtain ⟨x, d, rfl, hd, q⟩ := h
  cases hd with
  | dp h hs hn hd hz => exact call_repr hg hu pins s σ H _ us Q I r ⟨x, d, rfl, h, hs, hn, hd, hz, q⟩
  | nd h =>
    obtain ⟨u, rfl, rx⟩ := vals1 r
    cases rx
    obtain ⟨hsys, rd⟩ := dk0_reads I h
    refine repr_of_reads' rd (by decide) (fun _ hm => ?_) hg (by simp [PyData.depth, PyData.depthKv]; omega) (fun _ _ z => z) (fun h' t tk kp => ⟨.str _, H, I.kept kp, ⟨_, rfl⟩, q⟩) (by decide)
    rw [List.mem_singleton.mp hm] at hsys
    simp at hsys
  | @wd t p w h hp hz =>
    obtain ⟨u, rfl, rx⟩ := vals1 r
    cases rx
    obtain ⟨hsys, rd⟩ := dk0_reads I hp
    have rt : ∃ as, Reads s.heap (.ref t) (.tuple [.str w, .dict []]) as ∧ ∀ a ∈ as, (a == sysModules) = false := by
      obtain ⟨its, rv, ⟨o, ho, hc, n, hd⟩, _⟩ := I.tuple (SqT.of h)
      cases rv with
      | cons r1 rr =>
        cases rr with
        | cons r2 rn =>
          cases rn
          obtain ⟨t1, rfl⟩ := r1
          cases r2
          refine ⟨_, Reads.tuple ho hc hd (.cons (.str _ t1) (.cons rd .nil)), fun a ha => ?_⟩
          simp at ha
          subst ha
          exact hsys
    obtain ⟨as, rd2, hno⟩ := rt
    refine repr_of_reads' rd2 (by simp [PyData.showable, PyData.showableAll, PyData.showableKv]) (fun _ hm => ?_) hg (by simp [PyData.depth, PyData.depthAll, PyData.depthKv]; omega) (fun _ _ z => z) (fun h' t tk kp => ⟨.str _, H, I.kept kp, ⟨_, rfl⟩, q⟩) hz
    have := hno _ hm
    simp at this
end
end Fab
set_option maxHeartbeats 4000000
/-! a lambda with one parameter that has an int as its default, handed to a def and called without arguments -/
namespace Fab
open PySem PySem.Spec PyProof.Rows L2 LamX
/-- the tuple of the defaults -/
def DfO (u : Addr) (n : Int) : HO := .ext fun g => ∃ k, g.get? u = some (PySem.W.kdv_tup [.int n k])
abbrev ofDf (q : Str) (ps : Arguments) (e : Expr) (sc : Scope) (cl : List (Str × Addr)) (u : Addr) (doc pm : Value) (d : Addr) (ct : Value) : Obj := PySem.W.kdv_obj "<lambda>" q ps (.expr e) sc cl (.ref u) doc pm d ct
section
variable {X : Cx} {pins : List (Addr × Obj)} {σ : L2.St} {H : Hp} {s : Shared}
theorem df_ok {P : Program} {w : World} {H : Hp} {g : Heap} {u : Addr} {n : Int} {k : Tok} (e : g.get? u = some (PySem.W.kdv_tup [.int n k])) : ObjOk P w H g u (DfO u n) := ⟨⟨k, e⟩, ⟨_, e⟩, fun _ _ ⟨k', q⟩ st => ⟨k', st _ q⟩⟩
theorem df_ne {u : Addr} {n : Int} (ps : Array Value) : DfO u n ≠ .tbl ps := fun z => by
  unfold DfO at z
  cases z
/-- it is made: the tuple of defaults is new, its code object new or found -/
theorem df_make {T : List (Addr × Str)} {cc tp : Addr} {n : Int} {k : Nat} {ps : Arguments} {e : Expr} {sc : Scope} {at_ cp : Pos} {E Q : Value → Shared → Prop} (I : Inv X pins σ H s) (tb : TabB X.base X.mg cc tp) (own : X.env.code = .ref cc) (inT : (tp, X.env.qual ++ "<lambda>") ∈ T)
    (one : ∀ p ∈ T, p.1 = tp → p.2 = X.env.qual ++ "<lambda>") (ts : Tabs T H) (dv : ps.defaults = [.Constant (.int n) k cp]) (kw : ps.kw_defaults = []) (fre : ∀ y ∈ sc.names, y.2 = .free → ∃ c, X.env.cells.lookup y.1 = some c)
    (nx : ∀ (f d u : Addr) (doc pm ct : Value) (H1 : Hp) (s1 : Shared), Inv X pins σ H1 s1 → ExtN H H1 → Tabs T H1 → s1.heap.get? f = some (ofDf (X.env.qual ++ "<lambda>") ps e sc (cloFrom X.env.cells sc.names []) u doc pm d ct) → H1 f = none → f ∉ frs X.stack → H1 d = some (CodeO d (X.env.qual ++ "<lambda>")) →
      H1 u = some (DfO u n) → Q (.ref f) s1) : wpAny (model X.prog X.w) X.A (eval (.Lambda ps e sc at_) X.env) Q E s := by
  refine PySem.W.kdv_lam (by rw [dv]; rfl) kw ?_
  rw [dv]
  refine PySem.W.kdv_all1 (thn ((pe_int (X := X) (i := n) (j := k) (pos := cp)).run pins s σ H (fun v H' => v = .int n ∧ H' = H) I ⟨rfl, rfl⟩) fun v s0 ⟨y, H0, I0, ry, ey, eh⟩ => PySem.W.kdv_all0 ?_)
  subst ey
  obtain rfl : H = H0 := eh.symm
  obtain ⟨t, rfl⟩ := ry
  rw [makeFunction_eq]
  simp only [List.zip_nil_right, List.filterMap_nil, List.isEmpty_nil, List.isEmpty_cons, if_true, pure_bind, Bool.false_eq_true, if_false]
  refine wpAny_bind (wpAny_newTextTuple ?_)
  have away : ∀ f : Addr, s0.heap.objs.size ≤ f → f ∉ frs X.stack := by
    intro f le z
    cases List.mem_cons.mp (I0.stkSub f z) with
    | inl q =>
      have lt := I0.lt
      rw [← q] at lt
      exact absurd lt (Nat.not_lt.mpr le)
    | inr q => exact I0.nofs le q
  -- the tuple is tracked from now on
  have hz : H s0.heap.objs.size = none := I0.hok.fresh (Nat.le_refl _)
  have grow : ∀ b o, s0.heap.get? b = some o → (s0.heap.push (PySem.W.kdv_tup [.int n t])).get? b = some o := fun b o q => Heap.get?_push_of_some _ q
  have I2 := Inv.laidN (t' := s0.toks) (o := DfO s0.heap.objs.size n) I0 grow (Heap.get?_none_of_le (Nat.le_refl _)) hz (df_ok (Heap.get?_push_size _ rfl))
  have ex2 : ExtN H (upd H s0.heap.objs.size (DfO s0.heap.objs.size n)) := fun b o q _ => by
    rw [upd_ne (ne_of_none q hz)]
    exact q
  have ts2 : Tabs T (upd H s0.heap.objs.size (DfO s0.heap.objs.size n)) := ts.ext fun b o q => by
    rw [upd_ne (ne_of_none q hz)]
    exact q
  have hu2 : (upd H s0.heap.objs.size (DfO s0.heap.objs.size n)) s0.heap.objs.size = some (DfO s0.heap.objs.size n) := upd_same
  have sz2 : (s0.heap.push (PySem.W.kdv_tup [.int n t])).objs.size = s0.heap.objs.size + 1 := Heap.size_push _ _
  generalize hH2 : upd H s0.heap.objs.size (DfO s0.heap.objs.size n) = H2 at I2 ex2 ts2 hu2
  obtain ⟨tt, atT, tri, amg⟩ := ts2 _ inT
  have real := I2.hok tp _ atT
  cases fnd : codeAmong at_ tt.toList with
  | some cv =>
    obtain ⟨d, rfl, hd⟩ := amg at_ cv fnd
    refine PySem.W.kdv_makeTailHit (mg := X.mg) (c := cc) (P := tp) (ps := tt) (closure_ok fre) I2.ok.glob (I2.mod.glob.keeps I2.bk) own (tb.code.keeps I2.bk) real tri fnd (tb.bm.keeps I2.bk) fun ct doc g tk kp le => ?_
    have le' : (s0.heap.push (PySem.W.kdv_tup [.int n t])).objs.size ≤ g.objs.size := le
    exact nx _ d _ _ _ _ H2 _ (I2.kept fun b o q => Heap.get?_push_of_some _ (kp b o q)) ex2 ts2 (Heap.get?_push_size _ rfl) (I2.hok.fresh le) (away _ (by omega)) hd hu2
  | none =>
    refine PySem.W.kdv_makeTail (mg := X.mg) (c := cc) (P := tp) (ps := tt) (closure_ok fre) I2.ok.glob (I2.mod.glob.keeps I2.bk) own (tb.code.keeps I2.bk) real tri fnd tb.gP (tb.bm.keeps I2.bk) fun d ct doc g tk kp ge lt rec_ new_ => ?_
    obtain ⟨d2, oc, vs, t2, ed, hoc, hdat, hname⟩ := rec_
    cases ed
    have ge' : (s0.heap.push (PySem.W.kdv_tup [.int n t])).objs.size ≤ d := ge
    have hd0 : H2 d = none := I2.hok.fresh ge
    have I3 := inv_table (t' := tk) (more := #[rawInt at_.line, rawInt at_.col, .ref d]) (h' := g.push (ofDf (X.env.qual ++ "<lambda>") ps e sc (cloFrom X.env.cells sc.names []) s0.heap.objs.size doc ((X.mg "__name__").getD .none) d ct)) I2 atT
      (fun b o nb q => Heap.get?_push_of_some _ (kp b o nb q)) (Heap.get?_push_of_some _ new_) ge ⟨oc, vs, t2, Heap.get?_push_of_some _ hoc, hdat, hname⟩
    have notT : ∀ {b o}, H2 b = some o → (∀ p, o ≠ .tbl p) → b ≠ tp := fun q no z => by
      subst z
      rw [atT] at q
      exact no tt (Option.some.inj q).symm
    have ex3 : ExtN H2 (upd (upd H2 tp (.tbl (tt ++ #[rawInt at_.line, rawInt at_.col, .ref d]))) d (CodeO d (X.env.qual ++ "<lambda>"))) := fun b o q no => by
      rw [upd_ne (ne_of_none q hd0), upd_ne (notT q no)]
      exact q
    have lst : (tt ++ #[rawInt at_.line, rawInt at_.col, .ref d]).toList = tt.toList ++ [rawInt at_.line, rawInt at_.col, .ref d] := by simp
    refine nx g.objs.size d s0.heap.objs.size doc _ ct _ _ I3 (ex2.trans ex3) (fun p hp => ?_) (Heap.get?_push_size _ rfl) ?_ (away _ (by omega)) upd_same (ex3 _ _ hu2 df_ne)
    · by_cases same : p.1 = tp
      · refine ⟨tt ++ #[rawInt at_.line, rawInt at_.col, .ref d], ?_, ?_, fun pos cv q => ?_⟩
        · rw [same, upd_ne (ne_of_none atT hd0), upd_same]
        · rw [lst]
          exact PySem.TriplesOk_snoc _ _ _ _ tri
        · rw [one p hp same]
          rw [lst] at q
          cases among_app _ tri q with
          | inl q =>
            obtain ⟨c0, e0, h0⟩ := amg pos cv q
            exact ⟨c0, e0, ex3 _ _ h0 codeO_ne⟩
          | inr q => exact ⟨d, q, upd_same⟩
      · obtain ⟨t3, q1, q2, q3⟩ := ts2 p hp
        refine ⟨t3, ?_, q2, fun pos cv q => ?_⟩
        · rw [upd_ne (ne_of_none q1 hd0), upd_ne same]
          exact q1
        · obtain ⟨c0, e0, h0⟩ := q3 pos cv q
          exact ⟨c0, e0, ex3 _ _ h0 codeO_ne⟩
    · have n1 : g.objs.size ≠ d := by omega
      have n2 : g.objs.size ≠ tp := by
        have : tp < (s0.heap.push (PySem.W.kdv_tup [.int n t])).objs.size := Heap.lt_size real
        exact Nat.ne_of_gt (Nat.lt_of_lt_of_le this (Nat.le_trans ge' (Nat.le_of_lt lt)))
      rw [upd_ne n1, upd_ne n2]
      exact I2.hok.fresh (show (s0.heap.push (PySem.W.kdv_tup [.int n t])).objs.size ≤ g.objs.size by omega)
/-- the names of such a lambda: its parameter alone is its own -/
structure DfS (p : Str) (around sc : Scope) : Prop where
  kd : sc.kind = .function
  nco : sc.isCoroutine = false
  nge : sc.isGenerator = false
  par : sc.names.lookup p = some .local
  loc : ∀ y ∈ sc.names, y.2 = .local → y.1 = p
  nce : ∀ y ∈ sc.names, y.2 ≠ .cell
  fre : ∀ y ∈ sc.names, y.2 = .free → around.names.lookup y.1 = some .cell ∨ around.names.lookup y.1 = some .free
def dfSB (p : Str) (around sc : Scope) : Bool := decide (sc.kind = .function) && !sc.isCoroutine && !sc.isGenerator && decide (sc.names.lookup p = some .local) &&
  sc.names.all fun y => (!decide (y.2 = .local) || decide (y.1 = p)) && !decide (y.2 = .cell) && (!decide (y.2 = .free) || decide (around.names.lookup y.1 = some .cell) || decide (around.names.lookup y.1 = some .free))
theorem dfS_by {p : Str} {around sc : Scope} (h : dfSB p around sc = true) : DfS p around sc := by
  simp only [dfSB, Bool.and_eq_true, Bool.or_eq_true, Bool.not_eq_true', decide_eq_true_eq, decide_eq_false_iff_not, List.all_eq_true] at h
  obtain ⟨⟨⟨⟨k1, k2⟩, k3⟩, k4⟩, k5⟩ := h
  refine ⟨k1, k2, k3, k4, fun y hy e => ?_, fun y hy => (k5 y hy).1.2, fun y hy e => ?_⟩
  · exact (k5 y hy).1.1.elim (fun z => absurd e z) id
  · have := (k5 y hy).2
    rcases this with (z | z) | z
    · exact absurd e z
    · exact .inl z
    · exact .inr z
theorem DfS.has {p : Str} {X : Cx} {sc : Scope} (S : DfS p X.env.scope sc) (ok : X.Ok) : ∀ y ∈ sc.names, y.2 = .free → ∃ c, X.env.cells.lookup y.1 = some c := fun y hy e => ok.has _ (S.fre y hy e)
/-- its body is entered: the parameter is told by the frame alone -/
theorem df_start {p : Str} {HZ : Hp} {s1 : Shared} {A : Around} {outer : List Env} {E : XK} {sc : Scope} {f d : Addr} {g : Heap} {tk : Nat} {m : Str → Option Value} (I : L2.Inv X pins σ H s) (S : DfS p X.env.scope sc) (np : p ∉ X.N) (e0 : Env0 X.prog X.w X.K X.mg X.base A outer s1 HZ) (hd : A.handled = none)
    (un : Un (frs X.stack) [] H HZ s.heap s1.heap) (ns : g.Ns s1.heap.objs.size m) (kp : ∀ b o, s1.heap.get? b = some o → g.get? b = some o) : L2.Inv (lamCx X A outer s1 HZ E sc f d) [] σ HZ { s1 with heap := g, toks := tk } := by
  have fr := S.has I.ok
  have seen : ∀ {y}, sc.names.lookup y = some .free → ∃ c, (cloFrom X.env.cells sc.names []).lookup y = some c := fun {y} q => mem_lookup (cloFrom_has (cells := X.env.cells) (acc := []) (PySem.mem_of_lookup q))
  have back : ∀ {y c}, (cloFrom X.env.cells sc.names []).lookup y = some c → X.env.cells.lookup y = some c := fun {y c} q => by
    cases cloFrom_mem (PySem.mem_of_lookup q) with
    | inl z => cases z
    | inr z =>
      obtain ⟨z1, z2⟩ := z
      obtain ⟨c1, z3⟩ := fr _ z1 rfl
      have z3 : X.env.cells.lookup y = some c1 := z3
      rw [z3] at z2
      rw [z3, z2]
      rfl
  have cells : ∀ {c : Addr} {v : Option Value}, H c = none → s.heap.IsCell c v → g.IsCell c v := fun {c v} n ⟨o, ho, hv⟩ => by
    obtain ⟨sl, q⟩ := un.any ho n (by simp)
    exact ⟨_, kp _ _ q, hv⟩
  have nil_ : ∀ b : Addr, b ∉ (lamCx X A outer s1 HZ E sc f d).ex := fun b z => absurd (show b ∈ ([] : List Addr) from z) (by simp)
  have isF : ∀ {y}, sc.names.lookup y = some .cell ∨ sc.names.lookup y = some .free → sc.names.lookup y = some .free := fun {y} q => q.elim (fun z => absurd rfl (S.nce _ (PySem.mem_of_lookup z))) id
  refine ⟨⟨e0.mod, S.kd, rfl, rfl, Nat.le_refl _, fun y z c q1 q2 => I.ok.inj y z c (back q1) (back q2), fun y hy => seen (isF hy), fun y c z _ => ?_, fun _ => hd, Around.frames_deeper e0.frames, .inr ⟨rfl, rfl⟩, fun b z => absurd z (nil_ b), e0.bs, e0.bsz, fun b _ _ => nil_ b,
      fun b z => absurd z (nil_ b), e0.funs, e0.frf⟩, rfl, e0.bare, Un.kept kp, ⟨_, ns, fun i y v q1 q2 q3 => ?_⟩, fun y c q => ?_, e0.hok.fresh (Nat.le_refl _), fun y c q => ?_, fun q hq => absurd (show q ∈ ([] : List (Addr × Obj)) ++ [] from hq) (by simp), e0.hok.kept kp, I.len⟩
  · have z : false = true := z
    cases z
  · have hy : sc.names.lookup y = some .free := by
      rcases (show Vis sc y from q3) with z | z | z
      · have : y = p := S.loc _ (PySem.mem_of_lookup z) rfl
        exact absurd (this ▸ List.mem_of_getElem? (show X.N[i]? = some y from q1)) np
      · exact isF (.inl z)
      · exact z
    obtain ⟨m0, _, hl⟩ := I.loc
    have vis : Vis X.env.scope y := (S.fre _ (PySem.mem_of_lookup hy) rfl).elim (fun z => .inr (.inl z)) (fun z => .inr (.inr z))
    obtain ⟨u, ru, st⟩ := hl i y v q1 q2 vis
    obtain ⟨c2, h2⟩ := seen hy
    refine ⟨u, ru, .inr ⟨.inr hy, c2, h2, ?_⟩⟩
    have c1 := back h2
    cases st with
    | inl z =>
      have z1 : X.env.scope.names.lookup y = some .local := z.1
      rcases S.fre _ (PySem.mem_of_lookup hy) rfl with z2 | z2
      · rw [show X.env.scope.names.lookup y = _ from z2] at z1
        cases z1
      · rw [show X.env.scope.names.lookup y = _ from z2] at z1
        cases z1
    | inr z =>
      obtain ⟨_, c3, z3, z4⟩ := z
      rw [c1] at z3
      cases z3
      exact cells (I.freeC y _ c1) z4
  · obtain ⟨v, z⟩ := I.cell y c (back q)
    exact ⟨v, cells (I.freeC y c (back q)) z⟩
  · obtain ⟨v, o, ho, _⟩ := I.cell y c (back q)
    exact un.free c o ho (I.freeC y c (back q)) (by simp)
/-- how its call binds: the default goes to the parameter -/
def DfB (p : Str) (n : Int) (ps : Arguments) (e : Expr) (sc : Scope) : Prop := ∀ (q : Str) (cl : List (Str × Addr)) (u : Addr) (doc pm cv ct : Value), ∃ k : Option (Array Value) → Sem (List (Str × Value)), bindArgs (PySem.W.kdv_fn "<lambda>" q ps (.expr e) sc cl (.ref u) doc pm cv ct) ⟨[], []⟩ = seqItems? (.ref u) >>= k ∧ ∀ t, k (some #[.int n t]) = pure [(p, .int n t)]
/-- the call, within the def that got it -/
theorem df_act {p : Str} {n : Int} {CXg : CXT} {Eg : XK} {Ng : List Str} {qg : Str} {sg : Scope} {g f d u : Addr} {cdg doc pm ct : Value} {ps : Arguments} {e : Expr} {sc : Scope} {k i : Nat} {a : Str} {pn : List (Addr × Obj)} {xe : Value → Shared → Prop} {W : WX} {E : XK} {tb : TE} {p1 p2 : Pos}
    (I : L2.Inv X pins σ H s) (S : DfS p X.env.scope sc) (np : p ∉ X.N) (hf : s.heap.get? f = some (ofDf (X.env.qual ++ "<lambda>") ps e sc (cloFrom X.env.cells sc.names []) u doc pm d ct)) (nf : H f = none) (nst : f ∉ frs X.stack) (bd : DfB p n ps e sc)
    (tk : Takes ((cxOf CXg X.prog X.w X.K X.mg X.base Ng qg sg g cdg X.A X.stack s H Eg).tr pn xe) W) (hW : ∀ cls d σ' H', E cls d H' → W cls d σ' H') (room : Room (k + 1) (X.A.deeper (envOfC qg sg s.heap.objs.size g cdg)))
    (does : ∀ (A : Around) (outer : List Env) (s : Shared) (H : Hp), Room k (A.deeper (lamEnv X sc s.heap.objs.size f d)) → PE (lamCx X A outer s H E sc f d) e tb) (at_ : Ng[i]? = some a) (vis : Vis sg a) (nd : (a == ("__debug__" : Str)) = false := by decide) (nc : (a == ("__classdict__" : Str)) = false := by decide) :
    PE ((cxOf CXg X.prog X.w X.K X.mg X.base Ng qg sg g cdg X.A X.stack s H Eg).tr pn xe) (.Call (.Name a p1) [] [] p2) (fun σZ HZ Q => σZ[i]? = some (some (.ref f)) ∧ HZ d = some (CodeO d (X.env.qual ++ "<lambda>")) ∧ HZ u = some (DfO u n) ∧ tb σ HZ Q) := by
  refine ⟨fun pz sz σz Hz Q Iz h => ?_⟩
  obtain ⟨h1, h2, h3, h4⟩ := h
  refine wpAny_Call_Name_kw (thn ((pe_var (pos := p1) (i := i) at_ vis nd nc).run pz sz σz Hz (fun v H1 => v = .ref f ∧ H1 = Hz) Iz ⟨.ref f, h1, rfl, rfl⟩) fun x s1 ⟨v, H1, I1, rv, ev, eh⟩ => ?_)
  subst ev
  obtain rfl : Hz = H1 := eh.symm
  obtain rfl : x = Value.ref f := rv
  have fn := I1.base.keep f _ hf nf nst (fun z => nomatch (show f ∈ ([] : List Addr) from z))
  refine PySem.W.callWith_F0 ⟨_, _, _, _, fn⟩ ?_
  obtain ⟨⟨oc, vs, t, hoc, hdat, hname⟩, _, _⟩ := I1.hok d _ h2
  obtain ⟨⟨t0, hu⟩, _, _⟩ := I1.hok u _ h3
  have unz : Un (frs X.stack) [] H Hz s.heap s1.heap := I1.base
  obtain ⟨kk, b1, b2⟩ := bd (X.env.qual ++ "<lambda>") (cloFrom X.env.cells sc.names []) u doc pm (.ref d) ct
  have ran : codeAny (model X.prog X.w) (X.A.deeper (envOfC qg sg s.heap.objs.size g cdg)) (.call (.ref f) ⟨[], []⟩) (CR (L2.CX X.prog X.w) (envOfC qg sg s.heap.objs.size g cdg :: X.stack) X.prog X.w Hz s1 Q E) s1 := by
    refine PySem.W.kla_callFunE room.depth fn rfl S.nco S.nge rfl ⟨d, oc, vs, t, rfl, hoc, hdat, hname⟩ ?_
    refine BindsTo.of_defaults (binds := [(p, .int n t0)]) rfl hu rfl b1 (b2 t0) _ _ _ _ ?_
    refine wpAny_newFunctionEnv (fun y hy => S.nce y hy) (fun y hy => ?_) (fun g2 ns sb => ⟨I1.nolimit.fresh _ sb, ?_⟩) S.kd
    · rw [List.mem_singleton.mp hy]
      exact S.par
    · show codeAny _ _ (.expr e (lamEnv X sc s1.heap.objs.size f d)) _ _
      have kp : ∀ b o, s1.heap.get? b = some o → g2.get? b = some o := fun b o q => sb.extBut b o (Nat.ne_of_lt (Heap.lt_size q)) (Heap.get?_push_of_some _ q)
      refine PySem.W.kla_codeExpr (wpAny_mono ((does _ _ s1 Hz (room.deeper _)).run [] _ _ Hz Q (df_start I S np I1.env0 room.hd unz ns kp) h4) (fun v s2 ⟨w2, H2, J, rw2, q2⟩ => ?_) fun _ _ q => q)
      exact ⟨w2, H2, J.os, J.bare, J.base, J.hok, rw2, q2⟩
  have ps_ : Passes (L2.CX X.prog X.w) ((cxOf CXg X.prog X.w X.K X.mg X.base Ng qg sg g cdg X.A X.stack s H Eg).tr pn xe) E := passes_call tk hW
  refine wpAny_call (codeAny_mono ran fun r s2 hq => ?_)
  match r, hq with
  | .error er, hq => exact ps_ pz σz Hz s1 er s2 I1 hq
  | .ok (.ret _), hq => exact I1.after hq
  | .ok .next, hq => exact hq.elim
  | .ok .brk, hq => exact hq.elim
  | .ok .cont, hq => exact hq.elim
/-- what a def makes of a reading bears a fact beside it that stays -/
def Bears (TT : (XK → Hp → VK → Prop) → Hp → VK → Prop) : Prop := ∀ (F : Hp → Prop) (tl : XK → Hp → VK → Prop) (H : Hp) (Q : VK), (∀ H', Same H H' → F H') → TT tl H Q → TT (fun E H' Q' => F H' ∧ tl E H' Q') H Q
/-- x(lambda p=n: e) -/
theorem pe_lamD {T : List (Addr × Str)} {TT : (XK → Hp → VK → Prop) → Hp → VK → Prop} {x a p : Str} {n : Int} {kk : Nat} {cp : Pos} {g cc tp : Addr} {k : Nat} {pg : Arguments} {bg : List Stmt} {sg : Scope} {dV kV doc pm cdv ct oc : Value} {an od : Option Addr} {osl : Array (Option Value)} {Ng : List Str}
    {ps : Arguments} {e : Expr} {sc : Scope} {t : XK → TE} {p0 lp pos : Pos} (gl : Gl X x) (mgx : X.mg x = some (.ref g)) (kp : PySem.W.keepIn X.K (.ref g) = true) (lk : X.K.lookup g = some ⟨oc, od, .func (PySem.W.fnOf x x pg bg sg dV kV doc pm an cdv ct), osl⟩) (cdx : PySem.W.codeIn X.K cdv x = true)
    (bi : L2.Binds X.K (PySem.W.fnOf x x pg bg sg dV kV doc pm an cdv ct) [a] []) (Sg : FnScope Ng [a] sg) (n0 : Ng[0]? = some a) (vis : Vis sg a) (gives : GivesTo X Ng x sg g cdv bg a (X.env.qual ++ "<lambda>") TT) (bears : Bears TT)
    (tb : TabB X.base X.mg cc tp) (own : X.env.code = .ref cc) (inT : (tp, X.env.qual ++ "<lambda>") ∈ T) (one : ∀ p ∈ T, p.1 = tp → p.2 = X.env.qual ++ "<lambda>") (room : Room (k + 2) X.A) (S : DfS p X.env.scope sc) (np : p ∉ X.N) (dv : ps.defaults = [.Constant (.int n) kk cp]) (kw : ps.kw_defaults = []) (bd : DfB p n ps e sc)
    (does : ∀ (A : Around) (outer : List Env) (s : Shared) (H : Hp) (E : XK) (f d : Addr), Room k (A.deeper (lamEnv X sc s.heap.objs.size f d)) → PE (lamCx X A outer s H E sc f d) e (t E))
    (nd1 : (x == ("__debug__" : Str)) = false := by decide) (nd2 : (a == ("__debug__" : Str)) = false := by decide) (nd3 : (a == ("__classdict__" : Str)) = false := by decide) : PE X (.Call (.Name x p0) [.Lambda ps e sc lp] [] pos) (tLam T TT t) := by
  refine ⟨fun pins s σ H Q I ⟨ts, h⟩ => ?_⟩
  refine wpAny_Call_Name_kw (ld_glob I gl mgx ?_ nd1)
  refine PySem.W.callWith_K (h₀ := X.base) I.ok.mod.kin kp ?_ (by rfl) (by rfl)
  show wpAny _ _ (spliced ((false, eval (.Lambda ps e sc lp) X.env) :: backTo pos (starEach [] X.env))) _ _ s
  refine Calls.spliced_cons (df_make I tb own inT one ts dv kw (S.has I.ok) fun f d u doc' pm' ct' H1 s1 I1 ex ts1 hf nf nst hd hu => Calls.spliced_nil ⟨I1.kIn, ?_⟩)
  have ran : codeAny (model X.prog X.w) X.A (.call (.ref g) ⟨[.ref f], []⟩) (CR C8.CX0 X.stack X.prog X.w H1 s1 Q C8.E0) s1 := by
    refine run_ofS (N := Ng) (ps := [a]) (us := [.ref f]) (vs := [.ref f]) lk cdx Sg room I1.env0 (bi s1 [.ref f] I1.kIn rfl) (.cons rfl .nil) rfl fun room' => ?_
    obtain ⟨t', q1, q2⟩ := gives f d s1 H1 Q (fun E H' Q' => H' u = some (DfO u n) ∧ t E σ H' Q') (fun W pn xe E p1 p2 tk hW => df_act (i := 0) I1 S np hf nf nst bd tk hW room' (fun A outer s H r => does A outer s H E f d r) n0 vis nd2 nd3) hd
      (bears _ _ _ _ (fun H' st => st _ _ hu) (h H1 ex ts1))
    exact ⟨t', q1.nox, q2⟩
  refine wpAny_call (codeAny_mono ran fun r s2 hq => ?_)
  match r, hq with
  | .error er, hq => exact (show False from hq).elim
  | .ok (.ret _), hq => exact I1.after hq
  | .ok .next, hq => exact hq.elim
  | .ok .brk, hq => exact hq.elim
  | .ok .cont, hq => exact hq.elim
theorem bears_h {C : Kd → Addr} : Bears (TTh C) := fun F tl H Q hF h H1 s1 Qx hx => ⟨hF H1 s1, h H1 s1 Qx hx⟩
end
end Fab
set_option maxHeartbeats 4000000
/-! a lambda with one parameter that has an int as its default, handed to a def and called without arguments -/
namespace Fab
open PySem PySem.Spec PyProof.Rows L2 LamX
section
variable {X : Cx} {pins : List (Addr × Obj)} {σ : L2.St} {H : Hp} {s : Shared}
/-- its body is entered: the parameter is told by the frame alone -/
theorem df_startE {p : Str} {HZ : Hp} {s1 : Shared} {A : Around} {outer : List Env} {E : XK} {sc : Scope} {f d : Addr} {g : Heap} {tk : Nat} {m : Str → Option Value} (I : L2.Inv X pins σ H s) (S : DfS p X.env.scope sc) {σ' : L2.St} (hlen : σ'.length = σ.length) (hsub : ∀ (i : Nat) (v : V), σ'[i]? = some (some v) → σ[i]? = some (some v) ∧ X.N[i]? ≠ some p) (e0 : Env0 X.prog X.w X.K X.mg X.base A outer s1 HZ) (hd : A.handled = none)
    (un : Un (frs X.stack) [] H HZ s.heap s1.heap) (ns : g.Ns s1.heap.objs.size m) (kp : ∀ b o, s1.heap.get? b = some o → g.get? b = some o) : L2.Inv (lamCx X A outer s1 HZ E sc f d) [] σ' HZ { s1 with heap := g, toks := tk } := by
  have fr := S.has I.ok
  have seen : ∀ {y}, sc.names.lookup y = some .free → ∃ c, (cloFrom X.env.cells sc.names []).lookup y = some c := fun {y} q => mem_lookup (cloFrom_has (cells := X.env.cells) (acc := []) (PySem.mem_of_lookup q))
  have back : ∀ {y c}, (cloFrom X.env.cells sc.names []).lookup y = some c → X.env.cells.lookup y = some c := fun {y c} q => by
    cases cloFrom_mem (PySem.mem_of_lookup q) with
    | inl z => cases z
    | inr z =>
      obtain ⟨z1, z2⟩ := z
      obtain ⟨c1, z3⟩ := fr _ z1 rfl
      have z3 : X.env.cells.lookup y = some c1 := z3
      rw [z3] at z2
      rw [z3, z2]
      rfl
  have cells : ∀ {c : Addr} {v : Option Value}, H c = none → s.heap.IsCell c v → g.IsCell c v := fun {c v} n ⟨o, ho, hv⟩ => by
    obtain ⟨sl, q⟩ := un.any ho n (by simp)
    exact ⟨_, kp _ _ q, hv⟩
  have nil_ : ∀ b : Addr, b ∉ (lamCx X A outer s1 HZ E sc f d).ex := fun b z => absurd (show b ∈ ([] : List Addr) from z) (by simp)
  have isF : ∀ {y}, sc.names.lookup y = some .cell ∨ sc.names.lookup y = some .free → sc.names.lookup y = some .free := fun {y} q => q.elim (fun z => absurd rfl (S.nce _ (PySem.mem_of_lookup z))) id
  refine ⟨⟨e0.mod, S.kd, rfl, rfl, Nat.le_refl _, fun y z c q1 q2 => I.ok.inj y z c (back q1) (back q2), fun y hy => seen (isF hy), fun y c z _ => ?_, fun _ => hd, Around.frames_deeper e0.frames, .inr ⟨rfl, rfl⟩, fun b z => absurd z (nil_ b), e0.bs, e0.bsz, fun b _ _ => nil_ b,
      fun b z => absurd z (nil_ b), e0.funs, e0.frf⟩, rfl, e0.bare, Un.kept kp, ⟨_, ns, fun i y v q1 q2 q3 => ?_⟩, fun y c q => ?_, e0.hok.fresh (Nat.le_refl _), fun y c q => ?_, fun q hq => absurd (show q ∈ ([] : List (Addr × Obj)) ++ [] from hq) (by simp), e0.hok.kept kp, hlen.trans I.len⟩
  · have z : false = true := z
    cases z
  · have hy : sc.names.lookup y = some .free := by
      rcases (show Vis sc y from q3) with z | z | z
      · have : y = p := S.loc _ (PySem.mem_of_lookup z) rfl
        exact absurd (this ▸ (show X.N[i]? = some y from q1)) (hsub i v q2).2
      · exact isF (.inl z)
      · exact z
    obtain ⟨m0, _, hl⟩ := I.loc
    have vis : Vis X.env.scope y := (S.fre _ (PySem.mem_of_lookup hy) rfl).elim (fun z => .inr (.inl z)) (fun z => .inr (.inr z))
    obtain ⟨u, ru, st⟩ := hl i y v q1 (hsub i v q2).1 vis
    obtain ⟨c2, h2⟩ := seen hy
    refine ⟨u, ru, .inr ⟨.inr hy, c2, h2, ?_⟩⟩
    have c1 := back h2
    cases st with
    | inl z =>
      have z1 : X.env.scope.names.lookup y = some .local := z.1
      rcases S.fre _ (PySem.mem_of_lookup hy) rfl with z2 | z2
      · rw [show X.env.scope.names.lookup y = _ from z2] at z1
        cases z1
      · rw [show X.env.scope.names.lookup y = _ from z2] at z1
        cases z1
    | inr z =>
      obtain ⟨_, c3, z3, z4⟩ := z
      rw [c1] at z3
      cases z3
      exact cells (I.freeC y _ c1) z4
  · obtain ⟨v, z⟩ := I.cell y c (back q)
    exact ⟨v, cells (I.freeC y c (back q)) z⟩
  · obtain ⟨v, o, ho, _⟩ := I.cell y c (back q)
    exact un.free c o ho (I.freeC y c (back q)) (by simp)
/-- the call, within the def that got it -/
theorem df_actE {p : Str} {n : Int} {CXg : CXT} {Eg : XK} {Ng : List Str} {qg : Str} {sg : Scope} {g f d u : Addr} {cdg doc pm ct : Value} {ps : Arguments} {e : Expr} {sc : Scope} {k i : Nat} {a : Str} {pn : List (Addr × Obj)} {xe : Value → Shared → Prop} {W : WX} {E : XK} {tb : TE} {p1 p2 : Pos}
    (I : L2.Inv X pins σ H s) (S : DfS p X.env.scope sc) {σ' : L2.St} (hlen : σ'.length = σ.length) (hsub : ∀ (i : Nat) (v : V), σ'[i]? = some (some v) → σ[i]? = some (some v) ∧ X.N[i]? ≠ some p) (hf : s.heap.get? f = some (ofDf (X.env.qual ++ "<lambda>") ps e sc (cloFrom X.env.cells sc.names []) u doc pm d ct)) (nf : H f = none) (nst : f ∉ frs X.stack) (bd : DfB p n ps e sc)
    (tk : Takes ((cxOf CXg X.prog X.w X.K X.mg X.base Ng qg sg g cdg X.A X.stack s H Eg).tr pn xe) W) (hW : ∀ cls d σ' H', E cls d H' → W cls d σ' H') (room : Room (k + 1) (X.A.deeper (envOfC qg sg s.heap.objs.size g cdg)))
    (does : ∀ (A : Around) (outer : List Env) (s : Shared) (H : Hp), Room k (A.deeper (lamEnv X sc s.heap.objs.size f d)) → PE (lamCx X A outer s H E sc f d) e tb) (at_ : Ng[i]? = some a) (vis : Vis sg a) (nd : (a == ("__debug__" : Str)) = false := by decide) (nc : (a == ("__classdict__" : Str)) = false := by decide) :
    PE ((cxOf CXg X.prog X.w X.K X.mg X.base Ng qg sg g cdg X.A X.stack s H Eg).tr pn xe) (.Call (.Name a p1) [] [] p2) (fun σZ HZ Q => σZ[i]? = some (some (.ref f)) ∧ HZ d = some (CodeO d (X.env.qual ++ "<lambda>")) ∧ HZ u = some (DfO u n) ∧ tb σ' HZ Q) := by
  refine ⟨fun pz sz σz Hz Q Iz h => ?_⟩
  obtain ⟨h1, h2, h3, h4⟩ := h
  refine wpAny_Call_Name_kw (thn ((pe_var (pos := p1) (i := i) at_ vis nd nc).run pz sz σz Hz (fun v H1 => v = .ref f ∧ H1 = Hz) Iz ⟨.ref f, h1, rfl, rfl⟩) fun x s1 ⟨v, H1, I1, rv, ev, eh⟩ => ?_)
  subst ev
  obtain rfl : Hz = H1 := eh.symm
  obtain rfl : x = Value.ref f := rv
  have fn := I1.base.keep f _ hf nf nst (fun z => nomatch (show f ∈ ([] : List Addr) from z))
  refine PySem.W.callWith_F0 ⟨_, _, _, _, fn⟩ ?_
  obtain ⟨⟨oc, vs, t, hoc, hdat, hname⟩, _, _⟩ := I1.hok d _ h2
  obtain ⟨⟨t0, hu⟩, _, _⟩ := I1.hok u _ h3
  have unz : Un (frs X.stack) [] H Hz s.heap s1.heap := I1.base
  obtain ⟨kk, b1, b2⟩ := bd (X.env.qual ++ "<lambda>") (cloFrom X.env.cells sc.names []) u doc pm (.ref d) ct
  have ran : codeAny (model X.prog X.w) (X.A.deeper (envOfC qg sg s.heap.objs.size g cdg)) (.call (.ref f) ⟨[], []⟩) (CR (L2.CX X.prog X.w) (envOfC qg sg s.heap.objs.size g cdg :: X.stack) X.prog X.w Hz s1 Q E) s1 := by
    refine PySem.W.kla_callFunE room.depth fn rfl S.nco S.nge rfl ⟨d, oc, vs, t, rfl, hoc, hdat, hname⟩ ?_
    refine BindsTo.of_defaults (binds := [(p, .int n t0)]) rfl hu rfl b1 (b2 t0) _ _ _ _ ?_
    refine wpAny_newFunctionEnv (fun y hy => S.nce y hy) (fun y hy => ?_) (fun g2 ns sb => ⟨I1.nolimit.fresh _ sb, ?_⟩) S.kd
    · rw [List.mem_singleton.mp hy]
      exact S.par
    · show codeAny _ _ (.expr e (lamEnv X sc s1.heap.objs.size f d)) _ _
      have kp : ∀ b o, s1.heap.get? b = some o → g2.get? b = some o := fun b o q => sb.extBut b o (Nat.ne_of_lt (Heap.lt_size q)) (Heap.get?_push_of_some _ q)
      refine PySem.W.kla_codeExpr (wpAny_mono ((does _ _ s1 Hz (room.deeper _)).run [] _ _ Hz Q (df_startE I S hlen hsub I1.env0 room.hd unz ns kp) h4) (fun v s2 ⟨w2, H2, J, rw2, q2⟩ => ?_) fun _ _ q => q)
      exact ⟨w2, H2, J.os, J.bare, J.base, J.hok, rw2, q2⟩
  have ps_ : Passes (L2.CX X.prog X.w) ((cxOf CXg X.prog X.w X.K X.mg X.base Ng qg sg g cdg X.A X.stack s H Eg).tr pn xe) E := passes_call tk hW
  refine wpAny_call (codeAny_mono ran fun r s2 hq => ?_)
  match r, hq with
  | .error er, hq => exact ps_ pz σz Hz s1 er s2 I1 hq
  | .ok (.ret _), hq => exact I1.after hq
  | .ok .next, hq => exact hq.elim
  | .ok .brk, hq => exact hq.elim
  | .ok .cont, hq => exact hq.elim
/-- the parameter's own slot is not told -/
theorem er_ok {N : List Str} {p : Str} {ip : Nat} (nd : N.Nodup) (hp : N[ip]? = some p) : ∀ σ : L2.St, (σ.set ip none).length = σ.length ∧ ∀ (i : Nat) (v : V), (σ.set ip none)[i]? = some (some v) → σ[i]? = some (some v) ∧ N[i]? ≠ some p := fun σ => by
  refine ⟨List.length_set, fun i v h => ?_⟩
  by_cases e : ip = i
  · subst e
    rw [List.getElem?_set] at h
    split at h
    · split at h <;> cases h
    · exact absurd rfl (by assumption)
  · rw [List.getElem?_set_ne e] at h
    refine ⟨h, fun hq => e ?_⟩
    obtain ⟨a1, b1⟩ := List.getElem?_eq_some_iff.mp hp
    obtain ⟨a2, b2⟩ := List.getElem?_eq_some_iff.mp hq
    exact (List.getElem_inj (h₀ := a1) (h₁ := a2) nd).mp (by rw [b1, b2])
/-- x(lambda p=n: e) -/
theorem pe_lamDE {T : List (Addr × Str)} {TT : (XK → Hp → VK → Prop) → Hp → VK → Prop} {x a p : Str} {n : Int} {kk : Nat} {cp : Pos} {g cc tp : Addr} {k : Nat} {pg : Arguments} {bg : List Stmt} {sg : Scope} {dV kV doc pm cdv ct oc : Value} {an od : Option Addr} {osl : Array (Option Value)} {Ng : List Str}
    {ps : Arguments} {e : Expr} {sc : Scope} {t : XK → TE} {p0 lp pos : Pos} (gl : Gl X x) (mgx : X.mg x = some (.ref g)) (kp : PySem.W.keepIn X.K (.ref g) = true) (lk : X.K.lookup g = some ⟨oc, od, .func (PySem.W.fnOf x x pg bg sg dV kV doc pm an cdv ct), osl⟩) (cdx : PySem.W.codeIn X.K cdv x = true)
    (bi : L2.Binds X.K (PySem.W.fnOf x x pg bg sg dV kV doc pm an cdv ct) [a] []) (Sg : FnScope Ng [a] sg) (n0 : Ng[0]? = some a) (vis : Vis sg a) (gives : GivesTo X Ng x sg g cdv bg a (X.env.qual ++ "<lambda>") TT) (bears : Bears TT)
    (tb : TabB X.base X.mg cc tp) (own : X.env.code = .ref cc) (inT : (tp, X.env.qual ++ "<lambda>") ∈ T) (one : ∀ p ∈ T, p.1 = tp → p.2 = X.env.qual ++ "<lambda>") (room : Room (k + 2) X.A) (S : DfS p X.env.scope sc) (ip : Nat) (nodup : X.N.Nodup) (hip : X.N[ip]? = some p) (dv : ps.defaults = [.Constant (.int n) kk cp]) (kw : ps.kw_defaults = []) (bd : DfB p n ps e sc)
    (does : ∀ (A : Around) (outer : List Env) (s : Shared) (H : Hp) (E : XK) (f d : Addr), Room k (A.deeper (lamEnv X sc s.heap.objs.size f d)) → PE (lamCx X A outer s H E sc f d) e (t E))
    (nd1 : (x == ("__debug__" : Str)) = false := by decide) (nd2 : (a == ("__debug__" : Str)) = false := by decide) (nd3 : (a == ("__classdict__" : Str)) = false := by decide) : PE X (.Call (.Name x p0) [.Lambda ps e sc lp] [] pos) (tLam T TT fun E σ => t E (σ.set ip none)) := by
  refine ⟨fun pins s σ H Q I ⟨ts, h⟩ => ?_⟩
  refine wpAny_Call_Name_kw (ld_glob I gl mgx ?_ nd1)
  refine PySem.W.callWith_K (h₀ := X.base) I.ok.mod.kin kp ?_ (by rfl) (by rfl)
  show wpAny _ _ (spliced ((false, eval (.Lambda ps e sc lp) X.env) :: backTo pos (starEach [] X.env))) _ _ s
  refine Calls.spliced_cons (df_make I tb own inT one ts dv kw (S.has I.ok) fun f d u doc' pm' ct' H1 s1 I1 ex ts1 hf nf nst hd hu => Calls.spliced_nil ⟨I1.kIn, ?_⟩)
  have ran : codeAny (model X.prog X.w) X.A (.call (.ref g) ⟨[.ref f], []⟩) (CR C8.CX0 X.stack X.prog X.w H1 s1 Q C8.E0) s1 := by
    refine run_ofS (N := Ng) (ps := [a]) (us := [.ref f]) (vs := [.ref f]) lk cdx Sg room I1.env0 (bi s1 [.ref f] I1.kIn rfl) (.cons rfl .nil) rfl fun room' => ?_
    obtain ⟨t', q1, q2⟩ := gives f d s1 H1 Q (fun E H' Q' => H' u = some (DfO u n) ∧ t E (σ.set ip none) H' Q') (fun W pn xe E p1 p2 tk hW => df_actE (i := 0) I1 S (er_ok nodup hip σ).1 (er_ok nodup hip σ).2 hf nf nst bd tk hW room' (fun A outer s H r => does A outer s H E f d r) n0 vis nd2 nd3) hd
      (bears _ _ _ _ (fun H' st => st _ _ hu) (h H1 ex ts1))
    exact ⟨t', q1.nox, q2⟩
  refine wpAny_call (codeAny_mono ran fun r s2 hq => ?_)
  match r, hq with
  | .error er, hq => exact (show False from hq).elim
  | .ok (.ret _), hq => exact I1.after hq
  | .ok .next, hq => exact hq.elim
  | .ok .brk, hq => exact hq.elim
  | .ok .cont, hq => exact hq.elim
/-- the same, the qualified name told apart -/
theorem pe_lamDQ {T : List (Addr × Str)} {TT : (XK → Hp → VK → Prop) → Hp → VK → Prop} {x a p : Str} {n : Int} {kk : Nat} {cp : Pos} {g cc tp : Addr} {k : Nat} {pg : Arguments} {bg : List Stmt} {sg : Scope} {dV kV doc pm cdv ct oc : Value} {an od : Option Addr} {osl : Array (Option Value)} {Ng : List Str}
    {ps : Arguments} {e : Expr} {sc : Scope} {t : XK → TE} {p0 lp pos : Pos} (gl : Gl X x) (mgx : X.mg x = some (.ref g)) (kp : PySem.W.keepIn X.K (.ref g) = true) (lk : X.K.lookup g = some ⟨oc, od, .func (PySem.W.fnOf x x pg bg sg dV kV doc pm an cdv ct), osl⟩) (cdx : PySem.W.codeIn X.K cdv x = true)
    (bi : L2.Binds X.K (PySem.W.fnOf x x pg bg sg dV kV doc pm an cdv ct) [a] []) (Sg : FnScope Ng [a] sg) (n0 : Ng[0]? = some a) (vis : Vis sg a) (gives : GivesTo X Ng x sg g cdv bg a (X.env.qual ++ "<lambda>") TT) (bears : Bears TT)
    (tb : TabB X.base X.mg cc tp) (own : X.env.code = .ref cc) (qn : Str) (eqn : X.env.qual = qn) (inT : (tp, qn ++ "<lambda>") ∈ T) (one : ∀ p ∈ T, p.1 = tp → p.2 = qn ++ "<lambda>") (room : Room (k + 2) X.A) (S : DfS p X.env.scope sc) (ip : Nat) (nodup : X.N.Nodup) (hip : X.N[ip]? = some p) (dv : ps.defaults = [.Constant (.int n) kk cp]) (kw : ps.kw_defaults = []) (bd : DfB p n ps e sc)
    (does : ∀ (A : Around) (outer : List Env) (s : Shared) (H : Hp) (E : XK) (f d : Addr), Room k (A.deeper (lamEnv X sc s.heap.objs.size f d)) → PE (lamCx X A outer s H E sc f d) e (t E))
    (nd1 : (x == ("__debug__" : Str)) = false := by decide) (nd2 : (a == ("__debug__" : Str)) = false := by decide) (nd3 : (a == ("__classdict__" : Str)) = false := by decide) : PE X (.Call (.Name x p0) [.Lambda ps e sc lp] [] pos) (tLam T TT fun E σ => t E (σ.set ip none)) := by
  subst eqn
  exact pe_lamDE gl mgx kp lk cdx bi Sg n0 vis gives bears tb own inT one room S ip nodup hip dv kw bd does nd1 nd2 nd3
end
end Fab
set_option maxHeartbeats 2000000
namespace Fab
open PySem PySem.Spec PyProof.Rows L2 PySem.W PySem.Builtin
/-- a number with its sign -/
def plusD (i : Int) : Str := (if i < 0 then Str.ofString "-" else Str.ofString "+") ++ Str.ofString (toString ((i.natAbs : Nat) : Int))
theorem fmt_all (a : Int) (h : a.natAbs ≤ 24) (t u : Tok) : Meets (Builtin.«int.__format__» ⟨[.int a t, .str "+d" u], []⟩) (fun _ R s => ∀ t' k, R (.ok (.ret (.str (plusD a) t'))) { s with toks := k }) := by
  apply KPc.meets_of
  intro prog w A s Q E hq
  unfold Builtin.«int.__format__»
  refine wpAny_bind (wpAny_of_eq (a := (_, _)) rfl ?_)
  refine wpAny_bind (wpAny_of_eq (a := _) rfl ?_)
  kxf_if
  refine wpAny_bind (wpAny_typeNameOf (T := "str") (typeIs_str _ _ _) (by decide) fun _ => ?_)
  refine wpAny_bind (wpAny_of_eq (a := some _) rfl ?_)
  kxf_if
  kxf_if
  refine wpAny_bind (wpAny_typeNameOfCut_int ?_)
  have hp : Float.parseFormatSpec (Str.ofString "+d").cps.toList "int" 62 = .ok { align := 62, sign := some 43, type := some 100 } := by kernel_rfl
  rw [hp]
  have hd : a.natAbs.log2 < 1920 := by
    have : a.natAbs.log2 ≤ a.natAbs := Nat.log2_le_self _
    omega
  (repeat kxf_if)
  refine wpAny_bind (wpAny_of_eq (PyProof.Rows.overDigitLimit_small hd) ?_)
  (repeat kxf_if)
  refine KXf.ret_text (T := plusD a) ?_ ?_ hq
  · obtain ⟨n, rfl⟩ : ∃ k : Fin 49, a = (k.val : Int) - 24 := ⟨⟨(a + 24).toNat, by omega⟩, by simp; omega⟩
    clear hd hq h hp
    revert n
    decide +kernel
  · obtain ⟨n, rfl⟩ : ∃ k : Fin 49, a = (k.val : Int) - 24 := ⟨⟨(a + 24).toNat, by omega⟩, by simp; omega⟩
    clear hd hq h hp
    revert n
    decide +kernel
section
variable {X : Cx}
def tFmtS (te ts : TE) : TE := fun σ H Q => te σ H fun x H1 => ∃ i : Int, x = .int i ∧ i.natAbs ≤ 24 ∧ ts σ H1 fun y H2 => y = .str "+d" ∧ Q (.str (plusD i)) H2
theorem pe_fmtS {e spec : Expr} {te ts : TE} {pos : Pos} (he : PE X e te) (hs : PE X spec ts) : PE X (.FormattedValue e (-1) (some spec) pos) (tFmtS te ts) := by
  refine ⟨fun pins s σ H Q I h => ?_⟩
  rw [arm_eval_FormattedValue]
  refine wpAny_bind (thn (he.run pins s σ H _ I h) fun v s1 hv => ?_)
  obtain ⟨x, H1, I1, r1, i, rfl, hi, q⟩ := hv
  obtain ⟨t, rfl⟩ := r1
  refine wpAny_bind (wpAny_standAt ?_)
  refine wpAny_bind (wpAny_holding (wpAny_pure ?_))
  unfold formatted evalOpt
  refine wpAny_bind (wpAny_holding (thn (hs.run pins s1 σ H1 _ I1 q) fun v2 s2 hv2 => ?_))
  obtain ⟨y, H2, I2, r2, rfl, q2⟩ := hv2
  obtain ⟨t2, rfl⟩ := r2
  refine wpAny_bind (wpAny_standAt ?_)
  refine KXf.field_meets (y := plusD i) (by decide) (fun s' => typeIs_int s' i t) PySem.F.slot_int_format PySem.F.entry_int_format PySem.F.args_int_format_2 (by decide) (fun u => fmt_all i hi t u) fun t' k => ?_
  exact ⟨.str (plusD i), H2, I2.tok _, ⟨_, rfl⟩, q2⟩
/-- a list or a tuple, walked: which of them is known ahead -/
def iEither (K : PySem.W.Frag) (te : TE) : TI := fun σ H R => iList K te σ H R ∨ iTup K te σ H R
theorem pi_either {tg e : Expr} {te : TE} (he : PE X e te) : PI X tg e (iEither X.K te) := ⟨fun pins s σ H R I h => h.elim ((pi_list he).run pins s σ H R I) ((pi_tup he).run pins s σ H R I)⟩
end
end Fab
set_option maxHeartbeats 4000000
namespace Fab
open PySem L2
def top (i : Nat) : Stmt := PySem.Challenge.pw_faceabout_k70_texts_written_and_read.main.body.getD i (.Pass ⟨0, 0, 0, 0⟩)
abbrev sMixed : Stmt := top 33
abbrev sFolded : Stmt := top 34
abbrev sDraw : Stmt := top 35
abbrev sBegun : Stmt := top 36
/-- built-in names that stand as the boot leaves them -/
structure Blt (mg : Str → Option Value) : Prop where
  int : mg "int" = none
  len : mg "len" = none
  range : mg "range" = none
  enumerate : mg "enumerate" = none
  list : mg "list" = none
  tuple : mg "tuple" = none
  isinstance : mg "isinstance" = none
  valueError : mg "ValueError" = none
  zip : mg "zip" = none
  abs : mg "abs" = none
  repr : mg "repr" = none
  set : mg "set" = none
  max : mg "max" = none
  bool : mg "bool" = none
  overflowError : mg "OverflowError" = none
  all : mg "all" = none
  str : mg "str" = none
  sorted : mg "sorted" = none
  sum : mg "sum" = none
  min : mg "min" = none
/-- a def of the text, with its promise -/
structure Dn (P : Program) (w : World) (K : PySem.W.Frag) (mg : Str → Option Value) (base : Heap) (k : Nat) (x : Str) (f : Addr) (fd : FuncData) (ps : List Str) (sp : Sp) : Prop where
  ok : FnOk P w K mg base CX0 k f fd ps sp
  mgf : mg x = some (.ref f)
  kp : PySem.W.keepIn K (.ref f) = true
  bi : Binds K fd ps []
theorem sq_lst {xs : List V} : sq (.lst xs) = some xs := rfl
theorem sq_tup {xs : List V} : sq (.tup xs) = some xs := rfl
local macro_rules | `(tactic| walk_at "s") => `(tactic| simp [tSeq, tAsg, tOp, tUn, tVar, tC, gName, tCons, tNil, tCB, tCall, rI, rI0, rU, tRet, tDrop, tIfS, tNext, tIf, tTest, tB, L2.start, CMul, CDiv, tDGetF, sDPutF, keyOf, rIxF, rLenF, rIntF, sq_lst, sq_tup, tLstF, rSetF, gSub, tDispF, tPairs, keysOf])
def dm (c g : Addr) (n : Nat) : HO := .dK [(Sum.inr "cells", .ref c), (Sum.inr "great", .ref g), (Sum.inr "spot", .int (n : Int))]
/-- the state from which numbers are drawn -/
def drs (m c g : Addr) (cs gs : List Int) (n : Nat) : List (Addr × HO) := [(m, dm c g n), (c, .lst (cs.map V.int)), (g, .lst (gs.map V.int))]
theorem dm_cells {c g : Addr} {z : V} : valV [((Sum.inr "cells" : Key), V.ref c), (Sum.inr "great", .ref g), (Sum.inr "spot", z)] (Sum.inr "cells") = some (.ref c) := by kernel_rfl
theorem dm_great {c g : Addr} {z : V} : valV [((Sum.inr "cells" : Key), V.ref c), (Sum.inr "great", .ref g), (Sum.inr "spot", z)] (Sum.inr "great") = some (.ref g) := by kernel_rfl
theorem dm_spot {c g : Addr} {z : V} : valV [((Sum.inr "cells" : Key), V.ref c), (Sum.inr "great", .ref g), (Sum.inr "spot", z)] (Sum.inr "spot") = some z := by kernel_rfl
theorem dm_put {c g : Addr} {z y : V} : putK [((Sum.inr "cells" : Key), V.ref c), (Sum.inr "great", .ref g), (Sum.inr "spot", z)] (Sum.inr "spot") y = [((Sum.inr "cells" : Key), V.ref c), (Sum.inr "great", .ref g), (Sum.inr "spot", y)] := by kernel_rfl
theorem dm_put2 {c g y : Addr} {z : V} : putK [((Sum.inr "cells" : Key), V.ref c), (Sum.inr "great", .ref g), (Sum.inr "spot", z)] (Sum.inr "great") (.ref y) = [((Sum.inr "cells" : Key), V.ref c), (Sum.inr "great", .ref y), (Sum.inr "spot", z)] := by kernel_rfl
theorem atI_ints {ns : List Int} {i : Int} (h0 : 0 ≤ i) (h1 : i < ns.length) : ∃ z, z ∈ ns ∧ atI (ns.map V.int) i = some (.int z) := by
  have hl : i.toNat < ns.length := by omega
  refine ⟨ns[i.toNat], List.getElem_mem hl, ?_⟩
  unfold atI ixN
  rw [if_pos h0, if_pos (by rw [List.length_map]; exact h1)]
  simp [List.getElem?_eq_getElem hl]
theorem ixN_ints {n : Nat} {i : Int} (h0 : 0 ≤ i) (h1 : i < n) : ixN n i = some i.toNat := by
  unfold ixN
  rw [if_pos h0, if_pos h1]
theorem dp_ints {K : PySem.W.Frag} {H : Hp} : ∀ (ns : List Int), DpAll K H (ns.map V.int) (ns.map PyData.int)
  | [] => .nil
  | n :: r => .cons (.int n) (dp_ints r)
theorem shaped_ints (ns : List Int) : SeqAt.shaped (.list (ns.map PyData.int)) = true := PySem.W.ke_shaped_ints ns
section
variable {P : Program} {w : World} {K : PySem.W.Frag} {mg : Str → Option Value} {base : Heap}
def spMixed : Sp := fun vs H Q _ => ∃ (c : Int) (n : Nat), vs = [.int c, .int (n : Int)] ∧ n < 2 ^ 41 ∧ ∀ r : Int, Q (.int r) H
theorem scMixed : FnScope ["cell", "n", "blend"] ["cell", "n"] (defScope sMixed) := ⟨rfl, rfl, rfl, by decide +kernel, rfl, by decide +kernel, by decide +kernel⟩
theorem ok_mixed {f : Addr} {fd : FuncData} (F : Fun K "_law_mixed" "_law_mixed" sMixed f fd) (B : Blt mg) : FnOk P w K mg base CX0 1 f fd ["cell", "n"] spMixed := by
  refine F.ok scMixed (fun vs H Q E h => ?_) (fun cdv A outer s H vs Q E hr h => ?_)
  · obtain ⟨c, n, rfl, _⟩ := h
    rfl
  · obtain ⟨c, n, rfl, hn, k⟩ := h
    have hu := hu_of hr
    refine ⟨_, (pss_cons (ps_set (i := 2) scMixed.nd rfl (by first | exact Or.inl rfl | exact Or.inr rfl) (pe_op op_add (pe_op op_add (pe_op op_mod (pe_callTy intF (by rfl) B.int (by decide +kernel) (pa_cons (pe_op op_mul (pe_op op_mul (pv 0) (pe_op op_add pe_int (pe_op op_mul pe_int (pv 1)))) pe_int) pa_nil)) pe_int) (pe_op op_mul (pe_op op_mul pe_int (pv 1)) (pv 1))) (pe_op op_mul pe_int (pv 1))))
      (pss_one (ps_ret (pe_op op_fdiv (pe_op op_mod (pe_callTy intF (by rfl) B.int (by decide +kernel) (pa_cons (pe_op op_mul (pv 2) pe_int) pa_nil)) pe_int) pe_int)))), ?_⟩
    walk_at "s"
    exact ⟨.inr ⟨by omega, by omega⟩, .inr ⟨by omega, by omega⟩, k _⟩
/-- a number below lim, another state -/
def spDraw : Sp := fun vs H Q _ => ∃ (m : Addr) (lim : Int) (c g : Addr) (cs gs : List Int) (n : Nat), vs = [.ref m, .int lim] ∧ 0 < lim ∧ lim < 1000000000 ∧ H m = some (dm c g n) ∧ H c = some (.lst (cs.map V.int)) ∧ H g = some (.lst (gs.map V.int)) ∧ c ≠ g ∧ cs.length = 64 ∧ n < 2 ^ 40 ∧
  ∀ (r : Int) (gs' : List Int) (H' : Hp), 0 ≤ r → r < lim → H' m = some (dm c g (n + 1)) → H' c = some (.lst (cs.map V.int)) → H' g = some (.lst (gs'.map V.int)) → (∀ a o, H a = some o → a ≠ m → a ≠ g → H' a = some o) → Q (.int r) H'
theorem scDraw : FnScope ["m", "limit", "n", "lot", "here", "cell"] ["m", "limit"] (defScope sDraw) := ⟨rfl, rfl, rfl, by decide +kernel, rfl, by decide +kernel, by decide +kernel⟩
theorem ok_draw {f fM : Addr} {fd fdM : FuncData} (F : Fun K "_law_draw" "_law_draw" sDraw f fd) (B : Blt mg) (cMixed : Dn P w K mg base 1 "_law_mixed" fM fdM ["cell", "n"] spMixed) : FnOk P w K mg base CX0 2 f fd ["m", "limit"] spDraw := by
  refine F.ok scDraw (fun vs H Q E h => ?_) (fun cdv A outer s H vs Q E hr h => ?_)
  · obtain ⟨m, lim, c, g, cs, gs, n, rfl, _⟩ := h
    rfl
  · obtain ⟨m, lim, c, g, cs, gs, n, rfl, h0, h1, hm, hc, hg, hcg, hcs, hn, k⟩ := h
    have hu := hu_of hr
    refine ⟨_, (pss_cons (ps_set (i := 2) scDraw.nd rfl (by first | exact Or.inl rfl | exact Or.inr rfl) (pe_dgetF hu (pv 0) pe_str (fun _ _ => rfl)))
      (pss_cons (ps_dputF hu (pv 0) pe_str (pe_op op_add (pv 2) pe_int))
      (pss_cons (ps_if (pt_cmpR (op_neD hr.units) (pe_dgetF hu (pv 0) pe_str (fun _ _ => rfl)) (pe_lstF pa_nil) (nomark _)) (pss_cons (ps_set (i := 3) scDraw.nd rfl (by first | exact Or.inl rfl | exact Or.inr rfl) (pe_dgetF hu (pv 0) pe_str (fun _ _ => rfl)))
      (pss_cons (ps_set (i := 4) scDraw.nd rfl (by first | exact Or.inl rfl | exact Or.inr rfl) (pe_op op_mod (pe_callTy intF (by rfl) B.int (by decide +kernel) (pa_cons (pv 2) pa_nil)) (pe_callB lenF (by rfl) B.len (by decide +kernel) (pa_cons (pv 3) pa_nil))))
      (pss_cons (ps_set (i := 5) scDraw.nd rfl (by first | exact Or.inl rfl | exact Or.inr rfl) (pe_ix ixF (pv 3) (pv 4) (fun _ _ => rfl)))
      (pss_one (ps_if (pt_cmpR op_gt (pv 5) pe_int (nomark _)) (pss_cons (ps_asg (pe_op op_fdiv (pv 5) (pv 1)) (pg_sub (pv 3) (pv 4) setF))
      (pss_one (ps_ret (pe_op op_mod (pe_callTy intF (by rfl) B.int (by decide +kernel) (pa_cons (pv 5) pa_nil)) (pv 1))))) pss_nil))))) pss_nil)
      (pss_cons (ps_set (i := 3) scDraw.nd rfl (by first | exact Or.inl rfl | exact Or.inr rfl) (pe_dgetF hu (pv 0) pe_str (fun _ _ => rfl)))
      (pss_one (ps_ret (pe_op op_mod (pe_callTy intF (by rfl) B.int (by decide +kernel) (pa_cons (pe_call cMixed.ok (hr.mono (by decide)) rfl cMixed.mgf cMixed.kp cMixed.bi .nil pass0 (pa_cons (pe_call cMixed.ok (hr.mono (by decide)) rfl cMixed.mgf cMixed.kp cMixed.bi .nil pass0 (pa_cons (pe_op op_add (pe_ix ixF (pv 3) (pe_op op_mod (pe_callTy intF (by rfl) B.int (by decide +kernel) (pa_cons (pv 2) pa_nil)) pe_int) (fun _ _ => rfl)) (pe_op op_mul pe_int (pe_op op_fdiv (pv 2) pe_int))) (pa_cons (pv 2) pa_nil))) (pa_cons (pe_op op_add (pv 2) pe_int) pa_nil))) pa_nil)) (pv 1)))))))), ?_⟩
    walk_at "s"
    have mc : c ≠ m := (ne_of hm hc (by unfold dm; intro z; cases z)).symm
    have mg_ : m ≠ g := ne_of hm hg (by unfold dm; intro z; cases z)
    obtain ⟨H0, e0⟩ : ∃ H0 : Hp, H0 = fun a => if a = m ∨ a = g then none else H a := ⟨_, rfl⟩
    have h0c : H0 c = some (.lst (cs.map V.int)) := by rw [e0]; simp [mc, hcg, hc]
    have h0k : ∀ a o, H a = some o → a ≠ m → a ≠ g → H0 a = some o := fun a o h n1 n2 => by rw [e0]; simp [n1, n2, h]
    have v0 : VW H0 H [(m, dm c g n), (g, .lst (gs.map V.int))] [] :=
      ⟨by simp [hm, hg], by simp [mg_], by simp [e0], (fun a o h => by
        rw [e0] at h
        by_cases z : a = m ∨ a = g
        · simp [z] at h
        · simpa [z] using h), (fun _ h => nomatch h)⟩
    have fin : ∀ (r : Int) (gs' : List Int) (H' : Hp) (L : List (Addr × HO)), VW H0 H' L [] → (m, dm c g (n + 1)) ∈ L → (g, HO.lst (gs'.map V.int)) ∈ L → 0 ≤ r → r < lim → Q (.int r) H' := fun r gs' H' L v i1 i2 r0 r1 =>
      k r gs' H' r0 r1 (v.at_ _ i1) (v.fr _ _ h0c) (v.at_ _ i2) fun a o h n1 n2 => v.fr _ _ (h0k a o h n1 n2)
    refine ⟨_, hm, _, dm_spot, _, rfl, _, hm, sz_lt (by simp), ?_⟩
    rw [dm_put]
    refine view_set v0 0 rfl rfl fun H1 v1 => ?_
    obtain ⟨a1, a2, _⟩ := v1.facts
    refine ⟨_, a1, _, dm_great, view_new v1 fun p H2 v2 => ?_⟩
    obtain ⟨b0, b1, b2, _⟩ := v2.facts
    refine ⟨.list (gs.map PyData.int), .list [], .lst (SqL.of b2) (dp_ints gs), .lst (SqL.of b0) .nil, shaped_ints gs, by decide, ?_⟩
    have hb : (!(PyData.eqv (.list (gs.map PyData.int)) (.list []))) = !gs.isEmpty := by cases gs <;> rfl
    rw [hb]
    -- the way on: a cell, mixed
    have cell : ∀ (H' : Hp) (gs' : List Int) (L : List (Addr × HO)), VW H0 H' L [] → (m, dm c g (n + 1)) ∈ L → (g, HO.lst (gs'.map V.int)) ∈ L → ∃ v, atI (cs.map V.int) ((n : Int) % 64) = some v ∧ ∃ j, V.int n = V.int j ∧ ∃ i, v = V.int i ∧
        spMixed [V.int (i + 31 * (j / 64)), V.int n] H' (fun x H1 => ∃ i, V.int n = V.int i ∧ spMixed [x, V.int (i + 7)] H1 (fun x H1 => ∃ i, x = V.int i ∧ 0 < lim ∧ Q (V.int (i % lim)) H1) E0) E0 := fun H' gs' L v i1 i2 => by
      obtain ⟨z, _, hz⟩ := atI_ints (ns := cs) (i := (n : Int) % 64) (by omega) (by omega)
      refine ⟨_, hz, _, rfl, z, rfl, _, n, rfl, by omega, fun r => ⟨_, rfl, r, n + 7, rfl, by omega, fun r2 => ⟨_, rfl, h0, ?_⟩⟩⟩
      exact fin _ gs' H' L v i1 i2 (Int.emod_nonneg _ (by omega)) (Int.emod_lt_of_pos _ h0)
    cases gs with
    | nil => exact .inl ⟨rfl, _, b1, _, dm_cells, _, rfl, c, rfl, _, v2.fr _ _ h0c, _, sq_lst, cell H2 [] _ v2 (by simp [dm]) (by simp)⟩
    | cons y ys =>
      have hl : ((((y :: ys).map V.int).length : Nat) : Int) = ((y :: ys).length : Nat) := by rw [List.length_map]
      have q0 : 0 ≤ (n : Int) % (((y :: ys).map V.int).length : Nat) := Int.emod_nonneg _ (by rw [hl, List.length_cons]; omega)
      have q1 : (n : Int) % (((y :: ys).map V.int).length : Nat) < ((y :: ys).length : Nat) := by rw [hl]; exact Int.emod_lt_of_pos _ (by simp)
      have q2 : (n : Int) % (((y :: ys).map V.int).length : Nat) < (((y :: ys).map V.int).length : Nat) := Int.emod_lt_of_pos _ (by rw [hl, List.length_cons]; omega)
      obtain ⟨z, _, hz⟩ := atI_ints (ns := y :: ys) q0 q1
      refine .inr ⟨rfl, _, b1, _, dm_great, _, rfl, g, rfl, _, b2, _, sq_lst, by simp, _, rfl, _, b2, _, sq_lst, _, hz, z, rfl, ?_⟩
      refine ite2 (fun hp => ?_) (fun hp => ?_)
      · refine ⟨_, rfl, ⟨h0, by omega⟩, _, rfl, _, b2, _, ixN_ints q0 q2, ?_⟩
        refine view_set v2 2 rfl rfl fun H3 v3 => ?_
        refine ⟨_, rfl, h0, ?_⟩
        rw [show ((y :: ys).map V.int).set ((n : Int) % (((y :: ys).map V.int).length : Nat)).toNat (V.int (z / lim)) = ((y :: ys).set ((n : Int) % (((y :: ys).map V.int).length : Nat)).toNat (z / lim)).map V.int from List.map_set.symm] at v3
        exact fin _ ((y :: ys).set ((n : Int) % (((y :: ys).map V.int).length : Nat)).toNat (z / lim)) _ _ v3 (by simp [dm]) (by simp) (Int.emod_nonneg _ (by omega)) (Int.emod_lt_of_pos _ h0)
      · exact ⟨_, b1, _, dm_cells, _, rfl, c, rfl, _, v2.fr _ _ h0c, _, sq_lst, cell H2 (y :: ys) _ v2 (by simp [dm]) (by simp)⟩
/-- sixty-four numbers -/
def spFolded (K : PySem.W.Frag) : Sp := fun vs H Q _ => ∃ (a : Addr) (ns : List Int), vs = [.ref a] ∧ SqL K H a (ns.map V.int) ∧ ns.length ≤ 63 ∧ ∀ (p : Addr) (cs : List Int) (H' : Hp), H p = none → (∀ b o, H b = some o → H' b = some o) → H' p = some (.lst (cs.map V.int)) → cs.length = 64 → Q (.ref p) H'
theorem scFolded : FnScope ["script", "found", "n", "cell"] ["script"] (defScope sFolded) := ⟨rfl, rfl, rfl, by decide +kernel, rfl, by decide +kernel, by decide +kernel⟩
theorem set_ints {cs : List Int} {j : Nat} {z : Int} : (cs.map V.int).set j (.int z) = (cs.set j z).map V.int := List.map_set.symm
theorem ok_folded {f : Addr} {fd : FuncData} (F : Fun K "_law_folded" "_law_folded" sFolded f fd) (B : Blt mg) : FnOk P w K mg base CX0 1 f fd ["script"] (spFolded K) := by
  refine F.ok scFolded (fun vs H Q E h => ?_) (fun cdv A outer s H vs Q E hr h => ?_)
  · obtain ⟨a, ns, rfl, _⟩ := h
    rfl
  · obtain ⟨a, ns, rfl, hS, hlen, k⟩ := h
    have hu := hu_of hr
    refine ⟨_, (pss_cons (ps_setLc (i := 1) (own := [("n", 2)]) (tt := tYes) rfl scFolded.nd rfl rfl (sw_true rfl rfl rfl (by decide +kernel)) (pi_range1 (by rfl) B.range (pa_cons pe_int pa_nil)) (blkOk_by (own := [("n", 2)]) (N := ["script", "found", "n", "cell"]) (sc := defScope sFolded) (by decide +kernel)) (fun _ _ _ _ _ => (pg_name (i := 2) scFolded.nd rfl (by first | exact Or.inl rfl | exact Or.inr rfl))) (fun _ _ _ _ _ => pts_nil) (fun _ _ _ _ _ => (pe_op op_add pe_int (pv 2))))
      (pss_cons (ps_for PassesOwn.never rfl (pi_enum (by rfl) B.enumerate (pa_cons (pv 0) pa_nil)) (pg_tup (by rfl) (pgs_cons (pg_name (i := 2) scFolded.nd rfl (by first | exact Or.inl rfl | exact Or.inr rfl)) (pgs_cons (pg_name (i := 3) scFolded.nd rfl (by first | exact Or.inl rfl | exact Or.inr rfl)) pgs_nil))) (pss_one (ps_asg (pe_op op_mod (pe_callTy intF (by rfl) B.int (by decide +kernel) (pa_cons (pe_op op_add (pe_op op_mul (pe_ix ixF (pv 1) (pe_op op_mod (pe_callTy intF (by rfl) B.int (by decide +kernel) (pa_cons (pv 2) pa_nil)) pe_int) (fun _ _ => rfl)) pe_int) (pv 3)) pa_nil)) pe_int) (pg_sub (pv 1) (pe_op op_mod (pe_callTy intF (by rfl) B.int (by decide +kernel) (pa_cons (pv 2) pa_nil)) pe_int) setF))))
      (pss_cons (ps_for PassesOwn.never rfl (pi_range2 (by rfl) B.range (pa_cons pe_int (pa_cons pe_int pa_nil))) (pg_name (i := 2) scFolded.nd rfl (by first | exact Or.inl rfl | exact Or.inr rfl)) (pss_one (ps_asg (pe_op op_mod (pe_callTy intF (by rfl) B.int (by decide +kernel) (pa_cons (pe_op op_add (pe_ix ixF (pv 1) (pv 2) (fun _ _ => rfl)) (pe_op op_mul (pe_ix ixF (pv 1) (pe_op op_sub (pv 2) pe_int) (fun _ _ => rfl)) pe_int)) pa_nil)) pe_int) (pg_sub (pv 1) (pv 2) setF))))
      (pss_one (ps_ret (pv 1)))))), ?_⟩
    -- found = [17 + n for n in range(64)]
    refine ⟨64, rfl, by decide, by decide, fun D hD => lc_range (lo := 0) (n := 64) (fun i H' => ∃ cs : List Int, cs.length = i ∧ VW H H' [(D, .lst (cs.map V.int))] []) ⟨[], rfl, VW.start.push hD⟩ ?_ ?_⟩
    · rintro i H' hi ⟨cs, hc, v⟩
      refine ⟨rfl, _, rfl, _, _, rfl, rfl, cs.map V.int, (v.facts).1, sz_lt (by rw [List.length_map]; omega), ?_⟩
      exact ⟨cs ++ [17 + (0 + (i : Int))], by simp [hc], by
        have := v.put (o := .lst ((cs ++ [17 + (0 + (i : Int))]).map V.int)) 0 rfl rfl
        simpa using this⟩
    · rintro H1 ⟨cs0, hc0, v0⟩
      -- for n, cell in enumerate(script)
      have inv : ∀ (i : Nat) (σ : L2.St) (H' : Hp), (∃ (cs : List Int) (u1 u2 : Option V), cs.length = 64 ∧ σ = [some (.ref a), some (.ref D), u1, u2] ∧ VW H H' [(D, .lst (cs.map V.int))] []) → SqL K H' a (ns.map V.int) := fun i σ H' ⟨cs, _, _, _, _, v⟩ => Same.seq (fun b o e => v.fr b o e) hS
      refine ⟨_, rfl, a, ns.map V.int, rfl, Same.seq (fun b o e => v0.fr b o e) hS, for_it (walk_enum (K := K) (a := a) (xs := ns.map V.int)) (fun i σ H' => ∃ (cs : List Int) (u1 u2 : Option V), cs.length = 64 ∧ σ = [some (.ref a), some (.ref D), u1, u2] ∧ VW H H' [(D, .lst (cs.map V.int))] [])
        ⟨cs0, none, none, hc0, rfl, v0⟩ (fun i σ H' _ h => inv i σ H' h) ?_ ?_⟩
      · rintro i x σ H' H2 hi ⟨cs, u1, u2, hc, rfl, v⟩ ⟨T, y1, y2, rfl, hT, rfl, e1, e2⟩
        cases e1
        rw [List.length_map] at hi
        dsimp only at e2
        rw [List.getElem?_map, List.getElem?_eq_getElem hi] at e2
        cases e2
        have v' := (v.push (o := .tup [.int (i : Nat), .int ns[i]]) hT)
        obtain ⟨f0, f1, _⟩ := v'.facts
        obtain ⟨z, _, hz⟩ := atI_ints (ns := cs) (i := (i : Int) % 64) (by omega) (by omega)
        refine ⟨T, _, rfl, SqT.of f0, rfl, _, _, rfl, _, _, rfl, rfl, ?_⟩
        simp [tAsg, tOp, tVar, tC, gName, tCons, tNil, tCB, rI, rI0, rIntF, rIxF, gSub, CMul, rSetF]
        refine ⟨_, f1, _, sq_lst, _, hz, _, rfl, _, f1, _, ixN_ints (by omega) (by rw [List.length_map]; omega), ?_⟩
        refine view_set v' 1 rfl rfl fun H3 v3 => ?_
        refine ⟨cs.set ((i : Int) % 64).toNat ((z * 48271 + ns[i]) % 2147483647), by rw [List.length_set]; exact hc, ?_⟩
        rw [← set_ints]
        exact v3.drop (List.Sublist.cons _ (List.Sublist.refl _)) (fun _ h => h)
      · rintro σ H1 ⟨cs, u1, u2, hc, rfl, v⟩
        -- for n in range(1, 64)
        refine ⟨1, 64, rfl, ⟨by decide, by decide, by decide, by decide⟩, for_it (walk_range (lo := 1) (n := 63)) (fun i σ H' => ∃ (cs : List Int) (u1 : Option V), cs.length = 64 ∧ σ = [some (.ref a), some (.ref D), u1, u2] ∧ VW H H' [(D, .lst (cs.map V.int))] [])
          ⟨cs, u1, hc, rfl, v⟩ (fun _ _ _ _ _ => True.intro) ?_ ?_⟩
        · rintro i x σ H' H2 hi ⟨cs, u1, hc, rfl, v⟩ ⟨rfl, rfl⟩
          obtain ⟨f1, _⟩ := v.facts
          obtain ⟨z, _, hz⟩ := atI_ints (ns := cs) (i := 1 + (i : Int)) (by omega) (by omega)
          obtain ⟨y, _, hy⟩ := atI_ints (ns := cs) (i := 1 + (i : Int) - 1) (by omega) (by omega)
          simp [tAsg, tOp, tVar, tC, gName, tCons, tNil, tCB, rI, rI0, rIntF, rIxF, gSub, CMul, rSetF]
          refine ⟨_, f1, _, sq_lst, _, hz, _, f1, _, sq_lst, _, hy, _, rfl, _, rfl, _, f1, _, ixN_ints (by omega) (by rw [List.length_map]; omega), ?_⟩
          refine view_set v 0 rfl rfl fun H3 v3 => ?_
          refine ⟨cs.set (1 + (i : Int)).toNat ((z + y * 16807) % 2147483647), by rw [List.length_set]; exact hc, ?_⟩
          rw [← set_ints]
          exact v3
        · rintro σ H1 ⟨cs, u1, hc, rfl, v⟩
          refine ⟨_, rfl, ?_⟩
          have nD : H D = none := v.own _ List.mem_cons_self
          exact k D cs H1 nD v.fr v.facts.1 hc
/-- the state, begun -/
def spBegun (K : PySem.W.Frag) : Sp := fun vs H Q _ => ∃ (a : Addr) (ns : List Int), vs = [.ref a] ∧ SqL K H a (ns.map V.int) ∧ ns.length ≤ 63 ∧ ∀ (m c g : Addr) (cs gs : List Int) (H' : Hp), VW H H' (drs m c g cs gs 0) [] → cs.length = 64 → Q (.ref m) H'
theorem scBegun : FnScope ["script", "m", "cell"] ["script"] (defScope sBegun) := ⟨rfl, rfl, rfl, by decide +kernel, rfl, by decide +kernel, by decide +kernel⟩
theorem ok_begun {f fF : Addr} {fd fdF : FuncData} (F : Fun K "_law_begun" "_law_begun" sBegun f fd) (B : Blt mg) (cFolded : Dn P w K mg base 1 "_law_folded" fF fdF ["script"] (spFolded K)) : FnOk P w K mg base CX0 2 f fd ["script"] (spBegun K) := by
  refine F.ok scBegun (fun vs H Q E h => ?_) (fun cdv A outer s H vs Q E hr h => ?_)
  · obtain ⟨a, ns, rfl, _⟩ := h
    rfl
  · obtain ⟨a, ns, rfl, hS, hlen, k⟩ := h
    have hu := hu_of hr
    refine ⟨_, (pss_cons (ps_set (i := 1) scBegun.nd rfl (by first | exact Or.inl rfl | exact Or.inr rfl) (pe_dispF (.cons pe_str (pe_call cFolded.ok (hr.mono (by decide)) rfl cFolded.mgf cFolded.kp cFolded.bi .nil pass0 (pa_cons (pv 0) pa_nil)) (.cons pe_str (pe_lstF pa_nil) (.cons pe_str pe_int .nil))) (by rfl) (by rfl) (fun z => by cases z) (by decide)))
      (pss_cons (ps_dputF hu (pv 1) pe_str (pe_lc (own := [("cell", 2)]) (tt := tYes) rfl scBegun.nd (pi_list (pv 0)) (blkOk_by (own := [("cell", 2)]) (N := ["script", "m", "cell"]) (sc := defScope sBegun) (by decide +kernel)) (fun _ _ _ _ _ => (pg_name (i := 2) scBegun.nd rfl (by first | exact Or.inl rfl | exact Or.inr rfl))) (fun _ _ _ _ _ => pts_nil) (fun _ _ _ _ _ => (pe_ifExp (pt_cmpR op_ge (pv 2) (pe_op op_pow pe_int pe_int) (nomark _)) (pv 2) pe_int))))
      (pss_one (ps_ret (pv 1))))), ?_⟩
    unfold tSeq tAsg tDispF
    refine view_new (VW.start (H := H)) fun m H1 v1 => ?_
    refine ⟨_, rfl, a, ns, rfl, Same.seq (fun b o e => v1.fr b o e) hS, hlen, fun c cs H2 hc hk hcs hl => ?_⟩
    have v2 : VW H H2 [(m, .dK []), (c, .lst (cs.map V.int))] [] := by
      have mc : m ≠ c := fun z => by rw [← z, v1.facts.1] at hc; cases hc
      refine ⟨by simp [hcs, hk m _ v1.facts.1], by simp [mc], ?_, (fun b o e => hk b o (v1.fr b o e)), (fun _ h => nomatch h)⟩
      intro p hp
      simp only [List.mem_cons, List.not_mem_nil, or_false] at hp
      rcases hp with rfl | rfl
      · exact v1.own _ List.mem_cons_self
      · cases e : H c with
        | none => rfl
        | some o => rw [v1.fr c o e] at hc; cases hc
    refine ⟨Nat.zero_le _, view_new v2 fun g0 H3 v3 => ?_⟩
    obtain ⟨f0, f1, f2, _⟩ := v3.facts
    refine ⟨f1, [(Sum.inr "cells", .ref c), (Sum.inr "great", .ref g0), (Sum.inr "spot", .int 0)], by kernel_rfl, by simp, ?_⟩
    refine view_set v3 1 rfl rfl fun H4 v4 => ?_
    rw [show mergeK [] [((Sum.inr "cells" : Key), V.ref c), (Sum.inr "great", .ref g0), (Sum.inr "spot", .int 0)] = [((Sum.inr "cells" : Key), V.ref c), (Sum.inr "great", .ref g0), (Sum.inr "spot", .int 0)] by kernel_rfl] at v4
    -- m['great'] = [cell if cell >= 10 ** 18 else 0 for cell in script]
    refine ⟨_, rfl, a, rfl, ⟨_, Same.seq (fun b o e => v4.fr b o e) hS⟩, fun D hD => lc_it (walk_list (K := K) (a := a) (xs := ns.map V.int)) (fun i H' => ∃ gs : List Int, gs.length = i ∧ VW H H' ((D, .lst (gs.map V.int)) :: [(g0, HO.lst []), (m, _), (c, .lst (cs.map V.int))]) []) ⟨[], rfl, v4.push hD⟩
      (fun i H' _ ⟨gs, _, v⟩ => Same.seq (fun b o e => v.fr b o e) hS) ?_ ?_⟩
    · rintro i x H' H2' hi ⟨gs, hg, v⟩ ⟨rfl, hx⟩
      rw [List.length_map] at hi
      rw [List.getElem?_map, List.getElem?_eq_getElem hi] at hx
      cases hx
      have fin : ∀ z : Int, ∃ acc, H2' D = some (.lst acc) ∧ acc.length < sizeLine ∧ ∃ gs : List Int, gs.length = i + 1 ∧ VW H (upd H2' D (.lst (acc ++ [V.int z]))) ((D, .lst (gs.map V.int)) :: [(g0, HO.lst []), (m, _), (c, .lst (cs.map V.int))]) [] := fun z => by
        refine ⟨_, v.facts.1, sz_lt (by rw [List.length_map]; omega), gs ++ [z], by simp [hg], ?_⟩
        have := v.put (o := .lst (gs.map V.int ++ [V.int z])) 0 rfl rfl
        simpa using this
      refine ⟨rfl, ?_⟩
      simp [tYes, tIf, tTest, tOp, tVar, tC, rI, rI0, wipe, gName, L2.start]
      refine ⟨⟨by decide, by decide⟩, ?_⟩
      refine ite2 (fun _ => fin _) (fun _ => fin 0)
    · rintro H5 ⟨gs, hg, v5⟩
      obtain ⟨e0, e1, e2, e3, _⟩ := v5.facts
      refine ⟨_, rfl, m, rfl, _, e2, _, rfl, sz_lt (by simp), ?_⟩
      rw [dm_put2]
      refine view_set v5 2 rfl rfl fun H6 v6 => ?_
      refine ⟨_, rfl, k m c D cs gs H6 ?_ hl⟩
      have n := v6.nd
      refine ⟨fun p hp => v6.at_ p ?_, ?_, fun p hp => v6.own p ?_, v6.fr, v6.tu⟩
      · simp [drs, dm] at hp ⊢
        rcases hp with rfl | rfl | rfl <;> simp
      · simp [drs] at n ⊢
        grind
      · simp [drs, dm] at hp ⊢
        rcases hp with rfl | rfl | rfl <;> simp
end
end Fab
set_option maxHeartbeats 4000000
namespace Fab
open PySem L2
abbrev sRow : Stmt := top 38
theorem pe_lm {X : Cx} {o e : Expr} {es : List Expr} {to : TE} {t : TA} {name : Str} {apos cpos : Pos} {id : String} {r : V → List V → Hp → VK → Prop} (slot : Slot "list" name id) (hty : typeOf (.builtin id) = pure (.type "method_descriptor")) (hm : MtR X id r) (ho : PE X o to) (ha : PA X (e :: es) t)
    (hbase : attributeBase o name X.env (eval o X.env) = eval o X.env := by rfl)
    (hfew : ((backTo cpos (starEach (e :: es) X.env)).all (fun x => !x.1) && (backToKw cpos (keywordEach [] X.env)).all (fun x => x.1.isSome)
      && decide ((e :: es).length + ([] : List Keyword).length + (if ([] : List Keyword).isEmpty then 0 else 1) < 30)) = true := by rfl)
    (hline : (apos.endLine == cpos.line) = true := by rfl) (hs : starEach (e :: es) X.env = (false, eval e X.env) :: starEach es X.env := by rfl) (hplain : (backTo cpos (starEach es X.env)).any (·.1) = false := by rfl) :
    PE X (.Call (.Attribute o name apos) (e :: es) [] cpos) (tLM r to t) := peI (pe_bm PySem.F.plainAttrs_list slot hty hm (pe_mon ho) ha hbase hfew hline hs hplain) fun _ _ _ q => tLM_of q
def tLstRgF (te : St → Hp → (Int → Int → Hp → Prop) → Prop) : TE := fun σ H Q => te σ H fun a b H1 => RgOk a b ∧ newAt H1 (.lst (rgV a b)) fun q H2 => Q (.ref q) H2
local macro_rules | `(tactic| walk_at "s") => `(tactic| simp [tSeq, tAsg, tOp, tUn, tVar, tC, gName, tCons, tNil, tCB, tCall, rI, rI0, rU, tRet, tDrop, tIfS, tNext, tIf, tTest, tB, L2.start, CMul, CDiv, rIxF, rLenF, rIntF, sq_lst, sq_tup, tLstF, rSetF, gSub, rEq, rNe, tSl, rSlF, rCatF, tRevF, rListF, tLM, rAppF, rPopF])
section
variable {P : Program} {w : World} {K : PySem.W.Frag} {mg : Str → Option Value} {base : Heap}
/-- [f z for z in ints], the list made last -/
theorem lc_mapI {K : PySem.W.Frag} {H0 H : Hp} {L : List (Addr × HO)} {T : List (Addr × List V)} {a D : Addr} {ws : List Int} {g : Int → Int} {n : Nat} {te : TE} {σ : St} {Qd : Hp → Prop} (v : VW H0 H L T) (hD : H D = none)
    (hA : ∀ H' acc, VW H0 H' ((D, .lst acc) :: L) T → SqL K H' a (ws.map V.int)) (hw : ∀ x, wipe ((wipe σ [n]).set n x) [n] = wipe σ [n]) (hte : ∀ z H' Q, Q (.int (g z)) H' → te ((wipe σ [n]).set n (some (.int z))) H' Q) (hz : ws.length ≤ 1000)
    (hd : ∀ H', VW H0 H' ((D, .lst ((ws.map g).map V.int)) :: L) T → Qd H') :
    ∃ W : Nat → Nat → Hp → Prop, (∃ m, W 0 m (upd H D (.lst []))) ∧ ∀ i m H, W i m H →
      ((Itl K a).stop i H ∧ Qd H) ∨ ((Itl K a).go i H ∧ ∃ Nx : Hp → Prop, (∀ H', Nx H' → ∃ m', m' < m ∧ W (i + 1) m' H') ∧ ∀ x H', (Itl K a).yld i H x H' → gName n x (wipe σ [n]) H' fun σ2 H2 => wipe σ2 [n] = wipe σ [n] ∧ tYes σ2 H2 fun b H3 =>
        if b = true then te σ2 H3 fun y H4 => ∃ acc, H4 D = some (.lst acc) ∧ acc.length < sizeLine ∧ Nx (upd H4 D (.lst (acc ++ [y]))) else Nx H3) := by
  refine lc_it (walk_list (K := K) (a := a) (xs := ws.map V.int)) (fun i H' => VW H0 H' ((D, .lst (((ws.take i).map g).map V.int)) :: L) T) ?_ (fun i H' _ v' => hA H' _ v') ?_ (fun H' v' => hd H' ?_)
  · have := v.push (o := .lst []) hD
    simpa using this
  · rintro i x H' H2 hi v' ⟨rfl, hx⟩
    rw [List.length_map] at hi
    rw [List.getElem?_map, List.getElem?_eq_getElem hi] at hx
    cases hx
    refine ⟨hw _, ?_⟩
    simp only [tYes, if_true]
    refine hte _ _ _ ⟨_, v'.facts.1, sz_lt (by simp; omega), ?_⟩
    have := v'.put (o := .lst (((ws.take i).map g).map V.int ++ [V.int (g ws[i])])) 0 rfl rfl
    have e : ws.take (i + 1) = ws.take i ++ [ws[i]] := by rw [List.take_succ, List.getElem?_eq_getElem hi]; rfl
    rw [e, List.map_append, List.map_append]
    simpa using this
  · rw [List.length_map, List.take_length] at v'
    exact v'
/-! ### the turned list -/
def turnL (ws : List Int) (i j : Nat) : List Int := ws.take i ++ (((ws.drop i).take (j + 1 - i)).map fun z => 0 - z).reverse ++ ws.drop (j + 1)
def spTurned : Sp := fun vs H Q _ => ∃ (a : Addr) (ws : List Int) (i j : Nat), vs = [.ref a, .int (i : Nat), .int (j : Nat)] ∧ H a = some (.lst (ws.map V.int)) ∧ i ≤ j ∧ j < ws.length ∧ ws.length ≤ 1000 ∧ ∀ (p : Addr) (H' : Hp), VW H H' [(p, .lst ((turnL ws i j).map V.int))] [] → Q (.ref p) H'
theorem cut_a {ws : List V} {i j : Nat} (h : i ≤ j) (hj : j < ws.length) : cutV ws (some (i : Int)) (some ((j : Int) + 1)) = (ws.drop i).take (j + 1 - i) := by
  unfold cutV
  rw [HT.sIx_nat, show ((j : Int) + 1) = ((j + 1 : Nat) : Int) by omega, HT.sIx_nat, Nat.min_eq_left (by omega), Nat.min_eq_left (by omega)]
theorem cut_b {ws : List V} {i : Nat} (hi : i ≤ ws.length) : cutV ws none (some (i : Int)) = ws.take i := by
  unfold cutV
  rw [HT.sIx_nat, HT.sIx_none, Nat.min_eq_left hi]
  simp
theorem cut_c {ws : List V} {j : Nat} (hj : j < ws.length) : cutV ws (some ((j : Int) + 1)) none = ws.drop (j + 1) := by
  unfold cutV
  rw [HT.sIx_none, show ((j : Int) + 1) = ((j + 1 : Nat) : Int) by omega, HT.sIx_nat, Nat.min_eq_left (by omega)]
  exact List.take_of_length_le (by simp)
end
/-! ### rows -/
def IsRow (ws : List Int) (n : Nat) : Prop := (ws.map Int.natAbs).Perm (List.range' 1 n)
theorem IsRow.len {ws : List Int} {n : Nat} (h : IsRow ws n) : ws.length = n := by
  have := h.length_eq
  simpa using this
theorem abs_neg_map (l : List Int) : (l.map fun z => 0 - z).map Int.natAbs = l.map Int.natAbs := by
  rw [List.map_map]
  exact List.map_congr_left fun z _ => by simp
def firstI (n : Nat) : List Int := (List.range n).map fun i => (1 : Int) + (i : Nat)
theorem firstI_len (n : Nat) : (firstI n).length = n := by simp [firstI]
theorem isRow_first (n : Nat) : IsRow (firstI n) n := by
  have e : (firstI n).map Int.natAbs = List.range' 1 n := by
    unfold firstI
    rw [List.map_map, List.range'_eq_map_range]
    exact List.map_congr_left fun i _ => by simp; omega
  unfold IsRow
  rw [e]
theorem rg_ints (n : Nat) : rgV 1 ((n : Int) + 1) = (firstI n).map V.int := by
  unfold rgV firstI
  rw [show ((n : Int) + 1 - 1).toNat = n by omega, List.map_map]
  rfl
theorem IsRow.turn {ws : List Int} {n i j : Nat} (h : IsRow ws n) (hij : i ≤ j) : IsRow (turnL ws i j) n := by
  refine List.Perm.trans ?_ h
  unfold turnL
  rw [List.map_append, List.map_append, List.map_reverse, abs_neg_map]
  have e : ws = ws.take i ++ ((ws.drop i).take (j + 1 - i) ++ ws.drop (j + 1)) := by
    rw [show ws.drop (j + 1) = (ws.drop i).drop (j + 1 - i) by rw [List.drop_drop]; congr 1; omega, List.take_append_drop, List.take_append_drop]
  conv => rhs; rw [e, List.map_append, List.map_append]
  rw [List.append_assoc]
  exact List.Perm.append_left _ (List.Perm.append_right _ (List.reverse_perm _))
theorem IsRow.about {ws : List Int} {n : Nat} (h : IsRow ws n) : IsRow (ws.reverse.map fun z => 0 - z) n := by
  refine List.Perm.trans ?_ h
  rw [abs_neg_map, List.map_reverse]
  exact List.reverse_perm _
theorem perm_out : ∀ (l : List Int) (k : Nat) (h : k < l.length), l.Perm (l[k] :: l.eraseIdx k)
  | a :: l, 0, _ => List.Perm.refl _
  | a :: l, k + 1, h => ((perm_out l k (by simpa using h)).cons a).trans (List.Perm.swap _ _ _)
theorem perm_pop {fnd rest : List Int} {n k : Nat} {z : Int} (h : ((fnd ++ rest).map Int.natAbs).Perm (List.range' 1 n)) (hk : k < rest.length) (hz : z.natAbs = rest[k].natAbs) : (((fnd ++ [z]) ++ rest.eraseIdx k).map Int.natAbs).Perm (List.range' 1 n) := by
  refine List.Perm.trans ?_ h
  have e : rest.Perm (rest[k] :: rest.eraseIdx k) := perm_out rest k hk
  rw [List.append_assoc, List.map_append, List.map_append, List.map_append]
  refine List.Perm.append_left _ ?_
  refine List.Perm.trans ?_ (e.map Int.natAbs).symm
  simp [hz]
theorem VW.perm {H0 H : Hp} {L L' : List (Addr × HO)} {T : List (Addr × List V)} (v : VW H0 H L T) (h : L.Perm L') : VW H0 H L' T :=
  ⟨fun p hp => v.at_ p (h.mem_iff.mpr hp), (h.map _).nodup_iff.mp v.nd, fun p hp => v.own p (h.mem_iff.mpr hp), v.fr, v.tu⟩
/-! ### the state of the draws -/
section
variable {H0 H H1 H2 : Hp} {L : List (Addr × HO)} {T : List (Addr × List V)} {m c g : Addr} {cs gs gs' : List Int} {n : Nat} {lim : Int}
theorem VW.drawn (v : VW H0 H1 ((m, dm c g n) :: (g, .lst (gs.map V.int)) :: L) T) (hm : H2 m = some (dm c g (n + 1))) (hg : H2 g = some (.lst (gs'.map V.int))) (hk : ∀ a o, H1 a = some o → a ≠ m → a ≠ g → H2 a = some o) :
    VW H0 H2 ((m, dm c g (n + 1)) :: (g, .lst (gs'.map V.int)) :: L) T := by
  obtain ⟨f1, f2, _⟩ := v.facts
  have nd := v.nd
  refine ⟨fun p hp => ?_, nd, fun p hp => ?_, fun a o h => ?_, fun p hp => ?_⟩
  · rcases List.mem_cons.mp hp with rfl | hp
    · exact hm
    · rcases List.mem_cons.mp hp with rfl | hp
      · exact hg
      · have q : p.1 ∈ L.map (·.1) := List.mem_map_of_mem hp
        simp only [List.map_cons, List.nodup_cons, List.mem_cons, not_or] at nd
        exact hk _ _ (v.at_ p (List.mem_cons_of_mem _ (List.mem_cons_of_mem _ hp))) (fun z => nd.1.2 (z ▸ q)) (fun z => nd.2.1 (z ▸ q))
  · rcases List.mem_cons.mp hp with rfl | hp
    · exact v.own (m, dm c g n) List.mem_cons_self
    · rcases List.mem_cons.mp hp with rfl | hp
      · exact v.own (g, .lst (gs.map V.int)) (List.mem_cons_of_mem _ List.mem_cons_self)
      · exact v.own p (List.mem_cons_of_mem _ (List.mem_cons_of_mem _ hp))
  · refine hk a o (v.fr a o h) (fun z => ?_) (fun z => ?_)
    · have := v.own (m, dm c g n) List.mem_cons_self
      rw [z] at h
      rw [h] at this
      cases this
    · have := v.own (g, .lst (gs.map V.int)) (List.mem_cons_of_mem _ List.mem_cons_self)
      rw [z] at h
      rw [h] at this
      cases this
  · have q := v.tu p hp
    refine hk _ _ q (fun z => ?_) (fun z => ?_)
    · rw [z, f1] at q
      unfold dm at q
      cases q
    · rw [z, f2] at q
      cases q
theorem draw_of {Q : VK} {E : XK} (v : VW H0 H1 ((m, dm c g n) :: (g, .lst (gs.map V.int)) :: L) T) (hc : H0 c = some (.lst (cs.map V.int))) (hcs : cs.length = 64) (hl : 0 < lim) (hl2 : lim < 1000000000) (hn : n < 2 ^ 40)
    (k : ∀ (r : Int) (gs' : List Int) (H2 : Hp), 0 ≤ r → r < lim → VW H0 H2 ((m, dm c g (n + 1)) :: (g, .lst (gs'.map V.int)) :: L) T → Q (.int r) H2) : spDraw [.ref m, .int lim] H1 Q E := by
  obtain ⟨f1, f2, _⟩ := v.facts
  refine ⟨m, lim, c, g, cs, gs, n, rfl, hl, hl2, f1, v.fr _ _ hc, f2, fun z => ?_, hcs, hn, fun r gs' H2 r0 r1 h1 _ h3 h4 => k r gs' H2 r0 r1 (v.drawn h1 h3 h4)⟩
  have := v.own (g, .lst (gs.map V.int)) (List.mem_cons_of_mem _ List.mem_cons_self)
  rw [z] at hc
  rw [hc] at this
  cases this
end
/-! ### the parts of _law_row -/
section
variable {K : PySem.W.Frag} {H0 H1 : Hp} {L : List (Addr × HO)} {m c g fp rp : Addr} {cs gs ws : List Int} {n many : Nat} {D : Ends}
def tTail (K : PySem.W.Frag) : TS := tSeq (tIfS (tTest (tOp rEq (tCall spDraw [] E0 (tCons (tVar 0) (tCons (tC (V.int 5)) tNil))) (tC (V.int 0)))) (tAsg (tLc (iList K (tRevF (tVar 2))) (gName 7) tYes (tOp (rI0 fun i j => V.int (i - j)) (tC (V.int 0)) (tVar 7)) [7]) (gName 2)) tNext) (tRet (tVar 2))
theorem row_tail {u1 u3 u4 u5 u6 u7 : Option V} (v : VW H0 H1 ((m, dm c g n) :: (g, .lst (gs.map V.int)) :: (fp, .lst (ws.map V.int)) :: L) []) (hc : H0 c = some (.lst (cs.map V.int))) (hcs : cs.length = 64) (hr : IsRow ws many) (h24 : many ≤ 24) (hn : n < 2 ^ 40)
    (k : ∀ (p : Addr) (ws' gs' : List Int) (H2 : Hp) (L' : List (Addr × HO)), IsRow ws' many → VW H0 H2 ((m, dm c g (n + 1)) :: (g, .lst (gs'.map V.int)) :: (p, .lst (ws'.map V.int)) :: L') [] → D.rt (.ref p) H2) : tTail K D [some (.ref m), u1, some (.ref fp), u3, u4, u5, u6, u7] H1 := by
  unfold tTail
  walk_at "s"
  refine draw_of v hc hcs (by decide) (by decide) hn fun r gs' H2 r0 r1 v2 => ?_
  refine ⟨rfl, ?_⟩
  split
  · refine ⟨_, rfl, fp, rfl, _, v2.facts.2.2.1, view_new v2 fun p1 H3 v3 => ⟨p1, rfl, ⟨_, SqL.of v3.facts.1⟩, fun Dl hD => lc_mapI (ws := ws.reverse) (g := fun z => 0 - z) v3 hD (fun H' acc v' => ?_) (fun _ => rfl) (fun z _ _ q => ⟨_, rfl, _, _, rfl, rfl, q⟩) ?_ fun H4 v4 => ?_⟩⟩
    · rw [List.map_reverse]
      exact SqL.of v'.facts.2.1
    · rw [List.length_reverse, hr.len]
      omega
    · exact k Dl _ gs' H4 _ hr.about (v4.perm (List.Perm.trans (List.Perm.cons _ ((List.Perm.swap _ _ _).trans ((List.Perm.swap _ _ _).cons _))) ((List.Perm.swap _ _ _).trans ((List.Perm.swap _ _ _).cons _))))
  · exact k fp ws gs' H2 L hr v2
def tW0 (K : PySem.W.Frag) : TS := tWhile (tTest (tOp (rNeD K) (tVar 4) (tLstF tNil))) (tDrop (tLM rAppF (tVar 2) (tCons (tOp (rI CMul fun i j => V.int (i * j)) (tLM rPopF (tVar 4) (tCons (tCall spDraw [] E0 (tCons (tVar 0) (tCons (tCB rLenF (tCons (tVar 4) tNil)) tNil))) tNil))
  (tOp (rI0 fun i j => V.int (i - j)) (tC (V.int 1)) (tOp (rI CMul fun i j => V.int (i * j)) (tC (V.int 2)) (tCall spDraw [] E0 (tCons (tVar 0) (tCons (tC (V.int 2)) tNil)))))) tNil)))
def W0 (H0 : Hp) (m c g fp rp : Addr) (u1 u3 u5 u6 u7 : Option V) (many q N0 : Nat) (j : Nat) (σ : St) (H' : Hp) : Prop := ∃ (fnd rest : List Int) (n' : Nat) (gs' : List Int) (L' : List (Addr × HO)), rest.length = j ∧ σ = [some (.ref m), u1, some (.ref fp), u3, some (.ref rp), u5, u6, u7] ∧ n' + q * rest.length = N0 ∧
    ((fnd ++ rest).map Int.natAbs).Perm (List.range' 1 many) ∧ VW H0 H' ((m, dm c g n') :: (g, .lst (gs'.map V.int)) :: (fp, .lst (fnd.map V.int)) :: (rp, .lst (rest.map V.int)) :: L') []
theorem erase_map : ∀ (l : List Int) (k : Nat), (l.eraseIdx k).map V.int = (l.map V.int).eraseIdx k
  | [], _ => rfl
  | a :: l, 0 => rfl
  | a :: l, k + 1 => by
    have := erase_map l k
    simp [List.eraseIdx_cons_succ, this]
theorem seqIx {i : Int} {n : Nat} (h0 : 0 ≤ i) (h1 : i < n) : seqIndex? i n = some i.toNat := by
  unfold seqIndex?
  simp [h0, h1]
  omega
theorem row_w0 {u1 u3 u5 u6 u7 : Option V} (hc : H0 c = some (.lst (cs.map V.int))) (hcs : cs.length = 64) (h24 : many ≤ 24) {fnd0 rest0 : List Int} (v : VW H0 H1 ((m, dm c g n) :: (g, .lst (gs.map V.int)) :: (fp, .lst (fnd0.map V.int)) :: (rp, .lst (rest0.map V.int)) :: L) [])
    (hp : ((fnd0 ++ rest0).map Int.natAbs).Perm (List.range' 1 many)) (hn : n < 2 ^ 39) (k : ∀ (ws gs' : List Int) (H2 : Hp) (L' : List (Addr × HO)), IsRow ws many → VW H0 H2 ((m, dm c g (n + 2 * rest0.length)) :: (g, .lst (gs'.map V.int)) :: (fp, .lst (ws.map V.int)) :: L') [] → D.nx [some (.ref m), u1, some (.ref fp), u3, some (.ref rp), u5, u6, u7] H2) :
    tW0 K D [some (.ref m), u1, some (.ref fp), u3, some (.ref rp), u5, u6, u7] H1 := by
  have le : ∀ {fnd rest : List Int}, ((fnd ++ rest).map Int.natAbs).Perm (List.range' 1 many) → fnd.length + rest.length = many := fun {fnd rest} hp => by
    have := hp.length_eq
    simpa using this
  have l0 := le hp
  unfold tW0
  refine ⟨W0 H0 m c g fp rp u1 u3 u5 u6 u7 many 2 (n + 2 * rest0.length), ⟨_, fnd0, rest0, n, gs, L, rfl, rfl, rfl, hp, v⟩, ?_⟩
  rintro j σ H' ⟨fnd, rest, n', gs', L', rfl, rfl, hnn, hp', v'⟩
  have l1 := le hp'
  refine ⟨_, rfl, Nat.zero_le _, view_new v' fun e H2 v2 => ?_⟩
  have v3 := v2.drop (List.sublist_cons_self ..) (fun _ h => h)
  have hb : (!(PyData.eqv (.list (rest.map PyData.int)) (.list []))) = !rest.isEmpty := by cases rest <;> rfl
  refine ⟨.list (rest.map PyData.int), .list [], .lst (SqL.of v3.facts.2.2.2.1) (dp_ints rest), .lst (SqL.of v2.facts.1) .nil, shaped_ints rest, by decide, _, rfl, ?_⟩
  rw [hb]
  cases rest with
  | nil =>
    rw [if_neg (by decide)]
    have e : n' = n + 2 * rest0.length := by simpa using hnn
    subst e
    refine k fnd gs' H2 ((rp, .lst []) :: L') (by simpa [IsRow] using hp') v3
  | cons y ys =>
    rw [if_pos (by rfl)]
    refine ⟨fun σ' H' => ∃ m', m' < (y :: ys).length ∧ W0 H0 m c g fp rp u1 u3 u5 u6 u7 many 2 (n + 2 * rest0.length) m' σ' H', fun σ' H' h => h, ?_⟩
    walk_at "s"
    have lm : (((y :: ys).map V.int).length : Nat) = (y :: ys).length := List.length_map ..
    refine ⟨⟨_, v3.facts.2.2.1⟩, ⟨_, v3.facts.2.2.2.1⟩, _, v3.facts.2.2.2.1, _, rfl, draw_of v3 hc hcs (by rw [lm, List.length_cons]; omega) (by rw [lm]; omega) (by omega) fun r gs2 H3 r0 r1 v4 => ?_⟩
    rw [lm] at r1
    have hr' : r.toNat < (y :: ys).length := by omega
    refine ⟨_, rfl, _, v4.facts.2.2.2.1, by omega, by omega, r.toNat, seqIx r0 (by rw [lm]; exact r1), _, by rw [List.getElem?_map, List.getElem?_eq_getElem hr']; rfl, view_set v4 3 rfl rfl fun H4 v5 => draw_of v5 hc hcs (by decide) (by decide) (by omega) fun s2 gs3 H5 s0 s1 v6 => ?_⟩
    refine ⟨_, rfl, _, rfl, .inr ⟨by omega, by omega⟩, _, v6.facts.2.2.1, sz_lt (by rw [List.length_map]; omega), view_set v6 2 rfl rfl fun H6 v7 => ?_⟩
    have el : ((y :: ys).eraseIdx r.toNat).length = ys.length := by rw [List.length_eraseIdx_of_lt hr']; simp
    refine ⟨_, ?_, fnd ++ [(y :: ys)[r.toNat] * (1 - 2 * s2)], (y :: ys).eraseIdx r.toNat, n' + 1 + 1, gs3, L', rfl, rfl, ?_, perm_pop hp' hr' ?_, ?_⟩
    · rw [el]; omega
    · rw [el]; simp at hnn; omega
    · have : s2 = 0 ∨ s2 = 1 := by omega
      rcases this with rfl | rfl <;> simp
    · rw [List.map_append, show ((y :: ys).eraseIdx r.toNat).map V.int = ((y :: ys).map V.int).eraseIdx r.toNat from erase_map _ _]
      exact v7
def tW1 (K : PySem.W.Frag) : TS := tWhile (tTest (tOp (rNeD K) (tVar 4) (tLstF tNil))) (tDrop (tLM rAppF (tVar 2) (tCons (tLM rPopF (tVar 4) (tCons (tCall spDraw [] E0 (tCons (tVar 0) (tCons (tCB rLenF (tCons (tVar 4) tNil)) tNil))) tNil)) tNil)))
theorem row_w1 {u1 u3 u5 u6 u7 : Option V} (hc : H0 c = some (.lst (cs.map V.int))) (hcs : cs.length = 64) (h24 : many ≤ 24) {fnd0 rest0 : List Int} (v : VW H0 H1 ((m, dm c g n) :: (g, .lst (gs.map V.int)) :: (fp, .lst (fnd0.map V.int)) :: (rp, .lst (rest0.map V.int)) :: L) [])
    (hp : ((fnd0 ++ rest0).map Int.natAbs).Perm (List.range' 1 many)) (hn : n < 2 ^ 39) (k : ∀ (ws gs' : List Int) (H2 : Hp) (L' : List (Addr × HO)), IsRow ws many → VW H0 H2 ((m, dm c g (n + 1 * rest0.length)) :: (g, .lst (gs'.map V.int)) :: (fp, .lst (ws.map V.int)) :: L') [] → D.nx [some (.ref m), u1, some (.ref fp), u3, some (.ref rp), u5, u6, u7] H2) :
    tW1 K D [some (.ref m), u1, some (.ref fp), u3, some (.ref rp), u5, u6, u7] H1 := by
  have le : ∀ {fnd rest : List Int}, ((fnd ++ rest).map Int.natAbs).Perm (List.range' 1 many) → fnd.length + rest.length = many := fun {fnd rest} hp => by
    have := hp.length_eq
    simpa using this
  have l0 := le hp
  unfold tW1
  refine ⟨W0 H0 m c g fp rp u1 u3 u5 u6 u7 many 1 (n + 1 * rest0.length), ⟨_, fnd0, rest0, n, gs, L, rfl, rfl, rfl, hp, v⟩, ?_⟩
  rintro j σ H' ⟨fnd, rest, n', gs', L', rfl, rfl, hnn, hp', v'⟩
  have l1 := le hp'
  refine ⟨_, rfl, Nat.zero_le _, view_new v' fun e H2 v2 => ?_⟩
  have v3 := v2.drop (List.sublist_cons_self ..) (fun _ h => h)
  have hb : (!(PyData.eqv (.list (rest.map PyData.int)) (.list []))) = !rest.isEmpty := by cases rest <;> rfl
  refine ⟨.list (rest.map PyData.int), .list [], .lst (SqL.of v3.facts.2.2.2.1) (dp_ints rest), .lst (SqL.of v2.facts.1) .nil, shaped_ints rest, by decide, _, rfl, ?_⟩
  rw [hb]
  cases rest with
  | nil =>
    rw [if_neg (by decide)]
    have e : n' = n + 1 * rest0.length := by simpa using hnn
    subst e
    refine k fnd gs' H2 ((rp, .lst []) :: L') (by simpa [IsRow] using hp') v3
  | cons y ys =>
    rw [if_pos (by rfl)]
    refine ⟨fun σ' H' => ∃ m', m' < (y :: ys).length ∧ W0 H0 m c g fp rp u1 u3 u5 u6 u7 many 1 (n + 1 * rest0.length) m' σ' H', fun σ' H' h => h, ?_⟩
    walk_at "s"
    have lm : (((y :: ys).map V.int).length : Nat) = (y :: ys).length := List.length_map ..
    refine ⟨⟨_, v3.facts.2.2.1⟩, ⟨_, v3.facts.2.2.2.1⟩, _, v3.facts.2.2.2.1, _, rfl, draw_of v3 hc hcs (by rw [lm, List.length_cons]; omega) (by rw [lm]; omega) (by omega) fun r gs2 H3 r0 r1 v4 => ?_⟩
    rw [lm] at r1
    have hr' : r.toNat < (y :: ys).length := by omega
    refine ⟨_, rfl, _, v4.facts.2.2.2.1, by omega, by omega, r.toNat, seqIx r0 (by rw [lm]; exact r1), _, by rw [List.getElem?_map, List.getElem?_eq_getElem hr']; rfl, view_set v4 3 rfl rfl fun H4 v5 => ?_⟩
    refine ⟨_, v5.facts.2.2.1, sz_lt (by rw [List.length_map]; omega), view_set v5 2 rfl rfl fun H6 v7 => ?_⟩
    have el : ((y :: ys).eraseIdx r.toNat).length = ys.length := by rw [List.length_eraseIdx_of_lt hr']; simp
    refine ⟨_, ?_, fnd ++ [(y :: ys)[r.toNat]], (y :: ys).eraseIdx r.toNat, n' + 1, gs2, L', rfl, rfl, ?_, perm_pop hp' hr' ?_, ?_⟩
    · rw [el]; omega
    · rw [el]; simp at hnn; omega
    · rfl
    · rw [List.map_append, show ((y :: ys).eraseIdx r.toNat).map V.int = ((y :: ys).map V.int).eraseIdx r.toNat from erase_map _ _]
      exact v7
theorem VW.trans {H0 H H' : Hp} {L L2 : List (Addr × HO)} {T T2 : List (Addr × List V)} (v : VW H0 H L T) (u : VW H H' L2 T2) : VW H0 H' (L2 ++ L) T := by
  refine ⟨fun p hp => ?_, ?_, fun p hp => ?_, fun a o h => u.fr a o (v.fr a o h), fun p hp => u.fr _ _ (v.tu p hp)⟩
  · rcases List.mem_append.mp hp with hp | hp
    · exact u.at_ p hp
    · exact u.fr _ _ (v.at_ p hp)
  · rw [List.map_append, List.nodup_append]
    refine ⟨u.nd, v.nd, fun a ha b hb z => ?_⟩
    obtain ⟨p, hp, rfl⟩ := List.mem_map.mp ha
    obtain ⟨q, hq, rfl⟩ := List.mem_map.mp hb
    have h1 := u.own p hp
    have h2 := v.at_ q hq
    rw [z, h2] at h1
    cases h1
  · rcases List.mem_append.mp hp with hp | hp
    · cases e : H0 p.1 with
      | none => rfl
      | some o =>
        have := u.own p hp
        rw [v.fr _ _ e] at this
        cases this
    · exact v.own p hp
def tW2 : TS := tFor (iRng1 (tCons (tOp (rI0 fun i j => V.int (i + j)) (tC (V.int 1)) (tCall spDraw [] E0 (tCons (tVar 0) (tCons (tVar 1) tNil)))) tNil)) (gName 5)
  (tSeq (tAsg (tCall spDraw [] E0 (tCons (tVar 0) (tCons (tVar 1) tNil))) (gName 6))
    (tAsg (tCall spTurned [] E0 (tCons (tVar 2) (tCons (tVar 6) (tCons (tOp (rI0 fun i j => V.int (i + j)) (tVar 6) (tCall spDraw [] E0 (tCons (tVar 0) (tCons (tOp (rI0 fun i j => V.int (i - j)) (tVar 1) (tVar 6)) tNil)))) tNil)))) (gName 2)))
theorem row_w2 {u3 u4 u5 u6 u7 : Option V} (hc : H0 c = some (.lst (cs.map V.int))) (hcs : cs.length = 64) (h24 : many ≤ 24) (h0 : 0 < many) (v : VW H0 H1 ((m, dm c g n) :: (g, .lst (gs.map V.int)) :: (fp, .lst (ws.map V.int)) :: L) [])
    (hr : IsRow ws many) (hn : n < 2 ^ 39) (k : ∀ (fp' : Addr) (ws gs' : List Int) (n' : Nat) (a5 a6 : Option V) (H2 : Hp) (L' : List (Addr × HO)), IsRow ws many → n ≤ n' → n' ≤ n + 60 → VW H0 H2 ((m, dm c g n') :: (g, .lst (gs'.map V.int)) :: (fp', .lst (ws.map V.int)) :: L') [] → D.nx [some (.ref m), some (.int (many : Nat)), some (.ref fp'), u3, u4, a5, a6, u7] H2) :
    tW2 D [some (.ref m), some (.int (many : Nat)), some (.ref fp), u3, u4, u5, u6, u7] H1 := by
  unfold tW2
  refine ⟨_, rfl, _, rfl, ?_⟩
  dsimp only [tNil, List.nil_append, List.cons_append]
  refine draw_of v hc hcs (by omega) (by omega) (by omega) fun r gs1 H2 r0 r1 v1 => ?_
  obtain ⟨r, rfl⟩ := Int.eq_ofNat_of_zero_le r0
  refine ⟨1, r, rfl, rfl, _, rfl, by omega, by omega, ?_⟩
  rw [show (1 + (r : Int)).toNat = 1 + r by omega]
  refine for_it (walk_range (lo := 0) (n := 1 + r)) (fun i σ H' => ∃ (ws : List Int) (n' : Nat) (gs' : List Int) (fp : Addr) (a5 a6 : Option V) (L' : List (Addr × HO)), σ = [some (.ref m), some (.int (many : Nat)), some (.ref fp), u3, u4, a5, a6, u7] ∧ n' = n + 1 + 2 * i ∧ IsRow ws many ∧
    VW H0 H' ((m, dm c g n') :: (g, .lst (gs'.map V.int)) :: (fp, .lst (ws.map V.int)) :: L') []) ⟨ws, n + 1, gs1, fp, u5, u6, L, rfl, rfl, hr, v1⟩ (fun _ _ _ _ _ => True.intro) ?_ ?_
  · rintro i x σ H' H3 hi ⟨ws, n', gs', fp, a5, a6, L', rfl, rfl, hr, v'⟩ ⟨rfl, rfl⟩
    refine ⟨_, rfl, _, rfl, ?_⟩
    dsimp only [tNil, List.nil_append, List.cons_append]
    refine draw_of v' hc hcs (by omega) (by omega) (by omega) fun x gs2 H3 x0 x1 v2 => ?_
    obtain ⟨x, rfl⟩ := Int.eq_ofNat_of_zero_le x0
    refine ⟨_, rfl, _, rfl, _, rfl, _, rfl, _, rfl, _, rfl, _, _, rfl, rfl, ?_⟩
    dsimp only [tNil, List.nil_append, List.cons_append]
    refine draw_of v2 hc hcs (by omega) (by omega) (by omega) fun y gs3 H4 y0 y1 v3 => ?_
    obtain ⟨y, rfl⟩ := Int.eq_ofNat_of_zero_le y0
    have lw := hr.len
    refine ⟨_, _, rfl, rfl, fp, ws, x, x + y, by rw [Int.natCast_add], v3.facts.2.2.1, by omega, by omega, by omega, fun p H5 v4 => ?_⟩
    have v5 := v3.trans v4
    exact ⟨turnL ws x (x + y), _, gs3, p, _, _, _, rfl, by omega, hr.turn (by omega), v5.perm ((List.Perm.swap _ _ _).trans ((List.Perm.swap _ _ _).cons _))⟩
  · rintro σ H' ⟨ws, n', gs', fp, a5, a6, L', rfl, rfl, hr, v'⟩
    exact k fp ws gs' _ a5 a6 H' L' hr (by omega) (by omega) v'
end
section
variable {P : Program} {w : World} {K : PySem.W.Frag} {mg : Str → Option Value} {base : Heap}
/-- a drawn row of many waggons -/
def spRow : Sp := fun vs H Q _ => ∃ (m : Addr) (many : Nat) (c g : Addr) (cs gs : List Int) (n : Nat), vs = [.ref m, .int (many : Nat)] ∧ many ≤ 24 ∧ H m = some (dm c g n) ∧ H c = some (.lst (cs.map V.int)) ∧ H g = some (.lst (gs.map V.int)) ∧ c ≠ g ∧ cs.length = 64 ∧ n < 2 ^ 38 ∧
  ∀ (p : Addr) (ws gs' : List Int) (n' : Nat) (H' : Hp), IsRow ws many → n ≤ n' → n' ≤ n + 100 → H p = none → H' p = some (.lst (ws.map V.int)) → H' m = some (dm c g n') → H' g = some (.lst (gs'.map V.int)) → (∀ a o, H a = some o → a ≠ m → a ≠ g → H' a = some o) → Q (.ref p) H'
end

end Fab
set_option maxHeartbeats 4000000
namespace Fab
open PySem L2 PySem.FabX
abbrev sWhole : Stmt := top 2
abbrev sFault : Stmt := top 19
abbrev sXRow : Stmt := inClass (top 7) 0
abbrev sXTurn : Stmt := inClass (top 8) 0
abbrev sXPlace : Stmt := inClass (top 9) 0
abbrev sXNumber : Stmt := inClass (top 10) 0
abbrev sXGreat : Stmt := inClass (top 15) 0
abbrev sXText : Stmt := inClass (top 12) 0
abbrev sXWay : Stmt := inClass (top 13) 0
abbrev sRI : Stmt := inClass (top 18) 0
abbrev sRLen : Stmt := inClass (top 18) 1
abbrev sREq : Stmt := inClass (top 18) 2
/-- the errors that the text has, with a field -/
abbrev hasK : Kd → Bool
  | .row => true
  | .turn => true
  | .place => true
  | .number => true
  | .other => false
  | .great => true
  | .text => true
  | .way => true
  | .nothing => false
local macro_rules | `(tactic| walk_at "s") => `(tactic| simp [tSeq, tAsg, tOp, tUn, tVar, tC, gName, tCons, tNil, tCB, tCall, rI, rI0, rU, tRet, tDrop, tIfS, tNext, tIf, tTest, tNot, tOr, tAnd, tB, L2.start, CMul, CDiv, rIxF, rLenF, rIntF, sq_lst, sq_tup, tLstF, tTupF, gSub, rCatF, rInF, rNe, rEq, tAndV, tOrV, tNotV, tChain, rSIn, tSAdd, rSAdd])
/-- a value of which isinstance(.., int) is known -/
inductive Asked (K : PySem.W.Frag) (H : Hp) : V → Prop
  | int (i : Int) : Asked K H (.int i)
  | bl (b : Bool) : Asked K H (.bl b)
  | other {x : V} {t : Value} (ty : TyX K H x t) (no : PySem.W.kitOne K t (.type "int") = some false) (h1 : ∀ i, x ≠ .int i) : Asked K H x
def wholeV : V → Int → Int → Bool
  | .int i, lo, hi => decide (lo ≤ i) && decide (i ≤ hi)
  | _, _, _ => false
section
variable {P : Program} {w : World} {K : PySem.W.Frag} {mg : Str → Option Value} {base : Heap}
def spWhole (K : PySem.W.Frag) : Sp := fun vs H Q _ => ∃ (x : V) (lo hi : Int), vs = [x, .int lo, .int hi] ∧ Asked K H x ∧ Q (.bl (wholeV x lo hi)) H
theorem scWhole : FnScope ["value", "least", "most"] ["value", "least", "most"] (defScope sWhole) := ⟨rfl, rfl, rfl, by decide +kernel, rfl, by decide +kernel, by decide +kernel⟩
theorem ok_whole {f : Addr} {fd : FuncData} (F : Fun K "is_whole" "is_whole" sWhole f fd) (B : Blt mg) : FnOk P w K mg base CX0 1 f fd ["value", "least", "most"] (spWhole K) := by
  refine F.ok scWhole (fun vs H Q E h => ?_) (fun cdv A outer s H vs Q E hr h => ?_)
  · obtain ⟨x, lo, hi, rfl, _⟩ := h
    rfl
  · obtain ⟨x, lo, hi, rfl, ha, k⟩ := h
    refine ⟨_, (pss_one (ps_ret (pe_and (pe_callB call_isi (by rfl) B.isinstance (by decide +kernel) (pa_cons (pv 0) (pa_cons (pe_bltn (v := .ty "int") (by rfl) B.int (by decide +kernel) rfl) pa_nil))) (pe_and (pe_not (pe_callB call_isi (by rfl) B.isinstance (by decide +kernel) (pa_cons (pv 0) (pa_cons (pe_bltn (v := .ty "bool") (by rfl) B.bool (by decide +kernel) rfl) pa_nil)))) (pe_one (pe_chain op_le op_le (pv 1) (pv 0) (pv 2))))))), ?_⟩
    walk_at "s"
    cases ha with
    | int i =>
      refine ⟨.int i, .ty "int", .type "int", .type "int", true, rfl, .ty _, .base (.int i), kit_ty (by decide +kernel), .inr ⟨rfl, .int i, .ty "bool", .type "int", .type "bool", false, rfl, .ty _, .base (.int i), kit_ty (by decide +kernel), .inl ⟨rfl, i, rfl, ?_⟩⟩⟩
      unfold wholeV at k
      split
      · rename_i h1
        refine ⟨i, rfl, ?_⟩
        simpa [h1] using k
      · rename_i h1
        simpa [h1] using k
    | bl b => exact ⟨.bl b, .ty "int", .type "bool", .type "int", true, rfl, .ty _, .base (.bl b), kit_ty (by decide +kernel), .inr ⟨rfl, .bl b, .ty "bool", .type "bool", .type "bool", true, rfl, .ty _, .base (.bl b), kit_ty (by decide +kernel), .inr ⟨rfl, k⟩⟩⟩
    | @other x t ty no h1 =>
      refine ⟨x, .ty "int", t, .type "int", false, rfl, .ty _, ty, no, .inl ⟨rfl, ?_⟩⟩
      have e : wholeV x lo hi = false := by
        cases x with
        | int i => exact absurd rfl (h1 i)
        | _ => rfl
      rw [e] at k
      exact k
/-! ### the errors: made by an __init__ that calls its base's and stores one field -/
def spXI (newId : String) (bmB : List Value) (K : PySem.W.Frag) (f : Str) : Sp := fun vs H Q _ => ∃ (a C : Addr) (v : V), vs = [.ref a, v] ∧ H a = some (exo a C none) ∧ XCls newId bmB K C ∧ PySem.W.findIn K (.ref C) f = some none ∧
  ∀ dx, H dx = none → dx ≠ a → Q .non (upd (upd H dx (exd dx [(f, v)])) a (exo a C (some dx)))
/-- what the text says of FaceError -/
structure FaceC (K : PySem.W.Frag) (mg : Str → Option Value) (CF : Addr) : Prop where
  mgF : mg "FaceError" = some (.ref CF)
  gi : PySem.W.specialIn K (.ref CF) "__getattribute__" = some (some (.builtin "type.__getattribute__"))
  rd : PySem.W.readsIn K CF (.type "type") = true
  fi : PySem.W.findCls K (.ref CF) (.type "type") "__init__" = some (.val (.builtin "ValueError.__init__"))
abbrev bmV : List Value := [.type "ValueError", .type "Exception", .type "BaseException", .type "object"]
abbrev bmO : List Value := [.type "OverflowError", .type "ArithmeticError", .type "Exception", .type "BaseException", .type "object"]
theorem scXRow : FnScope ["self", "place"] ["self", "place"] (defScope sXRow) := ⟨rfl, rfl, rfl, by decide +kernel, rfl, by decide +kernel, by decide +kernel⟩
theorem ok_xRow {CF f : Addr} {fd : FuncData} (F : Fun K "__init__" "BadRow.__init__" sXRow f fd) (T : FaceC K mg CF) : FnOk P w K mg base CX0 1 f fd ["self", "place"] (spXI "ValueError.__new__" bmV K "place") := by
  refine F.ok scXRow (fun vs H Q E h => ?_) (fun cdv A outer s H vs Q E hr h => ?_)
  · obtain ⟨a, C, v, rfl, _⟩ := h
    rfl
  · obtain ⟨a, C, v, rfl, ha, X, no, k⟩ := h
    refine ⟨_, pss_cons (ps_expr (pe_xiC eb_value (by rfl) T.mgF T.gi T.rd T.fi (by decide +kernel) (pa_cons (pv 0) (pa_cons pe_str pa_nil)))) (pss_one (ps_xst eb_value (pv 0) (pv 1))), ?_⟩
    exact ⟨_, rfl, a, C, _, rfl, by decide, X, ha, _, rfl, _, rfl, a, C, rfl, X, no, ha, k⟩
theorem scXTurn : FnScope ["self", "place"] ["self", "place"] (defScope sXTurn) := ⟨rfl, rfl, rfl, by decide +kernel, rfl, by decide +kernel, by decide +kernel⟩
theorem ok_xTurn {CF f : Addr} {fd : FuncData} (F : Fun K "__init__" "BadTurn.__init__" sXTurn f fd) (T : FaceC K mg CF) : FnOk P w K mg base CX0 1 f fd ["self", "place"] (spXI "ValueError.__new__" bmV K "place") := by
  refine F.ok scXTurn (fun vs H Q E h => ?_) (fun cdv A outer s H vs Q E hr h => ?_)
  · obtain ⟨a, C, v, rfl, _⟩ := h
    rfl
  · obtain ⟨a, C, v, rfl, ha, X, no, k⟩ := h
    refine ⟨_, pss_cons (ps_expr (pe_xiC eb_value (by rfl) T.mgF T.gi T.rd T.fi (by decide +kernel) (pa_cons (pv 0) (pa_cons pe_str pa_nil)))) (pss_one (ps_xst eb_value (pv 0) (pv 1))), ?_⟩
    exact ⟨_, rfl, a, C, _, rfl, by decide, X, ha, _, rfl, _, rfl, a, C, rfl, X, no, ha, k⟩
theorem scXText : FnScope ["self", "place"] ["self", "place"] (defScope sXText) := ⟨rfl, rfl, rfl, by decide +kernel, rfl, by decide +kernel, by decide +kernel⟩
theorem ok_xText {CF f : Addr} {fd : FuncData} (F : Fun K "__init__" "BadText.__init__" sXText f fd) (T : FaceC K mg CF) : FnOk P w K mg base CX0 1 f fd ["self", "place"] (spXI "ValueError.__new__" bmV K "place") := by
  refine F.ok scXText (fun vs H Q E h => ?_) (fun cdv A outer s H vs Q E hr h => ?_)
  · obtain ⟨a, C, v, rfl, _⟩ := h
    rfl
  · obtain ⟨a, C, v, rfl, ha, X, no, k⟩ := h
    refine ⟨_, pss_cons (ps_expr (pe_xiC eb_value (by rfl) T.mgF T.gi T.rd T.fi (by decide +kernel) (pa_cons (pv 0) (pa_cons pe_str pa_nil)))) (pss_one (ps_xst eb_value (pv 0) (pv 1))), ?_⟩
    exact ⟨_, rfl, a, C, _, rfl, by decide, X, ha, _, rfl, _, rfl, a, C, rfl, X, no, ha, k⟩
theorem scXWay : FnScope ["self", "value"] ["self", "value"] (defScope sXWay) := ⟨rfl, rfl, rfl, by decide +kernel, rfl, by decide +kernel, by decide +kernel⟩
theorem ok_xWay {CF f : Addr} {fd : FuncData} (F : Fun K "__init__" "BadWay.__init__" sXWay f fd) (T : FaceC K mg CF) : FnOk P w K mg base CX0 1 f fd ["self", "value"] (spXI "ValueError.__new__" bmV K "value") := by
  refine F.ok scXWay (fun vs H Q E h => ?_) (fun cdv A outer s H vs Q E hr h => ?_)
  · obtain ⟨a, C, v, rfl, _⟩ := h
    rfl
  · obtain ⟨a, C, v, rfl, ha, X, no, k⟩ := h
    refine ⟨_, pss_cons (ps_expr (pe_xiC eb_value (by rfl) T.mgF T.gi T.rd T.fi (by decide +kernel) (pa_cons (pv 0) (pa_cons pe_str pa_nil)))) (pss_one (ps_xst eb_value (pv 0) (pv 1))), ?_⟩
    exact ⟨_, rfl, a, C, _, rfl, by decide, X, ha, _, rfl, _, rfl, a, C, rfl, X, no, ha, k⟩
theorem scXPlace : FnScope ["self", "value"] ["self", "value"] (defScope sXPlace) := ⟨rfl, rfl, rfl, by decide +kernel, rfl, by decide +kernel, by decide +kernel⟩
theorem ok_xPlace {CF f : Addr} {fd : FuncData} (F : Fun K "__init__" "BadPlace.__init__" sXPlace f fd) (T : FaceC K mg CF) : FnOk P w K mg base CX0 1 f fd ["self", "value"] (spXI "ValueError.__new__" bmV K "value") := by
  refine F.ok scXPlace (fun vs H Q E h => ?_) (fun cdv A outer s H vs Q E hr h => ?_)
  · obtain ⟨a, C, v, rfl, _⟩ := h
    rfl
  · obtain ⟨a, C, v, rfl, ha, X, no, k⟩ := h
    refine ⟨_, pss_cons (ps_expr (pe_xiC eb_value (by rfl) T.mgF T.gi T.rd T.fi (by decide +kernel) (pa_cons (pv 0) (pa_cons pe_str pa_nil)))) (pss_one (ps_xst eb_value (pv 0) (pv 1))), ?_⟩
    exact ⟨_, rfl, a, C, _, rfl, by decide, X, ha, _, rfl, _, rfl, a, C, rfl, X, no, ha, k⟩
theorem scXNumber : FnScope ["self", "value"] ["self", "value"] (defScope sXNumber) := ⟨rfl, rfl, rfl, by decide +kernel, rfl, by decide +kernel, by decide +kernel⟩
theorem ok_xNumber {CF f : Addr} {fd : FuncData} (F : Fun K "__init__" "BadNumber.__init__" sXNumber f fd) (T : FaceC K mg CF) : FnOk P w K mg base CX0 1 f fd ["self", "value"] (spXI "ValueError.__new__" bmV K "value") := by
  refine F.ok scXNumber (fun vs H Q E h => ?_) (fun cdv A outer s H vs Q E hr h => ?_)
  · obtain ⟨a, C, v, rfl, _⟩ := h
    rfl
  · obtain ⟨a, C, v, rfl, ha, X, no, k⟩ := h
    refine ⟨_, pss_cons (ps_expr (pe_xiC eb_value (by rfl) T.mgF T.gi T.rd T.fi (by decide +kernel) (pa_cons (pv 0) (pa_cons pe_str pa_nil)))) (pss_one (ps_xst eb_value (pv 0) (pv 1))), ?_⟩
    exact ⟨_, rfl, a, C, _, rfl, by decide, X, ha, _, rfl, _, rfl, a, C, rfl, X, no, ha, k⟩
theorem scXGreat : FnScope ["self", "most"] ["self", "most"] (defScope sXGreat) := ⟨rfl, rfl, rfl, by decide +kernel, rfl, by decide +kernel, by decide +kernel⟩
theorem ok_xGreat {f : Addr} {fd : FuncData} (F : Fun K "__init__" "TooGreat.__init__" sXGreat f fd) (B : Blt mg) (fi : PySem.W.findCls K (.type "OverflowError") (.type "type") "__init__" = some (.val (.builtin "OverflowError.__init__"))) : FnOk P w K mg base CX0 1 f fd ["self", "most"] (spXI "OverflowError.__new__" bmO K "most") := by
  refine F.ok scXGreat (fun vs H Q E h => ?_) (fun cdv A outer s H vs Q E hr h => ?_)
  · obtain ⟨a, C, v, rfl, _⟩ := h
    rfl
  · obtain ⟨a, C, v, rfl, ha, X, no, k⟩ := h
    refine ⟨_, pss_cons (ps_expr (pe_xiT eb_over (by rfl) B.overflowError (by rfl) (by kernel_rfl) (by decide +kernel) fi (by decide +kernel) (pa_cons (pv 0) (pa_cons pe_str pa_nil)))) (pss_one (ps_xst eb_over (pv 0) (pv 1))), ?_⟩
    exact ⟨_, rfl, a, C, _, rfl, by decide, X, ha, _, rfl, _, rfl, a, C, rfl, X, no, ha, k⟩
end
/-- an own error, as it is raised -/
structure XD (P : Program) (w : World) (K : PySem.W.Frag) (mg : Str → Option Value) (base : Heap) (k : Kd) (C : Addr) (B newId initId : String) (bmB : List Value) (fI : Addr) (fd : FuncData) : Prop where
  eb : EBase B newId initId bmB
  T : XCls newId bmB K C
  iC : PySem.W.findIn K (.ref C) "__init__" = some (some (.ref fI))
  tI : PySem.W.typeIn K (.ref fI) = some (.type "function")
  F : FnOk P w K mg base CX0 1 fI fd ["self", k.fld] (spXI newId bmB K k.fld)
  hb : Binds K fd ["self", k.fld] []
  no : PySem.W.findIn K (.ref C) k.fld = some none
  mgC : mg k.name = some (.ref C)
def XDs (P : Program) (w : World) (K : PySem.W.Frag) (mg : Str → Option Value) (base : Heap) (C : Kd → Addr) (k : Kd) : Prop := ∃ B newId initId bmB fI fd, XD P w K mg base k (C k) B newId initId bmB fI fd
/-- raise C(e) -/
def tRx (C : Addr) (f : Str) (W : WX) (te : TE) : TS := fun _ σ H => te σ H fun v H1 => ∀ d H2, H1 d = none → H2 = upd H1 d (.xd [(f, v)]) → W (.ref C) (some d) σ H2
theorem ps_raiseX {X : Cx} {C : Kd → Addr} {k : Kd} {W : WX} {e : Expr} {te : TE} {p pos pos2 : Pos} (hc : X.calm = true) (D : XDs X.prog X.w X.K X.mg X.base C k) (hr : Room 2 X.A) (tk : Takes X W) (he : PE X e te) (hg : Gl X k.name)
    (hs : starEach (e :: []) X.env = (false, eval e X.env) :: starEach [] X.env := by rfl) (hpl : (backTo pos (starEach [] X.env)).any (·.1) = false := by rfl) (hdb : (k.name == ("__debug__" : Str)) = false := by decide +kernel) :
    PS X (.Raise (some (.Call (.Name k.name p) [e] [] pos)) none pos2) (tRx (C k) k.fld W te) := by
  obtain ⟨B, newId, initId, bmB, fI, fd, D⟩ := D
  refine psI (ps_raise hc tk (pmk_x D.eb D.T D.iC D.tI D.F hr D.hb (fun _ _ _ _ z => z) hg D.mgC (pa_cons (pe_mon he) pa_nil hs) hdb hs hpl)) fun D' σ H q => ?_
  refine mon_of q fun v H1 q1 => ⟨(by show 1 ≤ 1000; decide), fun a ha => ⟨a, C k, v, rfl, upd_same, D.T, D.no, fun dx hd hne => ⟨rfl, dx, [(k.fld, v)], upd_same, ?_, ?_, ?_⟩⟩⟩
  · rw [upd_ne hne, upd_same]
  · rwa [upd_ne hne] at hd
  · rw [upd_ne hne] at hd
    refine q1 dx _ hd ?_
    funext c
    by_cases h1 : c = dx
    · subst h1
      rw [upd_same, upd_same]
    · rw [upd_ne h1, upd_ne h1]
      unfold del
      by_cases h2 : c = a
      · subst h2
        rw [if_pos rfl, ha]
      · rw [if_neg h2, upd_ne h2, upd_ne h1, upd_ne h2]
/-! ### first_fault -/
/-- the first i items are waggons, each another one -/
def GoodTo (xs : List V) (i : Nat) : Prop := ∃ zs : List Int, xs.take i = zs.map V.int ∧ zs.length = i ∧ (∀ z ∈ zs, z ≠ 0 ∧ z.natAbs ≤ xs.length) ∧ (zs.map Int.natAbs).Nodup
theorem sameSeq {K : PySem.W.Frag} {H H' : Hp} {a : Addr} {o : HO} {xs : List V} (e : H a = some o) (e' : H' a = some o) (h : SqL K H a xs) : SqL K H' a xs := by
  rcases h with (h | ⟨o', h⟩) | h
  · exact .inl (.inl (by rw [e', ← e]; exact h))
  · exact .inl (.inr ⟨o', by rw [e', ← e]; exact h⟩)
  · exact .inr h
theorem seqT_same {K : PySem.W.Frag} {H H' : Hp} {a : Addr} {o : HO} {xs : List V} (e' : H' a = some o) (e : H a = some o) (h : SqT K H a xs) : SqT K H' a xs := by
  rcases h with (h | ⟨o', h⟩) | h
  · exact .inl (.inl (by rw [e', ← e]; exact h))
  · exact .inl (.inr ⟨o', by rw [e', ← e]; exact h⟩)
  · exact .inr h
theorem abs_ite (z : Int) : (if z < 0 then -z else z) = (z.natAbs : Int) := by
  split <;> omega
theorem int_map_inj : ∀ {l l' : List Int}, l.map V.int = l'.map V.int → l = l'
  | [], [], _ => rfl
  | [], _ :: _, h => by simp at h
  | _ :: _, [], h => by simp at h
  | a :: l, b :: l', h => by
    simp only [List.map_cons, List.cons.injEq] at h
    obtain ⟨h1, h2⟩ := h
    cases h1
    rw [int_map_inj h2]
theorem good_next {xs : List V} {i : Nat} {y : V} {zs : List Int} (hx : xs[i]? = some y) (ez : xs.take i = zs.map V.int) (el : zs.length = i) (eb : ∀ z ∈ zs, z ≠ 0 ∧ z.natAbs ≤ xs.length) (en : (zs.map Int.natAbs).Nodup) :
    GoodTo xs (i + 1) ↔ ∃ z, y = .int z ∧ z ≠ 0 ∧ z.natAbs ≤ xs.length ∧ z.natAbs ∉ zs.map Int.natAbs := by
  have e1 : xs.take (i + 1) = zs.map V.int ++ [y] := by
    rw [List.take_succ, hx, ez]
    rfl
  constructor
  · rintro ⟨zs', e', l', b', n'⟩
    rw [e1] at e'
    have h2 : zs' = zs'.take i ++ zs'.drop i := (List.take_append_drop i zs').symm
    obtain ⟨z, hz⟩ : ∃ z, zs'.drop i = [z] := by
      have : (zs'.drop i).length = 1 := by rw [List.length_drop]; omega
      exact List.length_eq_one_iff.mp this
    rw [hz] at h2
    rw [h2, List.map_append] at e'
    obtain ⟨h3, h4⟩ := List.append_inj e' (by simp; omega)
    have h5 := int_map_inj h3
    rw [← h5] at h2
    rw [h2] at b' n'
    rw [List.map_append, List.nodup_append] at n'
    refine ⟨z, by simpa using h4, (b' z (by simp)).1, (b' z (by simp)).2, fun hm => n'.2.2 _ hm _ (by simp) rfl⟩
  · rintro ⟨z, rfl, h1, h2, h3⟩
    refine ⟨zs ++ [z], by rw [e1, List.map_append]; rfl, by simp [el], fun y hy => ?_, ?_⟩
    · rcases List.mem_append.mp hy with hy | hy
      · exact eb y hy
      · rw [List.mem_singleton.mp hy]
        exact ⟨h1, h2⟩
    · rw [List.map_append, List.nodup_append]
      refine ⟨en, by simp, fun a ha b hb => ?_⟩
      rw [List.mem_singleton.mp hb]
      exact fun e => h3 (e ▸ ha)
section
variable {P : Program} {w : World} {K : PySem.W.Frag} {mg : Str → Option Value} {base : Heap}
def spFault (K : PySem.W.Frag) : Sp := fun vs H Q _ => ∃ (a : Addr) (o : HO) (xs : List V), vs = [.ref a] ∧ H a = some o ∧ sq o = some xs ∧ xs.length ≤ 100 ∧ (∀ H', Same H H' → ∀ x ∈ xs, Asked K H' x) ∧
  (∀ H', Same H H' → GoodTo xs xs.length → Q .non H') ∧ ∀ (k : Nat) H', Same H H' → k < xs.length → GoodTo xs k → ¬ GoodTo xs (k + 1) → Q (.int k) H'
theorem scFault : FnScope ["waggons", "many", "numbers", "place", "waggon"] ["waggons"] (defScope sFault) := ⟨rfl, rfl, rfl, by decide +kernel, rfl, by decide +kernel, by decide +kernel⟩
theorem ok_fault {f fW : Addr} {fd fdW : FuncData} (F : Fun K "first_fault" "first_fault" sFault f fd) (B : Blt mg) (cWhole : Dn P w K mg base 1 "is_whole" fW fdW ["value", "least", "most"] (spWhole K)) : FnOk P w K mg base CX0 2 f fd ["waggons"] (spFault K) := by
  refine F.ok scFault (fun vs H Q E h => ?_) (fun cdv A outer s H vs Q E hr h => ?_)
  · obtain ⟨a, o, xs, rfl, _⟩ := h
    rfl
  · obtain ⟨a, o, xs, rfl, ha, ho, hz, hA, k1, k2⟩ := h
    refine ⟨_, (pss_cons (ps_set (i := 1) scFault.nd rfl (by first | exact Or.inl rfl | exact Or.inr rfl) (pe_callB lenF (by rfl) B.len (by decide +kernel) (pa_cons (pv 0) pa_nil)))
      (pss_cons (ps_set (i := 2) scFault.nd rfl (by first | exact Or.inl rfl | exact Or.inr rfl) (pe_callTy0 cr_set0 (by rfl) B.set (by decide +kernel)))
      (pss_cons (ps_for PassesOwn.never rfl (pi_enumA (by rfl) B.enumerate (pa_cons (pv 0) pa_nil)) (pg_tup (by rfl) (pgs_cons (pg_name (i := 3) scFault.nd rfl (by first | exact Or.inl rfl | exact Or.inr rfl)) (pgs_cons (pg_name (i := 4) scFault.nd rfl (by first | exact Or.inl rfl | exact Or.inr rfl)) pgs_nil))) (pss_cons (ps_if (PW.pt (pw_or (pt_not (pt_val (pe_call cWhole.ok (hr.mono (by decide)) rfl cWhole.mgf cWhole.kp cWhole.bi .nil pass0 (pa_cons (pv 4) (pa_cons (pe_un un_neg (pv 1)) (pa_cons (pv 1) pa_nil)))))) (pw_or (pt_cmpR op_eq (pv 4) pe_int (nomark _)) (pw_or1 (pt_cmpR or_sin (pe_callB call_abs (by rfl) B.abs (by decide +kernel) (pa_cons (pv 4) pa_nil)) (pv 2) (by rfl)))))) (pss_one (ps_ret (pv 3))) pss_nil)
      (pss_one (ps_expr (pe_sadd (pv 2) (pa_cons (pe_callB call_abs (by rfl) B.abs (by decide +kernel) (pa_cons (pv 4) pa_nil)) pa_nil))))))
      (pss_one (ps_ret pe_non))))), ?_⟩
    refine ⟨_, rfl, a, rfl, o, ha, xs, ho, rfl, fun p hp => ?_⟩
    have v0 := (VW.start (H := H)).push (o := SetO w p (fun _ => false) 0) hp
    refine ⟨_, rfl, a, xs, rfl, ?_⟩
    obtain ⟨Pv, ePv⟩ : ∃ Pv : Nat → L2.St → Hp → Prop, Pv = fun i σ H' => ∃ (zs : List Int) (u3 u4 : Option V) (S : Int → Bool) (c : Nat), σ = [some (.ref a), some (.int (xs.length : Nat)), some (.ref p), u3, u4] ∧ xs.take i = zs.map V.int ∧ zs.length = i ∧ (∀ z ∈ zs, z ≠ 0 ∧ z.natAbs ≤ xs.length) ∧ (zs.map Int.natAbs).Nodup ∧
      (∀ j, S j = true ↔ ∃ z ∈ zs, j = (z.natAbs : Int)) ∧ c ≤ i ∧ VW H H' [(p, SetO w p S c)] [] := ⟨_, rfl⟩
    have h0 : Pv 0 [some (.ref a), some (.int (xs.length : Nat)), some (.ref p), none, none] (upd H p (SetO w p (fun _ => false) 0)) := by
      rw [ePv]
      exact ⟨[], none, none, _, 0, rfl, rfl, rfl, by simp, by simp, by simp, Nat.le_refl _, v0⟩
    have sm : ∀ i σ H', Pv i σ H' → H' a = some o := fun i σ H' h => by
      rw [ePv] at h
      obtain ⟨zs, u3, u4, S, c, _, _, _, _, _, _, _, v⟩ := h
      exact v.fr _ _ ha
    refine Or.elim (sq_or (K := K) ha ho) (fun hS => .inl ⟨Same.seq (fun b o e => v0.fr b o e) hS, for_it (walk_enum (K := K) (a := a) (xs := xs)) Pv h0 (fun i σ H' _ h => sameSeq ha (sm i σ H' h) hS) ?_ ?_⟩)
      (fun hS => .inr ⟨seqT_same (v0.fr _ _ ha) ha hS, for_it (walk_enumT (K := K) (a := a) (xs := xs)) Pv h0 (fun i σ H' _ h => seqT_same (sm i σ H' h) ha hS) ?_ ?_⟩)
    all_goals first
      | (rintro σ H' hP
         rw [ePv] at hP
         obtain ⟨zs, u3, u4, S, c, rfl, ez, el, eb, en, eS, ec, v⟩ := hP
         exact k1 H' v.fr ⟨zs, ez, el, eb, en⟩)
      | skip
    all_goals
      rintro i x σ H' H2 hi hP ⟨T, y1, y2, rfl, hT, rfl, e1, e2⟩
      rw [ePv] at hP
      obtain ⟨zs, u3, u4, S, c, rfl, ez, el, eb, en, eS, ec, v⟩ := hP
      cases e1
      have v2 := v.push (o := .tup [.int (i : Nat), y2]) hT
      refine ⟨T, _, rfl, SqT.of v2.facts.1, rfl, _, _, rfl, _, _, rfl, rfl, ?_⟩
      walk_at "s"
      have hx : xs[i]? = some y2 := e2
      have gn := good_next hx ez el eb en
      have same : Same H (upd H' T (.tup [.int (i : Nat), y2])) := v2.fr
      have bad : ¬ GoodTo xs (i + 1) → Q (.int (i : Nat)) (upd H' T (.tup [.int (i : Nat), y2])) := fun h => k2 i _ same hi ⟨zs, ez, el, eb, en⟩ h
      refine ⟨y2, _, _, rfl, hA _ same y2 (List.mem_of_getElem? hx), ?_⟩
      by_cases hw : wholeV y2 (-(xs.length : Int)) (xs.length : Int) = true
      · obtain ⟨z, rfl⟩ : ∃ z, y2 = .int z := by
          cases y2 with
          | int z => exact ⟨z, rfl⟩
          | _ => cases hw
        simp only [wholeV, Bool.and_eq_true, decide_eq_true_eq] at hw
        refine .inr ⟨by simp [wholeV, hw.1, hw.2], rfl, ?_⟩
        split
        · rename_i h0
          cases h0
          exact bad fun h => by
            obtain ⟨z, e, h1, _⟩ := gn.mp h
            cases e
            exact h1 rfl
        · rename_i h0
          have z0 : z ≠ 0 := fun e => h0 (by rw [e])
          refine ⟨z, rfl, S, ⟨c, v2.facts.2.1⟩, ?_⟩
          rw [abs_ite]
          split
          · rename_i hs
            obtain ⟨z', hz', e'⟩ := (eS _).mp hs
            exact bad fun h => by
              obtain ⟨z2, e, _, _, h3⟩ := gn.mp h
              cases e
              refine h3 (List.mem_map.mpr ⟨z', hz', by omega⟩)
          · rename_i hs
            refine ⟨⟨S, c, v2.facts.2.1⟩, z, rfl, S, c, v2.facts.2.1, by unfold scanBound; omega, ?_⟩
            rw [abs_ite, if_neg hs, ePv]
            have nm : z.natAbs ∉ zs.map Int.natAbs := fun hm => by
              obtain ⟨z', hz', e'⟩ := List.mem_map.mp hm
              exact hs ((eS _).mpr ⟨z', hz', by rw [e']⟩)
            have v3 := v2.put (o := SetO w p (fun j => S j || decide (j = (z.natAbs : Int))) (c + 1)) 1 rfl rfl
            refine ⟨zs ++ [z], _, _, _, c + 1, rfl, ?_, by simp [el], ?_, ?_, fun j => ?_, by omega, v3.drop (List.sublist_cons_self ..) (fun _ h => h)⟩
            · rw [List.take_succ, hx, ez, List.map_append]
              rfl
            · intro y hy
              rcases List.mem_append.mp hy with hy | hy
              · exact eb y hy
              · rw [List.mem_singleton.mp hy]
                exact ⟨z0, by omega⟩
            · rw [List.map_append, List.nodup_append]
              refine ⟨en, by simp, fun a ha b hb => ?_⟩
              rw [List.mem_singleton.mp hb]
              exact fun e => nm (e ▸ ha)
            · simp only [Bool.or_eq_true, decide_eq_true_eq, List.mem_append, List.mem_singleton]
              rw [eS]
              constructor
              · rintro (⟨y, hy, e⟩ | e)
                · exact ⟨y, .inl hy, e⟩
                · exact ⟨z, .inr rfl, e⟩
              · rintro ⟨y, hy | rfl, e⟩
                · exact .inl ⟨y, hy, e⟩
                · exact .inr e
      · refine .inl ⟨by simpa using hw, bad fun h => ?_⟩
        obtain ⟨z, rfl, h1, h2, _⟩ := gn.mp h
        refine hw ?_
        simp only [wholeV, Bool.and_eq_true, decide_eq_true_eq]
        omega
end
/-! ### Row -/
structure RowC (K : PySem.W.Frag) (mg : Str → Option Value) (CR : Addr) : Prop where
  cl : Cls K CR
  nW : NoAttr K CR "waggons"
  mgR : mg "Row" = some (.ref CR)
  most : ∃ t, mg "MOST_WAGGONS" = some (.int 24 t)
  hc : PySem.W.findIn K (.ref CR) "__class__" = some (some (.builtin "object.__class__"))
  hn : PySem.W.specialIn K (.builtin "object.__class__") "__get__" = some (some (.builtin "getset_descriptor.__get__"))
  htk : PySem.W.takesIn K (.builtin "object.__class__") = some true
  hm : PySem.W.mroIn K CR (.type "object") = some true
  ks : PySem.W.kitOne K (.ref CR) (.ref CR) = some true
theorem ty_sq {K : PySem.W.Frag} {H : Hp} {a : Addr} {o : HO} {xs : List V} (ha : H a = some o) (ho : sq o = some xs) : ∃ t, TyX K H (.ref a) t ∧ PySem.W.kitAny K t [.type "list", .type "tuple"] = some true := by
  have l : PySem.W.kitAny K (.type "list") [.type "list", .type "tuple"] = some true := kitAny_cons (b := true) (kit_ty (by decide +kernel)) (fun z => nomatch z) (fun _ => rfl)
  have t : PySem.W.kitAny K (.type "tuple") [.type "list", .type "tuple"] = some true := kitAny_cons (b := false) (kit_ty (by decide +kernel)) (fun _ => kitAny_cons (b := true) (kit_ty (by decide +kernel)) (fun z => nomatch z) (fun _ => rfl)) (fun z => nomatch z)
  cases o with
  | lst ys => exact ⟨_, .base (.lst ha), l⟩
  | tup ys => exact ⟨_, .base (.tup ha), t⟩
  | frz ob u =>
    cases u with
    | lst ys => exact ⟨_, .base (.frz ha), l⟩
    | _ => cases ho
  | _ => cases ho
local macro_rules | `(tactic| walk_at "s") => `(tactic| simp [tSeq, tAsg, tOp, tUn, tVar, tC, gName, tCons, tNil, tCB, tCall, rI, rI0, rU, tRet, tDrop, tIfS, tNext, tIf, tTest, tNot, tOr, tAnd, tB, L2.start, CMul, CDiv, rIxF, rLenF, rIntF, sq_lst, sq_tup, tLstF, tTupF, gSub, rCatF, rInF, rNe, rEq, tAndV, tOrV, tNotV, tChain, rSIn, tSAdd, rSAdd, rTupF, sFldF, tRx])
section
variable {P : Program} {w : World} {K : PySem.W.Frag} {mg : Str → Option Value} {base : Heap}
def spRI (K : PySem.W.Frag) (C : Kd → Addr) (CR : Addr) : Sp := fun vs H Q E => ∃ (p dx : Addr) (x : V), vs = [.ref p, x] ∧ H p = some (.ins CR dx []) ∧
  ((∃ (a : Addr) (o : HO) (xs : List V), x = .ref a ∧ H a = some o ∧ sq o = some xs ∧ a ≠ p ∧ xs.length ≤ 100 ∧ (∀ H', Same H H' → ∀ y ∈ xs, Asked K H' y) ∧
    (xs.length ≤ 24 → GoodTo xs xs.length → ∀ tp H', (∀ b u, H b = some u → b ≠ p → H' b = some u) → H' p = some (.ins CR dx [("waggons", .ref tp)]) → H' tp = some (.tup xs) → Q .non H') ∧
    (24 < xs.length → ∀ d H', Same H H' → H' d = some (.xd [("most", .int 24)]) → E (.ref (C .great)) (some d) H') ∧
    (xs.length ≤ 24 → ∀ k d H', Same H H' → k < xs.length → GoodTo xs k → ¬ GoodTo xs (k + 1) → H' d = some (.xd [("place", .int (k : Nat))]) → E (.ref (C .row)) (some d) H')) ∨
   ((∀ H', Same H H' → ∃ t, TyX K H' x t ∧ PySem.W.kitAny K t [.type "list", .type "tuple"] = some false) ∧ ∀ d H', Same H H' → H' d = some (.xd [("place", .non)]) → E (.ref (C .row)) (some d) H'))
theorem scRI : FnScope ["self", "waggons", "fault"] ["self", "waggons"] (defScope sRI) := ⟨rfl, rfl, rfl, by decide +kernel, rfl, by decide +kernel, by decide +kernel⟩
theorem ok_ri {f fF CR : Addr} {fd fdF : FuncData} {C : Kd → Addr} (F : Fun K "__init__" "Row.__init__" sRI f fd) (B : Blt mg) (R : RowC K mg CR) (XB : ∀ k, hasK k = true → XDs P w K mg base C k) (cFault : Dn P w K mg base 2 "first_fault" fF fdF ["waggons"] (spFault K)) :
    FnOk P w K mg base (L2.CX P w) 3 f fd ["self", "waggons"] (spRI K C CR) := by
  obtain ⟨tM, hMost⟩ := R.most
  refine F.okX scRI (fun vs H Q E h => ?_) (fun cdv A outer s H vs Q E hr h => ⟨_, (pss_cons (ps_if (pt_not (pt_val (pe_callB call_isiT (by rfl) B.isinstance (by decide +kernel) (pa_cons (pv 1) (pa_cons (pe_tupF (pa_cons (pe_bltn (v := .ty "list") (by rfl) B.list (by decide +kernel) rfl) (pa_cons (pe_bltn (v := .ty "tuple") (by rfl) B.tuple (by decide +kernel) rfl) pa_nil))) pa_nil))))) (pss_one (ps_raiseX (k := .row) rfl (XB .row (by decide)) hr (takes_of rfl rfl rfl rfl) pe_non (by rfl))) pss_nil)
      (pss_cons (ps_if (pt_cmpR op_gt (pe_callB lenF (by rfl) B.len (by decide +kernel) (pa_cons (pv 1) pa_nil)) (pe_glob (v := .int 24) (by rfl) hMost ⟨_, rfl⟩) (nomark _)) (pss_one (ps_raiseX (k := .great) rfl (XB .great (by decide)) hr (takes_of rfl rfl rfl rfl) (pe_glob (v := .int 24) (by rfl) hMost ⟨_, rfl⟩) (by rfl))) pss_nil)
      (pss_cons (ps_set (i := 2) scRI.nd rfl (by first | exact Or.inl rfl | exact Or.inr rfl) (pe_call cFault.ok (hr.mono (by decide)) rfl cFault.mgf cFault.kp cFault.bi .nil pass0 (pa_cons (pv 1) pa_nil)))
      (pss_cons (ps_if (pt_cmpR op_notN (pv 2) pe_non (nomark _)) (pss_one (ps_raiseX (k := .row) rfl (XB .row (by decide)) hr (takes_of rfl rfl rfl rfl) (pv 2) (by rfl))) pss_nil)
      (pss_one (ps_fldF (pv 0) (pe_callTy tupF (by rfl) B.tuple (by decide +kernel) (pa_cons (pv 1) pa_nil)))))))), ?_⟩)
  · obtain ⟨p, dx, x, rfl, _⟩ := h
    rfl
  · obtain ⟨p, dx, x, rfl, hp, h⟩ := h
    walk_at "s"
    refine ⟨sz_le (by decide), view_tup VW.start fun tp0 H1 v1 => ?_⟩
    have hT := v1.tu _ List.mem_cons_self
    have pc : Paired ClsV [.ty "list", .ty "tuple"] [.type "list", .type "tuple"] := .cons (.ty _) (.cons (.ty _) .nil)
    have up : ∀ {H2 : Hp} (s2 : Same H1 H2) {d : Addr} {u : HO}, H2 d = none → Same H (upd H2 d u) := by
      intro H2 s2 d u hd b z hb
      have h2 := s2 _ _ (v1.fr b z hb)
      rw [upd_ne (ne_of_none h2 hd)]
      exact h2
    have id1 : Same H1 H1 := fun _ _ h => h
    rcases h with ⟨a, o, xs, rfl, ha, ho, hap, hz, hA, kg, kb, kr⟩ | ⟨hT2, ke⟩
    · obtain ⟨t, ty, ka⟩ := ty_sq (K := K) (v1.fr _ _ ha) ho
      refine ⟨_, tp0, _, t, _, true, rfl, hT, pc, ty, ka, .inr ⟨rfl, a, rfl, o, v1.fr _ _ ha, xs, ho, ?_⟩⟩
      split
      · rename_i hl
        exact fun d hd => kb (by omega) d _ (up id1 hd) upd_same
      · rename_i hl
        refine ⟨a, o, xs, rfl, v1.fr _ _ ha, ho, hz, fun H' s2 => hA H' (fun b u hb => s2 _ _ (v1.fr b u hb)), fun H2 s2 g => .inl ⟨rfl, a, rfl, o, s2 _ _ (v1.fr _ _ ha), xs, ho, ?_⟩,
          fun k H2 s2 hk g ng => .inr ⟨by simp, fun d hd => kr (by omega) k d _ (up s2 hd) hk g ng upd_same⟩⟩
        refine view_tup (VW.start (H := H2)) fun l H3 v3 => ?_
        have p3 := v3.fr _ _ (s2 _ _ (v1.fr _ _ hp))
        have l3 := v3.tu _ List.mem_cons_self
        have lp : l ≠ p := fun z => by
          rw [z, p3] at l3
          cases l3
        refine ⟨CR, dx, [], p3, R.cl, R.nW, by decide, kg (by omega) g l _ (fun b u hb hne => ?_) upd_same ?_⟩
        · rw [upd_ne hne]
          exact v3.fr _ _ (s2 _ _ (v1.fr _ _ hb))
        · rw [upd_ne lp]
          exact l3
    · obtain ⟨t, ty, ka⟩ := hT2 H1 v1.fr
      exact ⟨_, tp0, _, t, _, false, rfl, hT, pc, ty, ka, .inl ⟨rfl, fun d hd => ke d _ (up id1 hd) upd_same⟩⟩
end
theorem shaped_tupI (ns : List Int) : SeqAt.shaped (.tuple (ns.map PyData.int)) = true := by
  have := shaped_ints ns
  first
    | exact this
    | simpa [SeqAt.shaped] using this
/-- a row object -/
def RowAt (CR : Addr) (H : Hp) (p : Addr) (xs : List V) : Prop := ∃ dx tp, H p = some (.ins CR dx [("waggons", .ref tp)]) ∧ H tp = some (.tup xs)
theorem RowAt.same {CR : Addr} {H H' : Hp} {p : Addr} {xs : List V} (h : RowAt CR H p xs) (s : Same H H') : RowAt CR H' p xs := by
  obtain ⟨dx, tp, h1, h2⟩ := h
  exact ⟨dx, tp, s _ _ h1, s _ _ h2⟩
local macro_rules | `(tactic| walk_at "s") => `(tactic| simp [tSeq, tAsg, tOp, tUn, tVar, tC, gName, tCons, tNil, tCB, tCall, rI, rI0, rU, tRet, tDrop, tIfS, tNext, tIf, tTest, tNot, tOr, tAnd, tB, L2.start, rLenF, sq_tup, tAndV, tFldF])
section
variable {P : Program} {w : World} {K : PySem.W.Frag} {mg : Str → Option Value} {base : Heap}
def spRLen (CR : Addr) : Sp := fun vs H Q _ => ∃ p xs, vs = [.ref p] ∧ RowAt CR H p xs ∧ Q (.int (xs.length : Nat)) H
theorem scRLen : FnScope ["self"] ["self"] (defScope sRLen) := ⟨rfl, rfl, rfl, by decide +kernel, rfl, by decide +kernel, by decide +kernel⟩
theorem ok_rlen {f CR : Addr} {fd : FuncData} (F : Fun K "__len__" "Row.__len__" sRLen f fd) (B : Blt mg) (R : RowC K mg CR) : FnOk P w K mg base CX0 1 f fd ["self"] (spRLen CR) := by
  refine F.ok scRLen (fun vs H Q E h => ?_) (fun cdv A outer s H vs Q E hr h => ?_)
  · obtain ⟨p, xs, rfl, _⟩ := h
    rfl
  · obtain ⟨p, xs, rfl, ⟨dx, tp, h1, h2⟩, k⟩ := h
    refine ⟨_, (pss_one (ps_ret (pe_callB lenF (by rfl) B.len (by decide +kernel) (pa_cons (pe_fldF (pv 0)) pa_nil)))), ?_⟩
    walk_at "s"
    exact ⟨CR, ⟨dx, _, h1, R.cl, R.nW, _, rfl, tp, rfl, _, h2, _, rfl, k⟩⟩
def spREq (CR : Addr) : Sp := fun vs H Q _ => ∃ (p q : Addr) (xs ys : List Int), vs = [.ref p, .ref q] ∧ RowAt CR H p (xs.map V.int) ∧ RowAt CR H q (ys.map V.int) ∧ Q (.bl (PyData.eqv (.tuple (xs.map PyData.int)) (.tuple (ys.map PyData.int)))) H
theorem scREq : FnScope ["self", "other"] ["self", "other"] (defScope sREq) := ⟨rfl, rfl, rfl, by decide +kernel, rfl, by decide +kernel, by decide +kernel⟩
theorem ok_req {f CR : Addr} {fd : FuncData} (F : Fun K "__eq__" "Row.__eq__" sREq f fd) (B : Blt mg) (R : RowC K mg CR) : FnOk P w K mg base CX0 1 f fd ["self", "other"] (spREq CR) := by
  refine F.ok scREq (fun vs H Q E h => ?_) (fun cdv A outer s H vs Q E hr h => ?_)
  · obtain ⟨p, q, xs, ys, rfl, _⟩ := h
    rfl
  · obtain ⟨p, q, xs, ys, rfl, ⟨dx, tp, h1, h2⟩, ⟨dy, tq, h3, h4⟩, k⟩ := h
    refine ⟨_, (pss_one (ps_ret (pe_and (pe_callB call_isi (by rfl) B.isinstance (by decide +kernel) (pa_cons (pv 1) (pa_cons (pe_cl (by rfl) R.mgR) pa_nil))) (pe_one (pe_cmpR (op_eqD hr.units) (pe_fldF (pv 0)) (pe_fldF (pv 1)) (nomark _)))))), ?_⟩
    walk_at "s"
    refine ⟨.ref q, .ref CR, .ref CR, .ref CR, true, rfl, .own _, .base (.ins h3 R.cl R.hc R.hn R.htk R.hm), R.ks, .inr ⟨rfl, CR, dx, _, h1, R.cl, R.nW, _, rfl, CR, dy, _, h3, R.cl, R.nW, _, rfl, ?_⟩⟩
    exact ⟨.tuple (xs.map PyData.int), .tuple (ys.map PyData.int), .tup (SqT.of h2) (dp_ints xs), .tup (SqT.of h4) (dp_ints ys), shaped_tupI xs, shaped_tupI ys, k⟩
end

end Fab
set_option maxHeartbeats 2000000
namespace Fab
open PySem L2 PySem.FabX
/-- a def as it stands in the text, its code object told -/
structure DL (K : PySem.W.Frag) (mg : Str → Option Value) (x : Str) (st : Stmt) (g : Addr) (cdv : Value) (ps : List Str) (oc kV doc pm ct : Value) (an od : Option Addr) (osl : Array (Option Value)) : Prop where
  mgf : mg x = some (.ref g)
  kp : PySem.W.keepIn K (.ref g) = true
  lk : K.lookup g = some ⟨oc, od, .func (PySem.W.fnOf x x (defArgs st) (defBody st) (defScope st) .none kV doc pm an cdv ct), osl⟩
  cd : PySem.W.codeIn K cdv x = true
  bi : Binds K (PySem.W.fnOf x x (defArgs st) (defBody st) (defScope st) .none kV doc pm an cdv ct) ps []
open PyProof.Rows (envOfC)
theorem fnL {P : Program} {w : World} {K : PySem.W.Frag} {mg : Str → Option Value} {base : Heap} {CX : CXT} {k : Nat} {f : Addr} {ps : List Str} {sp : Sp} {x qual : Str} {st : Stmt} {N : List Str} {oc kV doc pm cdv ct : Value} {an od : Option Addr} {osl : Array (Option Value)}
    (lk : K.lookup f = some ⟨oc, od, .func (PySem.W.fnOf x qual (defArgs st) (defBody st) (defScope st) .none kV doc pm an cdv ct), osl⟩) (hcd : PySem.W.codeIn K cdv qual = true) (S : FnScope N ps (defScope st)) (len : ∀ vs H Q E, sp vs H Q E → vs.length = ps.length)
    (hbody : ∀ (A : Around) (outer : List Env) (s : Shared) (H : Hp) (vs : List V) (Q : VK) (E : XK), A.guards = some [] → Room k (A.deeper (envOfC qual (defScope st) s.heap.objs.size f cdv)) → sp vs H Q E →
      ∃ t, PSs (cxOf CX P w K mg base N qual (defScope st) f cdv A outer s H E) (defBody st) t ∧ t { nx := fun _ H' => Q .non H', rt := Q } (L2.start N vs) H) : FnG P w K mg base CX (k + 1) f (PySem.W.fnOf x qual (defArgs st) (defBody st) (defScope st) .none kV doc pm an cdv ct) ps sp :=
  ⟨len, fun A outer s H args us vs Q E hg hr e0 hb hv h => LamX.run_ofS lk hcd S hr e0 hb hv (len _ _ _ _ h) fun hr' => hbody A outer s H vs Q E hg hr' h⟩
abbrev tabRR (P : Addr) : List (Addr × Str) := [(P, (("_law_refused_right" : Str) ++ ".<locals>.") ++ "<lambda>")]
theorem mem_tab {q q' : Str} {P : Addr} (h : q = q') : (P, q ++ ("<lambda>" : Str)) ∈ [(P, q' ++ ("<lambda>" : Str))] := by
  subst h
  exact List.mem_singleton.mpr rfl
theorem snd_tab {q q' : Str} {P : Addr} (h : q = q') {p : Addr × Str} (hp : p ∈ [(P, q' ++ ("<lambda>" : Str))]) : p.2 = q ++ ("<lambda>" : Str) := by
  subst h
  rw [List.mem_singleton.mp hp]
local macro_rules | `(tactic| walk_at "s") => `(tactic| simp [tSeq, tAsg, tOp, tUn, tVar, tC, gName, tCons, tNil, tCB, tCall, rI, rI0, rU, tRet, tDrop, tIfS, tNext, tIf, tTest, tNot, tOr, tAnd, tB, L2.start, CMul, rIxF, rLenF, rIntF, sq_lst, sq_tup, tLstF, tTupF, gSub, rCatF, rNe, rEq, tAndV, tOrV, tNotV, tSl, rSlF])
def noTbl : HO → Bool
  | .tbl _ => false
  | _ => true
theorem noTbl_ne {o : HO} (h : noTbl o = true) (ps : Array Value) : o ≠ .tbl ps := fun z => by
  subst z
  cases h
section
variable {H0 H H1 : Hp} {L : List (Addr × HO)} {T : List (Addr × List V)}
theorem VW.extN (v : VW H0 H L T) (h0 : ∀ b o, H0 b = some o → noTbl o = true) (hL : ∀ p ∈ L, noTbl p.2 = true) (e : LamX.ExtN H H1) : VW H0 H1 L T :=
  ⟨fun p hp => e _ _ (v.at_ p hp) (noTbl_ne (hL p hp)), v.nd, v.own, fun a o h => e _ _ (v.fr a o h) (noTbl_ne (h0 a o h)), fun p hp => e _ _ (v.tu p hp) (fun _ z => by cases z)⟩
theorem VW.ext (v : VW H0 H L T) (e : Same H H1) : VW H0 H1 L T := ⟨fun p hp => e _ _ (v.at_ p hp), v.nd, v.own, fun a o h => e _ _ (v.fr a o h), fun p hp => e _ _ (v.tu p hp)⟩
theorem VW.tupAdd (v : VW H0 H L T) {p : Addr} {xs : List V} (h : H p = some (.tup xs)) : VW H0 H L ((p, xs) :: T) := ⟨v.at_, v.nd, v.own, v.fr, fun q hq => by
  rcases List.mem_cons.mp hq with rfl | hq
  · exact h
  · exact v.tu q hq⟩
end
theorem GoodTo.le {xs : List V} {i j : Nat} (h : GoodTo xs j) (hij : i ≤ j) : GoodTo xs i := by
  obtain ⟨zs, e, l, b, n⟩ := h
  refine ⟨zs.take i, ?_, by rw [List.length_take]; omega, fun z hz => b z (List.mem_of_mem_take hz), ?_⟩
  · have := congrArg (List.take i) e
    rw [List.take_take, Nat.min_eq_left hij] at this
    rw [this, List.map_take]
  · rw [List.map_take]
    exact n.sublist (List.take_sublist _ _)
/-! ### what is no row -/
theorem row_mem {ws : List Int} {many : Nat} (h : IsRow ws many) : ∀ z ∈ ws, z ≠ 0 ∧ z.natAbs ≤ many := fun z hz => by
  have := (h.mem_iff (a := z.natAbs)).mp (List.mem_map_of_mem hz)
  rw [List.mem_range'] at this
  obtain ⟨i, hi, e⟩ := this
  omega
theorem row_nodup {ws : List Int} {many : Nat} (h : IsRow ws many) : (ws.map Int.natAbs).Nodup := h.nodup_iff.mpr List.nodup_range'
theorem good_take {ws : List Int} {many k : Nat} {xs : List V} (h : IsRow ws many) (hx : xs.take k = (ws.take k).map V.int) (hk : k ≤ many) (hl : xs.length = many) : GoodTo xs k := by
  refine ⟨ws.take k, hx, by rw [List.length_take, h.len]; omega, fun z hz => ?_, ?_⟩
  · have := row_mem h z (List.mem_of_mem_take hz)
    omega
  · rw [List.map_take]
    exact (row_nodup h).sublist (List.take_sublist _ _)
theorem bad_at {ws : List Int} {many k : Nat} {xs : List V} {y : V} (h : IsRow ws many) (hx : xs.take k = (ws.take k).map V.int) (hk : k < many) (hl : xs.length = many) (hy : xs[k]? = some y) (hb : ∀ z, y = .int z → z = 0 ∨ many < z.natAbs ∨ z.natAbs ∈ (ws.take k).map Int.natAbs) : ¬ GoodTo xs (k + 1) := fun hg => by
  have g0 : (ws.take k).length = k := by rw [List.length_take, h.len]; omega
  obtain ⟨z, e, h1, h2, h3⟩ := (good_next hy hx g0 (fun z hz => by
    have := row_mem h z (List.mem_of_mem_take hz)
    omega) (by
    rw [List.map_take]
    exact (row_nodup h).sublist (List.take_sublist _ _))).mp hg
  rcases hb z e with h | h | h
  · exact h1 h
  · omega
  · exact h3 h
/-- waggons[:k] + [y] + waggons[k + 1:] -/
def putV (ws : List Int) (k : Nat) (y : V) : List V := (ws.map V.int).take k ++ [y] ++ (ws.map V.int).drop (k + 1)
theorem putV_len {ws : List Int} {k : Nat} {y : V} (h : k < ws.length) : (putV ws k y).length = ws.length := by
  unfold putV
  simp
  omega
theorem putV_take {ws : List Int} {k : Nat} {y : V} (h : k < ws.length) : (putV ws k y).take k = (ws.take k).map V.int := by
  unfold putV
  rw [List.append_assoc, List.take_append_of_le_length (by simp; omega), List.take_take, Nat.min_self, List.map_take]
theorem putV_at {ws : List Int} {k : Nat} {y : V} (h : k < ws.length) : (putV ws k y)[k]? = some y := by
  unfold putV
  rw [List.append_assoc, List.getElem?_append_right (by simp; omega)]
  simp [List.length_take, Nat.min_eq_left (by omega : k ≤ ws.length)]
theorem putV_eq {ws : List Int} {k : Nat} {y : V} (h : k < ws.length) : putV ws k y = (ws.map V.int).set k y := by
  unfold putV
  rw [List.set_eq_take_append_cons_drop, if_pos (by simpa using h)]
  simp
theorem put_mem {ws : List Int} {k : Nat} {y x : V} (h : x ∈ putV ws k y) : x = y ∨ ∃ z, x = .int z := by
  unfold putV at h
  simp only [List.mem_append, List.mem_singleton] at h
  rcases h with (h | h) | h
  · obtain ⟨z, _, e⟩ := List.mem_map.mp (List.mem_of_mem_take h)
    exact .inr ⟨z, e.symm⟩
  · exact .inl h
  · obtain ⟨z, _, e⟩ := List.mem_map.mp (List.mem_of_mem_drop h)
    exact .inr ⟨z, e.symm⟩
theorem nodup_get {l : List Nat} : l.Nodup ↔ ∀ p q, p < q → q < l.length → l[p]? ≠ l[q]? := by
  unfold List.Nodup
  rw [List.pairwise_iff_getElem]
  constructor
  · intro h p q hpq hq e
    rw [List.getElem?_eq_getElem hq, List.getElem?_eq_getElem (by omega)] at e
    exact h p q (by omega) hq hpq (Option.some.inj e)
  · intro h p q hp hq hpq e
    exact h p q hpq hq (by rw [List.getElem?_eq_getElem hq, List.getElem?_eq_getElem hp, e])
/-- one waggon twice: the fault is at the later place -/
theorem twice_fault {ws : List Int} {many i j : Nat} {z : Int} (h : IsRow ws many) (hi : i < many) (hj : j < many) (hne : i ≠ j) (hz : z.natAbs = (ws[j]?.getD 0).natAbs) : GoodTo (putV ws i (.int z)) (max i j) ∧ ¬ GoodTo (putV ws i (.int z)) (max i j + 1) := by
  have lw := h.len
  have hji : j < ws.length := by omega
  have hii : i < ws.length := by omega
  rw [List.getElem?_eq_getElem hji] at hz
  simp only [Option.getD_some] at hz
  rcases Nat.lt_or_ge j i with hlt | hge
  · rw [Nat.max_eq_left (by omega)]
    refine ⟨good_take h (putV_take hii) (by omega) (by rw [putV_len hii, lw]), bad_at h (putV_take hii) hi (by rw [putV_len hii, lw]) (putV_at hii) fun z' e => ?_⟩
    cases e
    refine .inr (.inr ?_)
    rw [hz]
    exact List.mem_map_of_mem (List.mem_take_iff_getElem.mpr ⟨j, by omega, rfl⟩)
  · have hij : i < j := by omega
    rw [Nat.max_eq_right hge]
    have e1 : putV ws i (.int z) = (ws.set i z).map V.int := by rw [putV_eq hii, List.map_set]
    have l1 : (ws.set i z).length = many := by rw [List.length_set, lw]
    have nd := row_nodup h
    have ap : ∀ p q (hp : p < ws.length) (hq : q < ws.length), p ≠ q → ws[p].natAbs ≠ ws[q].natAbs := fun p q hp hq hpq e => by
      have := nodup_get.mp nd
      rcases Nat.lt_or_gt_of_ne hpq with h | h
      · exact this p q h (by simpa using hq) (by simp [hp, hq, e])
      · exact this q p h (by simpa using hp) (by simp [hp, hq, e])
    have mem : ∀ y ∈ (ws.set i z).take j, y ≠ 0 ∧ y.natAbs ≤ many := fun y hy => by
      rcases List.mem_or_eq_of_mem_set (List.mem_of_mem_take hy) with hm | rfl
      · exact row_mem h y hm
      · have := row_mem h _ (List.getElem_mem hji)
        omega
    have nd2 : (((ws.set i z).take j).map Int.natAbs).Nodup := by
      rw [nodup_get]
      intro p q hpq hq
      simp only [List.length_map, List.length_take, l1] at hq
      have hqj : q < j := by omega
      have hpj : p < j := by omega
      simp only [List.getElem?_map, List.getElem?_take, hqj, hpj, if_true]
      rw [List.getElem?_eq_getElem (by omega : p < (ws.set i z).length), List.getElem?_eq_getElem (by omega : q < (ws.set i z).length)]
      simp only [Option.map_some, ne_eq, Option.some.injEq, List.getElem_set]
      split
      · split
        · omega
        · rw [hz]
          exact ap j q hji (by omega) (by omega)
      · split
        · rw [hz]
          exact ap p j (by omega) hji (by omega)
        · exact ap p q (by omega) (by omega) (by omega)
    have lz : ((ws.set i z).take j).length = j := by rw [List.length_take, l1]; omega
    have ex : (putV ws i (.int z)).take j = ((ws.set i z).take j).map V.int := by rw [e1, List.map_take]
    have lx : (putV ws i (.int z)).length = many := by rw [putV_len hii, lw]
    refine ⟨⟨_, ex, lz, fun y hy => by rw [lx]; exact mem y hy, nd2⟩, fun hg => ?_⟩
    have hy : (putV ws i (.int z))[j]? = some (.int ws[j]) := by
      rw [e1, List.getElem?_map, List.getElem?_set_ne (by omega), List.getElem?_eq_getElem hji]
      rfl
    obtain ⟨z', e, _, _, h3⟩ := (good_next hy ex lz (fun y hy => by rw [lx]; exact mem y hy) nd2).mp hg
    cases e
    refine h3 ?_
    rw [← hz]
    refine List.mem_map_of_mem (List.mem_take_iff_getElem.mpr ⟨i, by omega, ?_⟩)
    rw [List.getElem_set_self]
/-- a row that is refused by its first fault, heard: all but the tables stays -/
theorem heard_row {K : PySem.W.Frag} {C : Kd → Addr} {CR : Addr} {Tb : List (Addr × Str)} {H : Hp} {σ : St} {ta : TA} {xs : List V} {k : Nat} {Q : VK} (hT : LamX.Tabs Tb H)
    (ht : ∀ (H2 : Hp) (Qa : List V → Hp → Prop), LamX.ExtN H H2 → (∀ (b : Addr) (o : HO) (H3 : Hp), Same H2 H3 → H3 b = some o → sq o = some xs → Qa [.ref b] H3) → ta σ H2 Qa)
    (hA : ∀ H', LamX.ExtN H H' → ∀ y ∈ xs, Asked K H' y) (hz : xs.length ≤ 24) (hk : k < xs.length) (g : GoodTo xs k) (ng : ¬ GoodTo xs (k + 1)) (cont : ∀ p H', LamX.ExtN H H' → H' p = some (.tup [.str "row", .int (k : Nat)]) → LamX.Tabs Tb H' → Q (.ref p) H') :
    LamX.tLam Tb (TTh C) (fun E => tMake CR (spRI K C CR) [] E ta) σ H Q := by
  refine ⟨hT, fun H1 eN T1 H2 s2 Qx _ => ?_⟩
  have e2 : LamX.ExtN H H2 := eN.trans (LamX.ExtN.of s2)
  refine ht H2 _ e2 fun b o H3 s3 hb ho => ?_
  intro x dx nx ndx nex
  have e1 : Same H3 (upd (upd H3 dx (.own x)) x (.ins CR dx [])) := fun c u hc => by
    rw [upd_ne (ne_of_none hc nx), upd_ne (ne_of_none hc ndx)]
    exact hc
  have e3 : ∀ {H'}, Same (upd (upd H3 dx (.own x)) x (.ins CR dx [])) H' → LamX.ExtN H H' := fun s' => e2.trans (LamX.ExtN.of fun c u hc => s' _ _ (e1 _ _ (s3 _ _ hc)))
  refine ⟨x, dx, .ref b, rfl, upd_same, .inl ⟨b, o, xs, rfl, e1 _ _ hb, ho, ne_of_none hb nx, by omega, fun H' s' => hA H' (e3 s'), fun _ hg => absurd (hg.le (by omega)) ng, fun h => by omega, fun _ k' d H' s' hk' g' ng' hd => ?_⟩⟩
  have ek : k' = k := by
    rcases Nat.lt_trichotomy k' k with h | h | h
    · exact absurd (g.le (by omega)) ng'
    · exact h
    · exact absurd (g'.le (by omega)) ng
  subst ek
  exact .inl ⟨.row, by decide, rfl, d, _, rfl, hd, fun p H4 s4 hp => cont p H4 ((e3 s').trans (LamX.ExtN.of s4)) hp (T1.ext fun c u hc => s4 _ _ (s' _ _ (e1 _ _ (s3 _ _ (s2 _ _ hc)))))⟩
/-- a row that is of another kind, heard -/
theorem heard_none {K : PySem.W.Frag} {C : Kd → Addr} {CR : Addr} {Tb : List (Addr × Str)} {H : Hp} {σ : St} {ta : TA} {Q : VK} (hT : LamX.Tabs Tb H)
    (ht : ∀ (H2 : Hp) (Qa : List V → Hp → Prop), LamX.ExtN H H2 → (∀ (x : V), (∀ H', LamX.ExtN H H' → ∃ t, TyX K H' x t ∧ PySem.W.kitAny K t [.type "list", .type "tuple"] = some false) → Qa [x] H2) → ta σ H2 Qa)
    (cont : ∀ p H', LamX.ExtN H H' → H' p = some (.tup [.str "row", .non]) → LamX.Tabs Tb H' → Q (.ref p) H') :
    LamX.tLam Tb (TTh C) (fun E => tMake CR (spRI K C CR) [] E ta) σ H Q := by
  refine ⟨hT, fun H1 eN T1 H2 s2 Qx _ => ?_⟩
  have e2 : LamX.ExtN H H2 := eN.trans (LamX.ExtN.of s2)
  refine ht H2 _ e2 fun x hx => ?_
  intro p dx np ndx nex
  have e1 : Same H2 (upd (upd H2 dx (.own p)) p (.ins CR dx [])) := fun c u hc => by
    rw [upd_ne (ne_of_none hc np), upd_ne (ne_of_none hc ndx)]
    exact hc
  refine ⟨p, dx, x, rfl, upd_same, .inr ⟨fun H' s' => hx H' (e2.trans (LamX.ExtN.of fun c u hc => s' _ _ (e1 _ _ hc))), fun d H' s' hd => ?_⟩⟩
  exact .inl ⟨.row, by decide, rfl, d, _, rfl, hd, fun q H4 s4 hq => cont q H4 (e2.trans (LamX.ExtN.of fun c u hc => s4 _ _ (s' _ _ (e1 _ _ hc)))) hq (T1.ext fun c u hc => s4 _ _ (s' _ _ (e1 _ _ (s2 _ _ hc))))⟩
/-- a row that is too long, heard -/
theorem heard_great {K : PySem.W.Frag} {C : Kd → Addr} {CR : Addr} {Tb : List (Addr × Str)} {H : Hp} {σ : St} {ta : TA} {xs : List V} {Q : VK} (hT : LamX.Tabs Tb H)
    (ht : ∀ (H2 : Hp) (Qa : List V → Hp → Prop), LamX.ExtN H H2 → (∀ (b : Addr) (o : HO) (H3 : Hp), Same H2 H3 → H3 b = some o → sq o = some xs → Qa [.ref b] H3) → ta σ H2 Qa)
    (hA : ∀ H', LamX.ExtN H H' → ∀ y ∈ xs, Asked K H' y) (hz : xs.length ≤ 100) (hk : 24 < xs.length) (cont : ∀ p H', LamX.ExtN H H' → H' p = some (.tup [.str "great", .int 24]) → LamX.Tabs Tb H' → Q (.ref p) H') :
    LamX.tLam Tb (TTh C) (fun E => tMake CR (spRI K C CR) [] E ta) σ H Q := by
  refine ⟨hT, fun H1 eN T1 H2 s2 Qx _ => ?_⟩
  have e2 : LamX.ExtN H H2 := eN.trans (LamX.ExtN.of s2)
  refine ht H2 _ e2 fun b o H3 s3 hb ho => ?_
  intro x dx nx ndx nex
  have e1 : Same H3 (upd (upd H3 dx (.own x)) x (.ins CR dx [])) := fun c u hc => by
    rw [upd_ne (ne_of_none hc nx), upd_ne (ne_of_none hc ndx)]
    exact hc
  have e3 : ∀ {H'}, Same (upd (upd H3 dx (.own x)) x (.ins CR dx [])) H' → LamX.ExtN H H' := fun s' => e2.trans (LamX.ExtN.of fun c u hc => s' _ _ (e1 _ _ (s3 _ _ hc)))
  refine ⟨x, dx, .ref b, rfl, upd_same, .inl ⟨b, o, xs, rfl, e1 _ _ hb, ho, ne_of_none hb nx, hz, fun H' s' => hA H' (e3 s'), fun h => by omega, fun _ d H' s' hd => ?_, fun h => by omega⟩⟩
  exact .inl ⟨.great, by decide, rfl, d, _, rfl, hd, fun p H4 s4 hp => cont p H4 ((e3 s').trans (LamX.ExtN.of s4)) hp (T1.ext fun c u hc => s4 _ _ (s' _ _ (e1 _ _ (s3 _ _ (s2 _ _ hc)))))⟩
theorem lay_ri (j : Nat) : (PyData.tuple [.str "row", .int (j : Nat)]).canLay0 = true := by
  first
    | rfl
    | (simp [PyData.canLay0, PyData.canLayAll0]; first | kernel_rfl | decide +kernel)
theorem shaped_ri (j : Nat) : SeqAt.shaped (PyData.tuple [.str "row", .int (j : Nat)]) = true := by
  show (PyData.canLay0 _ && decide (PyData.depth _ ≤ 64)) = true
  rw [lay_ri, Bool.true_and, decide_eq_true_eq]
  simp [PyData.depth, PyData.depthAll]
/-- a segment between two lambdas: all that stands but the state of the draws -/
def bsH (m g : Addr) (H : Hp) : Hp := fun b => if b = m ∨ b = g then none else H b
theorem bsH_at {m g b : Addr} {H : Hp} {o : HO} (h : H b = some o) (n1 : b ≠ m) (n2 : b ≠ g) : bsH m g H b = some o := by
  unfold bsH
  simp [n1, n2, h]
theorem bsH_view {m c g : Addr} {H : Hp} {n : Nat} {gs : List Int} (hm : H m = some (dm c g n)) (hg : H g = some (.lst (gs.map V.int))) : VW (bsH m g H) H [(m, dm c g n), (g, .lst (gs.map V.int))] [] := by
  have mg_ : m ≠ g := ne_of hm hg (by unfold dm; intro z; cases z)
  refine ⟨by simp [hm, hg], by simp [mg_], by simp [bsH], (fun b o h => ?_), (fun _ h => nomatch h)⟩
  unfold bsH at h
  split at h
  · cases h
  · exact h
theorem bsH_tabs {m c g : Addr} {H : Hp} {n : Nat} {gs : List Int} {Tb : List (Addr × Str)} (hm : H m = some (dm c g n)) (hg : H g = some (.lst (gs.map V.int))) (hT : LamX.Tabs Tb H) : LamX.Tabs Tb (bsH m g H) := fun p hp => by
  obtain ⟨ps, h1, h2, h3⟩ := hT p hp
  have ne1 : ∀ {b : Addr} {o : HO}, H b = some o → (∀ kvs, o ≠ .dK kvs) → (∀ l, o ≠ .lst l) → b ≠ m ∧ b ≠ g := fun {b o} e d1 d2 =>
    ⟨fun z => by
      rw [z, hm] at e
      unfold dm at e
      exact d1 _ (Option.some.inj e).symm,
    fun z => by
      rw [z, hg] at e
      exact d2 _ (Option.some.inj e).symm⟩
  refine ⟨ps, ?_, h2, fun pos cv hc => ?_⟩
  · obtain ⟨a, b⟩ := ne1 h1 (fun _ z => by cases z) (fun _ z => by cases z)
    exact bsH_at h1 a b
  · obtain ⟨c', e, hc'⟩ := h3 pos cv hc
    obtain ⟨a, b⟩ := ne1 hc' (fun _ z => by unfold LamX.CodeO at z; cases z) (fun _ z => by unfold LamX.CodeO at z; cases z)
    exact ⟨c', e, bsH_at hc' a b⟩
/-- a def whose promise is told where no repr runs -/
structure DnG (P : Program) (w : World) (K : PySem.W.Frag) (mg : Str → Option Value) (base : Heap) (k : Nat) (x : Str) (f : Addr) (fd : FuncData) (ps : List Str) (sp : Sp) : Prop where
  ok : FnG P w K mg base CX0 k f fd ps sp
  mgf : mg x = some (.ref f)
  kp : PySem.W.keepIn K (.ref f) = true
  bi : Binds K fd ps []
/-- an own method that stands behind an operator -/
structure OpM (K : PySem.W.Frag) (CR : Addr) (x : Str) (f : Addr) (fd : FuncData) (ps : List Str) : Prop where
  at_ : PySem.W.findIn K (.ref CR) x = some (some (.ref f))
  fn : PySem.W.isFn K (.ref f) = true
  bi : Binds K fd ps []
/-! ### a heap without some of its objects -/
def wo (as : List Addr) (H : Hp) : Hp := fun b => if b ∈ as then none else H b
theorem wo_at {as : List Addr} {H : Hp} {b : Addr} {o : HO} (h : H b = some o) (n : b ∉ as) : wo as H b = some o := by
  unfold wo
  rw [if_neg n, h]
theorem wo_view {H : Hp} (L : List (Addr × HO)) (h : ∀ p ∈ L, H p.1 = some p.2) (nd : (L.map (·.1)).Nodup) : VW (wo (L.map (·.1)) H) H L [] := by
  refine ⟨h, nd, fun p hp => ?_, (fun b o h => ?_), (fun _ h => nomatch h)⟩
  · unfold wo
    rw [if_pos (List.mem_map_of_mem hp)]
  · unfold wo at h
    split at h
    · cases h
    · exact h
theorem tabs_of {H H' : Hp} {Tb : List (Addr × Str)} (hT : LamX.Tabs Tb H) (m g : Addr) (hm : ∃ c n, H m = some (dm c g n)) (hg : ∃ gs : List Int, H g = some (.lst (gs.map V.int))) (h : ∀ b o, H b = some o → b ≠ m → b ≠ g → H' b = some o) : LamX.Tabs Tb H' := by
  obtain ⟨c, n, hm⟩ := hm
  obtain ⟨gs, hg⟩ := hg
  refine (bsH_tabs hm hg hT).ext fun b o hb => ?_
  unfold bsH at hb
  split at hb
  · cases hb
  · rename_i hne
    simp only [not_or] at hne
    exact h b o hb hne.1 hne.2
/-! ### what repr shows -/
def Shw (d : PyData) : Prop := d.showable = true ∧ d.hasDict = false ∧ d.depth ≤ 60 ∧ d.shown.length ≤ sizeLine
def SmallI (z : Int) : Prop := z.natAbs ≤ 1000
theorem small_int {z : Int} (h : SmallI z) : (PyData.int z).showable = true ∧ (PyData.int z).intsShort 13 = true ∧ (PyData.int z).weight ≤ 11 := by
  have : z ∈ ((List.range 2001).map fun i : Nat => ((i : Nat) : Int) - 1000) := List.mem_map.mpr ⟨(z + 1000).toNat, List.mem_range.mpr (by unfold SmallI at h; omega), by unfold SmallI at h; omega⟩
  have all : (((List.range 2001).map fun i : Nat => ((i : Nat) : Int) - 1000).all fun z => (PyData.int z).showable && (PyData.int z).intsShort 13 && decide ((PyData.int z).weight ≤ 11)) = true := by decide +kernel
  have := List.all_eq_true.mp all z this
  simp only [Bool.and_eq_true, decide_eq_true_eq] at this
  exact ⟨this.1.1, this.1.2, this.2⟩
theorem shw_of {d : PyData} (h1 : d.showable = true) (h2 : d.canLay0 = true) (h3 : d.depth ≤ 60) (h4 : d.weight ≤ 2 ^ 20) (h5 : d.intsShort 13 = true) : Shw d := by
  refine ⟨h1, PyData.hasDict_of_canLay d h2, h3, ?_⟩
  have := PyProof.Rows.shown_le13 (d := d) (by
    show (PyData.canLay0 d && decide (PyData.depth d ≤ 64) && decide (PyData.weight d ≤ 2 ^ 20)) = true
    rw [h2, Bool.true_and, Bool.and_eq_true, decide_eq_true_eq, decide_eq_true_eq]
    exact ⟨by omega, h4⟩) h5
  exact Nat.le_trans this (by decide)
theorem shw_int {z : Int} (h : SmallI z) : Shw (.int z) := by
  obtain ⟨a, b, c⟩ := small_int h
  refine shw_of a ?_ ?_ (by omega) b
  · simp [PyData.canLay0]
  · simp [PyData.depth]
theorem ints_all : ∀ {zs : List Int}, (∀ z ∈ zs, SmallI z) → PyData.showableAll (zs.map PyData.int) = true ∧ PyData.canLayAll0 (zs.map PyData.int) = true ∧ PyData.depthAll (zs.map PyData.int) = 0 ∧ PyData.weightAll (zs.map PyData.int) ≤ 12 * zs.length ∧ PyData.intsShortAll 13 (zs.map PyData.int) = true
  | [], _ => by simp [PyData.showableAll, PyData.canLayAll0, PyData.depthAll, PyData.weightAll, PyData.intsShortAll]
  | z :: zs, h => by
    obtain ⟨a, b, c⟩ := small_int (h z List.mem_cons_self)
    obtain ⟨h1, h2, h3, h4, h5⟩ := ints_all (zs := zs) fun y hy => h y (List.mem_cons_of_mem _ hy)
    simp only [List.map_cons, PyData.showableAll, PyData.canLayAll0, PyData.depthAll, PyData.weightAll, PyData.intsShortAll, a, b, h1, h2, h3, h5, Bool.and_self, List.length_cons]
    refine ⟨trivial, by simp [PyData.canLay0], by simp [PyData.depth], by omega, trivial⟩
theorem shw_tup {zs : List Int} (h : ∀ z ∈ zs, SmallI z) (hl : zs.length ≤ 1000) : Shw (.tuple (zs.map PyData.int)) := by
  obtain ⟨h1, h2, h3, h4, h5⟩ := ints_all h
  refine shw_of ?_ ?_ ?_ ?_ ?_
  · simpa [PyData.showable] using h1
  · simpa [PyData.canLay0] using h2
  · simp [PyData.depth, h3]
  · simp only [PyData.weight]
    omega
  · simpa [PyData.intsShort] using h5

end Fab
set_option maxHeartbeats 2000000
namespace Fab
open PySem L2 PySem.FabX
abbrev sPair : Stmt := top 3
abbrev sStretch : Stmt := top 4
abbrev sRBack : Stmt := inClass (top 18) 8
abbrev sRAt : Stmt := inClass (top 18) 3
local macro_rules | `(tactic| walk_at "s") => `(tactic| simp [tSeq, tAsg, tOp, tUn, tVar, tC, gName, tCons, tNil, tCB, tCall, rI, rI0, rU, tRet, tDrop, tIfS, tNext, tIf, tTest, tNot, tOr, tAnd, tB, L2.start, CMul, CDiv, rIxF, rLenF, rIntF, sq_lst, sq_tup, tLstF, tTupF, gSub, rCatF, rCatTF, rInF, rNe, rEq, tAndV, tOrV, tNotV, tChain, rTupF, tFldF, tRx, tMake, tSl, tPart, tNoPart, rSlTF, rSlF, tRevTF, gTup, gCons, gNil])
/-! ### a row that is made -/
theorem make_at {K : PySem.W.Frag} {C : Kd → Addr} {CR : Addr} {H : Hp} {b : Addr} {o : HO} {ws : List Int} {many : Nat} {Q : Addr → Hp → Prop} {E : XK} (hb : H b = some o) (hs : sq o = some (ws.map V.int)) (hr : IsRow ws many) (hm : many ≤ 24)
    (k : ∀ p H', Same H H' → RowAt CR H' p (ws.map V.int) → Q p H') : ∀ x dx, H x = none → H dx = none → dx ≠ x → spRI K C CR [.ref x, .ref b] (upd (upd H dx (.own x)) x (.ins CR dx [])) (fun v H2 => v = .non ∧ Q x H2) E := by
  intro x dx nx ndx nex
  have lw := hr.len
  have gd : GoodTo (ws.map V.int) many := good_take hr (by rw [List.map_take]) (Nat.le_refl _) (by rw [List.length_map, lw])
  have lx : (ws.map V.int).length = many := by rw [List.length_map, lw]
  have e1 : Same H (upd (upd H dx (.own x)) x (.ins CR dx [])) := fun c u hc => by
    rw [upd_ne (ne_of_none hc nx), upd_ne (ne_of_none hc ndx)]
    exact hc
  refine ⟨x, dx, .ref b, rfl, upd_same, .inl ⟨b, o, _, rfl, e1 _ _ hb, hs, ne_of_none hb nx, by omega, fun H' s' y hy => ?_, fun _ _ tp H9 fr9 hx9 htp => ⟨rfl, k x H9 (fun b o h => fr9 b o (e1 b o h) (ne_of_none h nx)) ⟨dx, tp, hx9, htp⟩⟩, fun h => by omega, fun _ k _ _ _ hk _ ng _ => absurd (gd.le (by omega)) ng⟩⟩
  obtain ⟨z, _, rfl⟩ := List.mem_map.mp hy
  exact .int z
/-- [f z for z in a tuple of ints], the list made last -/
theorem lc_mapT {K : PySem.W.Frag} {H0 H : Hp} {L : List (Addr × HO)} {T : List (Addr × List V)} {a D : Addr} {ws : List Int} {g : Int → Int} {n : Nat} {te : TE} {σ : St} {Qd : Hp → Prop} (v : VW H0 H L T) (hD : H D = none)
    (hA : ∀ H' acc, VW H0 H' ((D, .lst acc) :: L) T → SqT K H' a (ws.map V.int)) (hw : ∀ x, wipe ((wipe σ [n]).set n x) [n] = wipe σ [n]) (hte : ∀ z H' Q, Q (.int (g z)) H' → te ((wipe σ [n]).set n (some (.int z))) H' Q) (hz : ws.length ≤ 1000)
    (hd : ∀ H', VW H0 H' ((D, .lst ((ws.map g).map V.int)) :: L) T → Qd H') :
    ∃ W : Nat → Nat → Hp → Prop, (∃ m, W 0 m (upd H D (.lst []))) ∧ ∀ i m H, W i m H →
      ((Itt K a).stop i H ∧ Qd H) ∨ ((Itt K a).go i H ∧ ∃ Nx : Hp → Prop, (∀ H', Nx H' → ∃ m', m' < m ∧ W (i + 1) m' H') ∧ ∀ x H', (Itt K a).yld i H x H' → gName n x (wipe σ [n]) H' fun σ2 H2 => wipe σ2 [n] = wipe σ [n] ∧ tYes σ2 H2 fun b H3 =>
        if b = true then te σ2 H3 fun y H4 => ∃ acc, H4 D = some (.lst acc) ∧ acc.length < sizeLine ∧ Nx (upd H4 D (.lst (acc ++ [y]))) else Nx H3) := by
  refine lc_it (walk_tup (K := K) (a := a) (xs := ws.map V.int)) (fun i H' => VW H0 H' ((D, .lst (((ws.take i).map g).map V.int)) :: L) T) ?_ (fun i H' _ v' => hA H' _ v') ?_ (fun H' v' => hd H' ?_)
  · have := v.push (o := .lst []) hD
    simpa using this
  · rintro i x H' H2 hi v' ⟨rfl, hx⟩
    rw [List.length_map] at hi
    rw [List.getElem?_map, List.getElem?_eq_getElem hi] at hx
    cases hx
    refine ⟨hw _, ?_⟩
    simp only [tYes, if_true]
    refine hte _ _ _ ⟨_, v'.facts.1, sz_lt (by simp; omega), ?_⟩
    have := v'.put (o := .lst (((ws.take i).map g).map V.int ++ [V.int (g ws[i])])) 0 rfl rfl
    have e : ws.take (i + 1) = ws.take i ++ [ws[i]] := by rw [List.take_succ, List.getElem?_eq_getElem hi]; rfl
    rw [e, List.map_append, List.map_append]
    simpa using this
  · rw [List.length_map, List.take_length] at v'
    exact v'
/-! ### stretches -/
theorem yes_if {σ : St} {H : Hp} {F G : Hp → Prop} (h : F H) : tYes σ H fun b H3 => if b = true then F H3 else G H3 := by
  show (if true = true then F H else G H)
  rw [if_pos rfl]
  exact h
/-- what a value is to is_stretch: no pair, or the pair of these -/
def StV (K : PySem.W.Frag) (H : Hp) (x : V) : Option (V × V) → Prop
  | none => (∃ t, TyX K H x t ∧ PySem.W.kitOne K t (.type "tuple") = some false) ∨ ∃ p xs, x = .ref p ∧ H p = some (.tup xs) ∧ xs.length ≠ 2
  | some (a, b) => ∃ p, x = .ref p ∧ H p = some (.tup [a, b]) ∧ Asked K H a ∧ Asked K H b
def stOk (hi : Int) : Option (V × V) → Bool
  | some (.int i, b) => decide (0 ≤ i) && decide (i ≤ hi) && wholeV b i hi
  | _ => false
section
variable {P : Program} {w : World} {K : PySem.W.Frag} {mg : Str → Option Value} {base : Heap} {C : Kd → Addr} {CR : Addr}
theorem tyOf_same {K : PySem.W.Frag} {H H' : Hp} {x : V} {t : Value} (h : TyOf K H x t) (s : Same H H') : TyOf K H' x t := by
  cases h
  case non => exact .non
  case bl => exact .bl _
  case int => exact .int _
  case str => exact .str _
  case flt => exact .flt _
  case lst e => exact .lst (s _ _ e)
  case frz e => exact .frz (s _ _ e)
  case tup e => exact .tup (s _ _ e)
  case dK e => exact .dK (s _ _ e)
  case dT e => exact .dT (s _ _ e)
  case ins e cl ha hn htk hm => exact .ins (s _ _ e) cl ha hn htk hm
theorem tyX_same {K : PySem.W.Frag} {H H' : Hp} {x : V} {t : Value} (h : TyX K H x t) (s : Same H H') : TyX K H' x t := by
  cases h
  case base h => exact .base (tyOf_same h s)
  case byt => exact .byt _
  case set e => exact .set (s _ _ e)
  case kList e c => exact .kList e c
  case kTuple e c => exact .kTuple e c
  case kDict e c => exact .kDict e c
  case fTuple e => exact .fTuple (s _ _ e)
  case fDict e => exact .fDict (s _ _ e)
theorem Asked.same {K : PySem.W.Frag} {H H' : Hp} {x : V} (h : Asked K H x) (s : Same H H') : Asked K H' x := by
  cases h with
  | int i => exact .int i
  | bl b => exact .bl b
  | other ty no h1 => exact .other (tyX_same ty s) no h1
/-- both are whole numbers from 0 to most -/
def pairOk (hi : Int) : Option (V × V) → Bool
  | some (a, b) => wholeV a 0 hi && wholeV b 0 hi
  | none => false
def spPair (K : PySem.W.Frag) : Sp := fun vs H Q _ => ∃ (x : V) (hi : Int) (o : Option (V × V)), vs = [x, .int hi] ∧ StV K H x o ∧ ∀ H', Same H H' → Q (.bl (pairOk hi o)) H'
theorem scPair : FnScope ["value", "most", "item"] ["value", "most"] (defScope sPair) := ⟨rfl, rfl, rfl, by decide +kernel, rfl, by decide +kernel, by decide +kernel⟩
theorem ok_pair {f fW : Addr} {fd fdW : FuncData} (F : Fun K "is_pair" "is_pair" sPair f fd) (B : Blt mg) (cWhole : Dn P w K mg base 1 "is_whole" fW fdW ["value", "least", "most"] (spWhole K)) : FnOk P w K mg base CX0 2 f fd ["value", "most"] (spPair K) := by
  refine F.ok scPair (fun vs H Q E h => ?_) (fun cdv A outer s H vs Q E hr h => ?_)
  · obtain ⟨x, hi, o, rfl, _⟩ := h
    rfl
  · obtain ⟨x, hi', o, rfl, ha, k⟩ := h
    refine ⟨_, (pss_one (ps_ret (pe_and (pe_callB call_isi (by rfl) B.isinstance (by decide +kernel) (pa_cons (pv 0) (pa_cons (pe_bltn (v := .ty "tuple") (by rfl) B.tuple (by decide +kernel) rfl) pa_nil))) (pe_and (pe_cmpR op_eq (pe_callB lenF (by rfl) B.len (by decide +kernel) (pa_cons (pv 0) pa_nil)) pe_int (nomark _)) (pe_one (pe_callB (cr_all rfl) (by rfl) B.all (by decide +kernel) (pa_cons (pe_lc (own := [("item", 2)]) (tt := tYes) rfl scPair.nd (pi_tup (pv 0)) (blkOk_by (own := [("item", 2)]) (N := ["value", "most", "item"]) (sc := defScope sPair) (by decide +kernel)) (fun _ _ _ _ _ => (pg_name (i := 2) scPair.nd rfl (by first | exact Or.inl rfl | exact Or.inr rfl))) (fun _ _ _ _ _ => pts_nil) (fun _ _ _ _ _ => (pe_call cWhole.ok (hr.mono (by decide)) rfl cWhole.mgf cWhole.kp cWhole.bi .nil pass0 (pa_cons (pv 2) (pa_cons pe_int (pa_cons (pv 1) pa_nil)))))) pa_nil))))))), ?_⟩
    walk_at "s"
    have kt : PySem.W.kitOne K (.type "tuple") (.type "tuple") = some true := kit_ty (by decide +kernel)
    cases o with
    | none =>
      rcases ha with ⟨t, ht, hk⟩ | ⟨p, xs, rfl, hp, hne⟩
      · exact ⟨x, .ty "tuple", t, .type "tuple", false, rfl, .ty _, ht, hk, .inl ⟨rfl, k H fun _ _ z => z⟩⟩
      · refine ⟨.ref p, .ty "tuple", .type "tuple", .type "tuple", true, rfl, .ty _, .base (.tup hp), kt, .inr ⟨rfl, p, rfl, _, hp, _, rfl, rfl, ?_⟩⟩
        rw [if_neg (by omega)]
        exact k H fun _ _ z => z
    | some ab =>
      obtain ⟨a, b⟩ := ab
      obtain ⟨p, rfl, hp, hA, hB⟩ := ha
      refine ⟨.ref p, .ty "tuple", .type "tuple", .type "tuple", true, rfl, .ty _, .base (.tup hp), kt, .inr ⟨rfl, p, rfl, _, hp, _, rfl, rfl, ?_⟩⟩
      rw [if_pos (by rfl)]
      refine ⟨_, rfl, p, rfl, ⟨_, SqT.of hp⟩, fun D hD => ?_⟩
      refine lc_it (walk_tup (K := K) (a := p) (xs := [a, b])) (fun i H' => VW H H' [(D, .lst (([wholeV a 0 hi', wholeV b 0 hi'].take i).map V.bl))] []) (VW.start.push hD) (fun i H' _ v' => SqT.of (v'.fr _ _ hp)) ?_ ?_
      · rintro i y H1 H2 hi v1 ⟨rfl, hy⟩
        refine ⟨rfl, yes_if ?_⟩
        refine ⟨_, rfl, _, rfl, ?_⟩
        obtain ⟨w', hA', e1, e2⟩ : ∃ w', Asked K H2 y ∧ wholeV y 0 hi' = w' ∧ ([wholeV a 0 hi', wholeV b 0 hi'].take (i + 1)).map V.bl = ([wholeV a 0 hi', wholeV b 0 hi'].take i).map V.bl ++ [V.bl w'] := by
          have : i = 0 ∨ i = 1 := by simp at hi; omega
          rcases this with rfl | rfl
          · cases hy
            exact ⟨_, hA.same v1.fr, rfl, rfl⟩
          · cases hy
            exact ⟨_, hB.same v1.fr, rfl, rfl⟩
        refine ⟨y, 0, hi', rfl, hA', _, v1.facts.1, sz_lt (by simp; omega), ?_⟩
        rw [e2, e1]
        exact v1.put 0 rfl rfl
      · intro H1 v1
        exact ⟨D, _, rfl, SqL.of v1.facts.1, by simpa [pairOk] using k H1 v1.fr⟩
def spStretch (K : PySem.W.Frag) : Sp := fun vs H Q _ => ∃ (x : V) (hi : Int) (o : Option (V × V)), vs = [x, .int hi] ∧ StV K H x o ∧ ∀ H', Same H H' → Q (.bl (stOk hi o)) H'
theorem scStretch : FnScope ["value", "most"] ["value", "most"] (defScope sStretch) := ⟨rfl, rfl, rfl, by decide +kernel, rfl, by decide +kernel, by decide +kernel⟩
theorem ok_stretch {f fW : Addr} {fd fdW : FuncData} (F : Fun K "is_stretch" "is_stretch" sStretch f fd) (B : Blt mg) (cPair : Dn P w K mg base 2 "is_pair" fW fdW ["value", "most"] (spPair K)) : FnOk P w K mg base CX0 3 f fd ["value", "most"] (spStretch K) := by
  refine F.ok scStretch (fun vs H Q E h => ?_) (fun cdv A outer s H vs Q E hr h => ?_)
  · obtain ⟨x, hi, o, rfl, _⟩ := h
    rfl
  · obtain ⟨x, hi, o, rfl, ha, k⟩ := h
    refine ⟨_, (pss_one (ps_ret (pe_and (pe_call cPair.ok (hr.mono (by decide)) rfl cPair.mgf cPair.kp cPair.bi .nil pass0 (pa_cons (pv 0) (pa_cons (pv 1) pa_nil))) (pe_one (pe_cmpR op_le (pe_ix ixF (pv 0) pe_int (fun _ _ => rfl)) (pe_ix ixF (pv 0) pe_int (fun _ _ => rfl)) (nomark _)))))), ?_⟩
    walk_at "s"
    refine ⟨x, hi, o, rfl, ha, fun H1 s1 => ?_⟩
    cases o with
    | none => exact .inl ⟨rfl, k H1 s1⟩
    | some ab =>
      obtain ⟨a, b⟩ := ab
      obtain ⟨p, rfl, hp, hA, hB⟩ := ha
      cases e : pairOk hi (some (a, b)) with
      | false =>
        refine .inl ⟨rfl, ?_⟩
        have e2 : stOk hi (some (a, b)) = false := by
          cases a with
          | int i =>
            cases b with
            | int j =>
              simp only [pairOk, wholeV, Bool.and_eq_false_iff, decide_eq_false_iff_not] at e
              simp only [stOk, wholeV, Bool.and_eq_false_iff, decide_eq_false_iff_not]
              omega
            | _ => simp [stOk, wholeV]
          | _ => rfl
        rw [← e2]
        exact k H1 s1
      | true =>
        refine .inr ⟨rfl, p, rfl, _, s1 _ _ hp, _, rfl, _, rfl, p, rfl, _, s1 _ _ hp, _, rfl, _, rfl, ?_⟩
        cases a with
        | int i =>
          cases b with
          | int j =>
            refine ⟨i, rfl, j, rfl, ?_⟩
            have e2 : stOk hi (some (.int i, .int j)) = decide (i ≤ j) := by
              simp only [pairOk, wholeV, Bool.and_eq_true, decide_eq_true_eq] at e
              simp only [stOk, wholeV]
              by_cases h : i ≤ j
              · rw [decide_eq_true h]
                simp
                omega
              · rw [decide_eq_false h]
                simp [h]
            rw [← e2]
            exact k H1 s1
          | _ => simp [pairOk, wholeV] at e
        | _ => simp [pairOk, wholeV] at e
end
/-! ### pairs -/
def PrL (H : Hp) : List V → List (Nat × Nat) → Prop := Paired fun v p => ∃ a, v = .ref a ∧ H a = some (.tup [.int (p.1 : Nat), .int (p.2 : Nat)])
theorem PrL.keep {H H' : Hp} {vs : List V} {ps : List (Nat × Nat)} (h : PrL H vs ps) (k : ∀ a xs, H a = some (.tup xs) → H' a = some (.tup xs)) : PrL H' vs ps := by
  unfold PrL at h ⊢
  induction h with
  | nil => exact .nil
  | cons r t ih => exact .cons (by obtain ⟨a, e, h⟩ := r; exact ⟨a, e, k _ _ h⟩) ih
theorem PrL.same {H H' : Hp} {vs : List V} {ps : List (Nat × Nat)} (h : PrL H vs ps) (s : Same H H') : PrL H' vs ps := h.keep fun a xs q => s _ _ q
theorem PrL.len {H : Hp} {vs : List V} {ps : List (Nat × Nat)} (h : PrL H vs ps) : vs.length = ps.length := by
  unfold PrL at h
  induction h with
  | nil => rfl
  | cons _ _ ih => simp [ih]
theorem PrL.snoc {H : Hp} {vs : List V} {ps : List (Nat × Nat)} {a : Addr} {i j : Nat} (h : PrL H vs ps) (ha : H a = some (.tup [.int (i : Nat), .int (j : Nat)])) : PrL H (vs ++ [.ref a]) (ps ++ [(i, j)]) := by
  unfold PrL at h ⊢
  induction h with
  | nil => exact .cons ⟨a, rfl, ha⟩ .nil
  | cons r t ih => exact .cons r ih
theorem PrL.app {H : Hp} {vs us : List V} {ps qs : List (Nat × Nat)} (h : PrL H vs ps) (h2 : PrL H us qs) : PrL H (vs ++ us) (ps ++ qs) := by
  unfold PrL at h ⊢
  induction h with
  | nil => exact h2
  | cons r t ih => exact .cons r ih
def prD (ps : List (Nat × Nat)) : List PyData := ps.map fun p => .tuple [.int (p.1 : Nat), .int (p.2 : Nat)]
theorem PrL.dp {K : PySem.W.Frag} {H : Hp} {vs : List V} {ps : List (Nat × Nat)} (h : PrL H vs ps) : DpAll K H vs (prD ps) := by
  unfold PrL at h
  induction h with
  | nil => exact .nil
  | cons r t ih =>
    obtain ⟨a, rfl, h⟩ := r
    exact .cons (.tup (SqT.of h) (.cons (.int _) (.cons (.int _) .nil))) ih
theorem prD_all : ∀ {ps : List (Nat × Nat)}, (∀ p ∈ ps, p.1 ≤ 100 ∧ p.2 ≤ 100) → PyData.showableAll (prD ps) = true ∧ PyData.canLayAll0 (prD ps) = true ∧ PyData.depthAll (prD ps) ≤ 1 ∧ PyData.weightAll (prD ps) ≤ 25 * ps.length ∧ PyData.intsShortAll 13 (prD ps) = true
  | [], _ => by simp [prD, PyData.showableAll, PyData.canLayAll0, PyData.depthAll, PyData.weightAll, PyData.intsShortAll]
  | p :: ps, h => by
    obtain ⟨p1, p2⟩ := h p List.mem_cons_self
    obtain ⟨a, b, c⟩ := small_int (z := (p.1 : Int)) (by unfold SmallI; omega)
    obtain ⟨a', b', c'⟩ := small_int (z := (p.2 : Int)) (by unfold SmallI; omega)
    obtain ⟨h1, h2, h3, h4, h5⟩ := prD_all (ps := ps) fun y hy => h y (List.mem_cons_of_mem _ hy)
    simp only [prD, List.map_cons] at h1 h2 h3 h4 h5 ⊢
    simp only [PyData.showableAll, PyData.showable, PyData.canLayAll0, PyData.canLay0, PyData.depthAll, PyData.depth, PyData.weightAll, PyData.intsShortAll, PyData.intsShort, List.length_cons] at *
    simp only [h1, h2, h5, Bool.and_true, Bool.true_and]
    refine ⟨by simpa using And.intro (of_decide_eq_true a) (of_decide_eq_true a'), trivial, by omega, ?_, by simp_all⟩
    simp only [PyData.weight, PyData.weightAll] at *
    omega
theorem shw_prs {ps : List (Nat × Nat)} (h : ∀ p ∈ ps, p.1 ≤ 100 ∧ p.2 ≤ 100) (hl : ps.length ≤ 10000) : Shw (.tuple (prD ps)) := by
  obtain ⟨h1, h2, h3, h4, h5⟩ := prD_all h
  refine shw_of ?_ ?_ ?_ ?_ ?_
  · simpa [PyData.showable] using h1
  · simpa [PyData.canLay0] using h2
  · simp only [PyData.depth]; omega
  · simp only [PyData.weight]; omega
  · simpa [PyData.intsShort] using h5
/-- the pairs that begin with i, of n; all those that begin below k -/
def prRow (n i : Nat) : List (Nat × Nat) := (List.range (n - i)).map fun j => (i, i + j)
def prs (n : Nat) : Nat → List (Nat × Nat)
  | 0 => []
  | k + 1 => prs n k ++ prRow n k
theorem prRow_mem {n i : Nat} {p : Nat × Nat} (h : p ∈ prRow n i) : p.1 = i ∧ i ≤ p.2 ∧ p.2 < n := by
  obtain ⟨j, hj, rfl⟩ := List.mem_map.mp h
  rw [List.mem_range] at hj
  exact ⟨rfl, by simp, by simp; omega⟩
theorem prs_mem {n : Nat} : ∀ {k : Nat} {p : Nat × Nat}, p ∈ prs n k → p.1 < k ∧ p.1 ≤ p.2 ∧ p.2 < n
  | 0, _, h => by cases h
  | k + 1, p, h => by
    rcases List.mem_append.mp h with h | h
    · have := prs_mem h; omega
    · have := prRow_mem h; omega
theorem prs_len {n : Nat} : ∀ {k : Nat}, (prs n k).length ≤ n * k
  | 0 => Nat.le_refl _
  | k + 1 => by
    have := prs_len (n := n) (k := k)
    rw [prs, List.length_append, Nat.mul_succ]
    have h2 : (prRow n k).length ≤ n := by unfold prRow; simp
    omega
section
variable {J : It} {n : Nat} {G : Hp → Prop} {Y : Nat → Hp → V → Hp → Prop}
theorem lc2_it (w : Walk J n G Y) {g : TG} {tt : TT} {tb : St → Hp → (Hp → Prop) → Prop} {vs : List Nat} {σ : St} {H1 : Hp} {D : Addr} {Qd : Hp → Prop} (Pv : Nat → Hp → Prop) (h0 : Pv 0 (upd H1 D (.lst []))) (hG : ∀ i H, i ≤ n → Pv i H → G H)
    (hs : ∀ i x H H', i < n → Pv i H → Y i H x H' → g x (wipe σ vs) H' fun σ2 H2 => wipe σ2 vs = wipe σ vs ∧ tt σ2 H2 fun b H3 => if b = true then tb σ2 H3 (Pv (i + 1)) else Pv (i + 1) H3) (hd : ∀ H, Pv n H → Qd H) :
    ∃ W : Nat → Nat → Hp → Prop, (∃ m, W 0 m (upd H1 D (.lst []))) ∧ ∀ i m H, W i m H →
      (J.stop i H ∧ Qd H) ∨ (J.go i H ∧ ∃ Nx : Hp → Prop, (∀ H', Nx H' → ∃ m', m' < m ∧ W (i + 1) m' H') ∧ ∀ x H', J.yld i H x H' → g x (wipe σ vs) H' fun σ2 H2 => wipe σ2 vs = wipe σ vs ∧ tt σ2 H2 fun b H3 => if b = true then tb σ2 H3 Nx else Nx H3) := by
  refine ⟨fun i m H => m = n - i ∧ i ≤ n ∧ Pv i H, ⟨n, by simp, Nat.zero_le _, h0⟩, ?_⟩
  rintro i m H ⟨rfl, hi, p⟩
  have q := hG i H hi p
  by_cases hlt : i < n
  · exact .inr ⟨w.goes i H hlt q, Pv (i + 1), fun H' p' => ⟨n - (i + 1), by omega, rfl, hlt, p'⟩, fun x H' y => hs i x H H' hlt p (w.yields i H x H' hlt q y)⟩
  · have e : i = n := by omega
    subst e
    exact .inl ⟨w.stops H q, hd H p⟩
theorem lc2_in (w : Walk J n G Y) {g : TG} {tt : TT} {te : TE} {vs : List Nat} {σ : St} {H1 : Hp} {D : Addr} {Qd : Hp → Prop} (Pv : Nat → Hp → Prop) (h0 : Pv 0 H1) (hG : ∀ i H, i ≤ n → Pv i H → G H)
    (hs : ∀ i x H H', i < n → Pv i H → Y i H x H' → g x (wipe σ vs) H' fun σ2 H2 => wipe σ2 vs = wipe σ vs ∧ tt σ2 H2 fun b H3 =>
      if b = true then te σ2 H3 fun y H4 => ∃ acc, H4 D = some (.lst acc) ∧ acc.length < sizeLine ∧ Pv (i + 1) (upd H4 D (.lst (acc ++ [y]))) else Pv (i + 1) H3) (hd : ∀ H, Pv n H → Qd H) :
    ∃ W : Nat → Nat → Hp → Prop, (∃ m, W 0 m H1) ∧ ∀ i m H, W i m H →
      (J.stop i H ∧ Qd H) ∨ (J.go i H ∧ ∃ Nx : Hp → Prop, (∀ H', Nx H' → ∃ m', m' < m ∧ W (i + 1) m' H') ∧ ∀ x H', J.yld i H x H' → g x (wipe σ vs) H' fun σ2 H2 => wipe σ2 vs = wipe σ vs ∧ tt σ2 H2 fun b H3 =>
        if b = true then te σ2 H3 fun y H4 => ∃ acc, H4 D = some (.lst acc) ∧ acc.length < sizeLine ∧ Nx (upd H4 D (.lst (acc ++ [y]))) else Nx H3) := by
  refine ⟨fun i m H => m = n - i ∧ i ≤ n ∧ Pv i H, ⟨n, by simp, Nat.zero_le _, h0⟩, ?_⟩
  rintro i m H ⟨rfl, hi, p⟩
  have q := hG i H hi p
  by_cases hlt : i < n
  · exact .inr ⟨w.goes i H hlt q, Pv (i + 1), fun H' p' => ⟨n - (i + 1), by omega, rfl, hlt, p'⟩, fun x H' y => hs i x H H' hlt p (w.yields i H x H' hlt q y)⟩
  · have e : i = n := by omega
    subst e
    exact .inl ⟨w.stops H q, hd H p⟩
end
section
variable {P : Program} {w : World} {K : PySem.W.Frag} {mg : Str → Option Value} {base : Heap} {C : Kd → Addr} {CR : Addr}
end

end Fab
set_option maxHeartbeats 2000000
namespace Fab
open PySem L2 PySem.FabX
local macro_rules | `(tactic| walk_at "s") => `(tactic| simp [tSeq, tAsg, tOp, tUn, tVar, tC, gName, tCons, tNil, tCB, tCall, rI, rI0, rU, tRet, tDrop, tIfS, tNext, tIf, tTest, tNot, tOr, tAnd, tB, L2.start, CMul, CDiv, rIxF, rLenF, rIntF, sq_lst, sq_tup, tLstF, tTupF, gSub, rCatF, rCatTF, rInF, rNe, rEq, tAndV, tOrV, tNotV, tChain, rTupF, tFldF, tRx, tMake, tSl, tPart, tNoPart, rSlTF, rSlF, tRevTF, gTup, gCons, gNil, rReprQ])
/-- a call from within a text that lets exceptions out -/
structure DnX (P : Program) (w : World) (K : PySem.W.Frag) (mg : Str → Option Value) (base : Heap) (k : Nat) (x : Str) (f : Addr) (fd : FuncData) (ps : List Str) (sp : Sp) : Prop where
  ok : FnOk P w K mg base (L2.CX P w) k f fd ps sp
  mgf : mg x = some (.ref f)
  kp : PySem.W.keepIn K (.ref f) = true
  bi : Binds K fd ps []
/-! ### one row behind another, cut -/
theorem seq_nx {S R : TS} {D : Ends} {σ : St} {H : Hp} (Inv : St → Hp → Prop) (h : ∀ Z : St → Hp → Prop, (∀ σ' H', Inv σ' H' → Z σ' H') → S { D with nx := Z } σ H) (h2 : ∀ σ' H', Inv σ' H' → R D σ' H') : tSeq S R D σ H := h (R D) h2
theorem seq_nx2 {S S2 R : TS} {D : Ends} {σ : St} {H : Hp} (Inv : St → Hp → Prop) (h : ∀ Z : St → Hp → Prop, (∀ σ' H', Inv σ' H' → Z σ' H') → tSeq S S2 { D with nx := Z } σ H) (h2 : ∀ σ' H', Inv σ' H' → R D σ' H') : tSeq S (tSeq S2 R) D σ H := h (R D) h2
theorem seq_nx3 {S S2 S3 R : TS} {D : Ends} {σ : St} {H : Hp} (Inv : St → Hp → Prop) (h : ∀ Z : St → Hp → Prop, (∀ σ' H', Inv σ' H' → Z σ' H') → tSeq S (tSeq S2 S3) { D with nx := Z } σ H) (h2 : ∀ σ' H', Inv σ' H' → R D σ' H') : tSeq S (tSeq S2 (tSeq S3 R)) D σ H := h (R D) h2
/-! ### the state of the draws, and what stays beside it -/
def Kn (m g : Addr) (H H' : Hp) : Prop := ∀ b o, H b = some o → b ≠ m → b ≠ g → noTbl o = true → H' b = some o
def DS (m c g : Addr) (cs : List Int) (Tb : List (Addr × Str)) (N : Nat) (H : Hp) : Prop := ∃ (n : Nat) (gs : List Int), n ≤ N ∧ H m = some (dm c g n) ∧ H g = some (.lst (gs.map V.int)) ∧ H c = some (.lst (cs.map V.int)) ∧ LamX.Tabs Tb H ∧ c ≠ m ∧ c ≠ g ∧ cs.length = 64
section
variable {m c g : Addr} {cs : List Int} {Tb : List (Addr × Str)} {N : Nat} {H H1 H' : Hp}
theorem Kn.refl : Kn m g H H := fun _ _ h _ _ _ => h
theorem Kn.of (s : Same H H') : Kn m g H H' := fun _ _ h _ _ _ => s _ _ h
theorem Kn.ofN (e : LamX.ExtN H H') : Kn m g H H' := fun _ _ h _ _ n => e _ _ h (noTbl_ne n)
theorem Kn.trans (k : Kn m g H H1) (k2 : Kn m g H1 H') : Kn m g H H' := fun b o h n1 n2 n3 => k2 b o (k b o h n1 n2 n3) n1 n2 n3
theorem DS.same (d : DS m c g cs Tb N H) (s : Same H H') : DS m c g cs Tb N H' := by
  obtain ⟨n, gs, h1, h2, h3, h4, h5, h6, h7, h8⟩ := d
  exact ⟨n, gs, h1, s _ _ h2, s _ _ h3, s _ _ h4, h5.ext s, h6, h7, h8⟩
theorem DS.extN (d : DS m c g cs Tb N H) (e : LamX.ExtN H H') (t : LamX.Tabs Tb H') : DS m c g cs Tb N H' := by
  obtain ⟨n, gs, h1, h2, h3, h4, h5, h6, h7, h8⟩ := d
  exact ⟨n, gs, h1, e _ _ h2 (noTbl_ne rfl), e _ _ h3 (noTbl_ne rfl), e _ _ h4 (noTbl_ne rfl), t, h6, h7, h8⟩
theorem DS.le {M : Nat} (d : DS m c g cs Tb N H) (h : N ≤ M) : DS m c g cs Tb M H := by
  obtain ⟨n, gs, h1, r⟩ := d
  exact ⟨n, gs, Nat.le_trans h1 h, r⟩
theorem DS.tabs (d : DS m c g cs Tb N H) : LamX.Tabs Tb H := by
  obtain ⟨n, gs, h1, h2, h3, h4, h5, _⟩ := d
  exact h5
/-- what is no dict and no list stands beside the draws' state -/
def noDL : HO → Bool
  | .lst _ => false
  | .dK _ => false
  | .tbl _ => false
  | _ => true
theorem Kn.at (k : Kn m g H H') (d : DS m c g cs Tb N H) {b : Addr} {o : HO} (h : H b = some o) (n : noDL o = true) : H' b = some o := by
  obtain ⟨n0, gs, h1, h2, h3, _⟩ := d
  refine k b o h (fun z => ?_) (fun z => ?_) ?_
  · rw [z, h2] at h; cases h; cases n
  · rw [z, h3] at h; cases h; cases n
  · cases o <;> first | rfl | cases n
theorem RowAt.kn {CR p : Addr} {xs : List V} (r : RowAt CR H p xs) (d : DS m c g cs Tb N H) (k : Kn m g H H') : RowAt CR H' p xs := by
  obtain ⟨dx, tp, h1, h2⟩ := r
  exact ⟨dx, tp, k.at d h1 rfl, k.at d h2 rfl⟩
theorem tabsK {H' : Hp} (hT : LamX.Tabs Tb H) {n : Nat} {gs : List Int} (hm : H m = some (dm c g n)) (hg : H g = some (.lst (gs.map V.int))) (h : ∀ b o, H b = some o → b ≠ m → b ≠ g → H' b = some o) : LamX.Tabs Tb H' := tabs_of hT m g ⟨_, _, hm⟩ ⟨_, hg⟩ h
theorem draw_ds {lim : Int} {Q : VK} {E : XK} (d : DS m c g cs Tb N H) (hl : 0 < lim) (hl2 : lim < 1000000000) (hN : N < 2 ^ 37) (k : ∀ (r : Int) (H' : Hp), 0 ≤ r → r < lim → DS m c g cs Tb (N + 1) H' → Kn m g H H' → Q (.int r) H') : spDraw [.ref m, .int lim] H Q E := by
  obtain ⟨n, gs, h1, h2, h3, h4, h5, h6, h7, h8⟩ := d
  refine ⟨m, lim, c, g, cs, gs, n, rfl, hl, hl2, h2, h4, h3, h7, h8, by omega, fun r gs' H' r0 r1 a1 a2 a3 a4 => k r H' r0 r1 ⟨n + 1, gs', by omega, a1, a3, a2, tabsK h5 h2 h3 a4, h6, h7, h8⟩ fun b o h n1 n2 _ => a4 b o h n1 n2⟩
theorem row_ds {many : Nat} {Q : VK} {E : XK} (d : DS m c g cs Tb N H) (hm : many ≤ 24) (hN : N < 2 ^ 37) (k : ∀ (p : Addr) (ws : List Int) (H' : Hp), IsRow ws many → H p = none → p ≠ g → H' p = some (.lst (ws.map V.int)) → DS m c g cs Tb (N + 100) H' → Kn m g H H' → Q (.ref p) H') : spRow [.ref m, .int (many : Nat)] H Q E := by
  obtain ⟨n, gs, h1, h2, h3, h4, h5, h6, h7, h8⟩ := d
  refine ⟨m, many, c, g, cs, gs, n, rfl, hm, h2, h4, h3, h7, h8, by omega, fun p ws gs' n' H' a0 a1 a2 a3 a4 a5 a6 a7 => k p ws H' a0 a3 (fun z => by rw [z, h3] at a3; cases a3) a4 ⟨n', gs', by omega, a5, a6, a7 _ _ h4 h6 h7, tabsK h5 h2 h3 a7, h6, h7, h8⟩ fun b o h n1 n2 _ => a7 b o h n1 n2⟩
end
/-- a drawn row, as a list and as a row -/
def Rw (m g CR p r : Addr) (ws : List Int) (many : Nat) (H : Hp) : Prop := many ≤ 24 ∧ IsRow ws many ∧ H p = some (.lst (ws.map V.int)) ∧ p ≠ m ∧ p ≠ g ∧ RowAt CR H r (ws.map V.int)
theorem Rw.kn {m c g CR p r : Addr} {cs ws : List Int} {Tb : List (Addr × Str)} {N many : Nat} {H H' : Hp} (x : Rw m g CR p r ws many H) (d : DS m c g cs Tb N H) (k : Kn m g H H') : Rw m g CR p r ws many H' := by
  obtain ⟨h1, h2, h3, h4, h5, h6⟩ := x
  exact ⟨h1, h2, k _ _ h3 h4 h5 rfl, h4, h5, h6.kn d k⟩
theorem Rw.same {m g CR p r : Addr} {ws : List Int} {many : Nat} {H H' : Hp} (x : Rw m g CR p r ws many H) (s : Same H H') : Rw m g CR p r ws many H' := by
  obtain ⟨h1, h2, h3, h4, h5, h6⟩ := x
  exact ⟨h1, h2, s _ _ h3, h4, h5, h6.same s⟩
theorem heard_any {C : Kd → Addr} {Tb : List (Addr × Str)} {H : Hp} {σ : St} {t : XK → TE} {Q : VK} (hT : LamX.Tabs Tb H) (h : ∀ (H2 : Hp) (Qx : VK), LamX.ExtN H H2 → LamX.Tabs Tb H2 → (∀ v H', Qh Q v H' → Qx v H') → t (Eh C Q) σ H2 Qx) : LamX.tLam Tb (TTh C) t σ H Q :=
  ⟨hT, fun H1 eN T1 H2 s2 Qx hx => h H2 Qx (eN.trans (LamX.ExtN.of s2)) (T1.ext s2) hx⟩
section
variable {P : Program} {w : World} {K : PySem.W.Frag} {mg : Str → Option Value} {base : Heap}
theorem Rp.of {H : Hp} {x : V} {d : PyData} (h : Dp K H x d) (s : Shw d) : Rp K H x d := .dp h s.1 s.2.1 s.2.2.1 s.2.2.2
theorem turn_back {ws : List Int} {i j : Nat} (hij : i ≤ j) (hj : j < ws.length) : turnL (turnL ws i j) i j = ws := by
  have l1 : (ws.take i).length = i := by rw [List.length_take]; omega
  have l2 : ((((ws.drop i).take (j + 1 - i)).map fun z => 0 - z).reverse).length = j + 1 - i := by simp; omega
  have e1 : (turnL ws i j).take i = ws.take i := by
    unfold turnL
    rw [List.append_assoc, List.take_append_of_le_length (by omega), List.take_of_length_le (by omega)]
  have e2 : (turnL ws i j).drop i = (((ws.drop i).take (j + 1 - i)).map fun z => 0 - z).reverse ++ ws.drop (j + 1) := by
    unfold turnL
    rw [List.append_assoc, List.drop_append_of_le_length (by omega), List.drop_of_length_le (by omega), List.nil_append]
  have e3 : (turnL ws i j).drop (j + 1) = ws.drop (j + 1) := by
    rw [show j + 1 = i + (j + 1 - i) by omega, ← List.drop_drop, e2, List.drop_append_of_le_length (by omega), List.drop_of_length_le (by omega), List.nil_append]
    congr 1
    omega
  have e4 : ((turnL ws i j).drop i).take (j + 1 - i) = (((ws.drop i).take (j + 1 - i)).map fun z => 0 - z).reverse := by
    rw [e2, List.take_append_of_le_length (by omega), List.take_of_length_le (by omega)]
  show (turnL ws i j).take i ++ ((((turnL ws i j).drop i).take (j + 1 - i)).map fun z => 0 - z).reverse ++ (turnL ws i j).drop (j + 1) = ws
  rw [e1, e3, e4, ← List.map_reverse, List.reverse_reverse, List.map_map]
  have e5 : ((fun z : Int => 0 - z) ∘ fun z => 0 - z) = id := by funext z; simp
  rw [e5, List.map_id, List.append_assoc]
  conv => rhs; rw [← List.take_append_drop i ws, ← List.take_append_drop (j + 1 - i) (ws.drop i), List.drop_drop]
  rw [show i + (j + 1 - i) = j + 1 by omega]
theorem turn_whole {ws : List Int} {many : Nat} (h : ws.length = many) : turnL ws 0 (many - 1) = ws.reverse.map fun z => 0 - z := by
  unfold turnL
  cases many with
  | zero =>
    have := List.eq_nil_of_length_eq_zero h
    subst this
    rfl
  | succ n =>
    simp only [List.take_zero, List.drop_zero, List.nil_append, Nat.add_sub_cancel, Nat.sub_zero]
    rw [List.take_of_length_le (by omega), List.drop_of_length_le (by omega), List.append_nil, List.map_reverse]
theorem lay_ints : ∀ (zs : List Int), PyData.canLayAll0 (zs.map PyData.int) = true
  | [] => rfl
  | z :: zs => by
    rw [List.map_cons, PyData.canLayAll0, lay_ints zs]
    simp [PyData.canLay0]
theorem eqv_ints (zs : List Int) : PyData.eqv (.tuple (zs.map PyData.int)) (.tuple (zs.map PyData.int)) = true := SeqAt.eqv_refl _ (by rw [PyData.canLay0]; exact lay_ints zs)
/-- two rows alike are not unlike -/
theorem ne_like {K : PySem.W.Frag} {CR a b : Addr} {H : Hp} {zs : List Int} {Q : VK} {E : XK} (h1 : RowAt CR H a (zs.map V.int)) (h2 : RowAt CR H b (zs.map V.int)) (k : Q (.bl false) H) : rNeO CR (spREq CR) E (.ref a) (.ref b) H Q := by
  obtain ⟨dx, tp, a1, a2⟩ := id h1
  obtain ⟨dy, tq, b1, b2⟩ := id h2
  exact ⟨a, b, dx, dy, _, _, rfl, rfl, a1, b1, a, b, zs, zs, rfl, h1, h2, _, rfl, by rw [eqv_ints]; exact k⟩
theorem eq_like {K : PySem.W.Frag} {CR a b : Addr} {H : Hp} {zs : List Int} {Q : VK} {E : XK} (h1 : RowAt CR H a (zs.map V.int)) (h2 : RowAt CR H b (zs.map V.int)) (k : Q (.bl true) H) : rEqO CR (spREq CR) E (.ref a) (.ref b) H Q := by
  obtain ⟨dx, tp, a1, a2⟩ := id h1
  obtain ⟨dy, tq, b1, b2⟩ := id h2
  exact ⟨a, b, dx, dy, _, _, rfl, rfl, a1, b1, a, b, zs, zs, rfl, h1, h2, _, rfl, by rw [eqv_ints]; exact k⟩
theorem shw_row {ws : List Int} {many : Nat} (h : IsRow ws many) (hm : many ≤ 24) : Shw (.tuple (ws.map PyData.int)) := shw_tup (fun z hz => by
  have := row_mem h z hz
  unfold SmallI
  omega) (by rw [h.len]; omega)
end

end Fab
set_option maxHeartbeats 2000000
namespace Fab
open PySem L2 PySem.FabX
local macro_rules | `(tactic| walk_at "s") => `(tactic| simp [tSeq, tAsg, tOp, tUn, tVar, tC, gName, tCons, tNil, tCB, tCall, rI, rI0, rU, tRet, tDrop, tIfS, tNext, tIf, tTest, tNot, tOr, tAnd, tB, L2.start, CMul, CDiv, rIxF, rLenF, rIntF, sq_lst, sq_tup, tLstF, tTupF, gSub, rCatF, rCatTF, rInF, rNe, rEq, tAndV, tOrV, tNotV, tChain, rTupF, tFldF, tRx, tMake, tMeth, tSl, tPart, tNoPart, rSlTF, rSlF, tRevTF, gTup, gCons, gNil, tLstRgF, tRg2])
section
variable {X : Cx} {C : Addr} {bmB : List Value} {B newId initId : String}
/-- X(), an own exception class without an own __init__ -/
theorem pmk_own0 {x : Str} {p pos : Pos} (F : ExcBaseFacts B newId initId bmB) (q : PySem.W.excIn X.K C bmB newId = true) (gC : X.mg x = some (.ref C)) (kC : PySem.W.keepIn X.K (.ref C) = true) (r : Raises X (.ref C)) (hg : Gl X x)
    (hdb : (x == ("__debug__" : Str)) = false := by decide) : PMk X (.Call (.Name x p) [] [] pos) (fun _ H Q => Q (.ref C) none H) := by
  intro pins s σ H Q I h
  refine wpAny_Call_Name_kw (ld_glob I hg gC ?_ hdb)
  refine PySem.W.callWith_K0 I.kIn kC ?_
  show wpAny _ _ (call (.ref C) []) _ _ _
  obtain ⟨bm, N, nm, qn, bs, hdct, sn, sub, ab, col, dd, k0, k1, k2, k3, k5, mN, hC, hN, hni, T⟩ := exc_obj I.kIn q
  refine wpAny_call_exc_subT F T hC hN hni (fun h' e hm => ?_) (by show 0 ≤ sizeLine; exact Nat.zero_le _)
  exact mk_of I hm r h (I.hok.gone hm.new)
end
/-- what the text says of OtherLength -/
structure OthC (K : PySem.W.Frag) (mg : Str → Option Value) (C : Addr) : Prop where
  ex : PySem.W.excIn K C bmV "ValueError.__new__" = true
  mgC : mg "OtherLength" = some (.ref C)
  kC : PySem.W.keepIn K (.ref C) = true
  sub : PySem.W.subIn K (.ref C) (.type "BaseException") = some true
  ty : PySem.W.typeIn K (.ref C) = some (.type "type")
/-- what the text says of FaceError, as it is made -/
structure FacC (K : PySem.W.Frag) (mg : Str → Option Value) (C : Addr) : Prop where
  ex : PySem.W.excIn K C bmV "ValueError.__new__" = true
  mgC : mg "FaceError" = some (.ref C)
  kC : PySem.W.keepIn K (.ref C) = true
  sub : PySem.W.subIn K (.ref C) (.type "BaseException") = some true
  ty : PySem.W.typeIn K (.ref C) = some (.type "type")
theorem ps_raiseO {X : Cx} {C : Addr} {W : WX} {p pos pos2 : Pos} (hc : X.calm = true) (O : OthC X.K X.mg C) (tk : Takes X W) (hg : Gl X "OtherLength") : PS X (.Raise (some (.Call (.Name "OtherLength" p) [] [] pos)) none pos2) (fun _ σ H => W (.ref C) none σ H) :=
  ps_raise hc tk (pmk_own0 F.excBase_ValueError O.ex O.mgC O.kC (raises_own O.sub O.ty) hg)
section
variable {P : Program} {w : World} {K : PySem.W.Frag} {mg : Str → Option Value} {base : Heap} {C : Kd → Addr} {CR : Addr}
def spAt (CR : Addr) : Sp := fun vs H Q _ => ∃ (p : Addr) (ws : List Int) (k : Nat) (z : Int), vs = [.ref p, .int (k : Nat)] ∧ RowAt CR H p (ws.map V.int) ∧ ws[k]? = some z ∧ ws.length ≤ 1000 ∧ Q (.int z) H
theorem scRAt : FnScope ["self", "place"] ["self", "place"] (defScope sRAt) := ⟨rfl, rfl, rfl, by decide +kernel, rfl, by decide +kernel, by decide +kernel⟩
theorem ok_at {f fW : Addr} {fd fdW : FuncData} (F : Fun K "at" "Row.at" sRAt f fd) (B : Blt mg) (R : RowC K mg CR) (XB : ∀ k, hasK k = true → XDs P w K mg base C k) (cWhole : Dn P w K mg base 1 "is_whole" fW fdW ["value", "least", "most"] (spWhole K)) : FnOk P w K mg base (L2.CX P w) 4 f fd ["self", "place"] (spAt CR) := by
  refine F.okX scRAt (fun vs H Q E h => ?_) (fun cdv A outer s H vs Q E hr h => ⟨_, (pss_cons (ps_if (pt_not (pt_val (pe_call cWhole.ok (hr.mono (by decide)) rfl cWhole.mgf cWhole.kp cWhole.bi .nil pass0 (pa_cons (pv 1) (pa_cons pe_int (pa_cons (pe_op op_sub (pe_callB lenF (by rfl) B.len (by decide +kernel) (pa_cons (pe_fldF (pv 0)) pa_nil)) pe_int) pa_nil)))))) (pss_one (ps_raiseX (k := .place) rfl (XB .place (by decide)) (hr.mono (by decide)) (takes_of rfl rfl rfl rfl) (pv 1) (by rfl))) pss_nil)
      (pss_one (ps_ret (pe_ix ixF (pe_fldF (pv 0)) (pv 1) (fun _ _ => rfl))))), ?_⟩)
  · obtain ⟨p, ws, k, z, rfl, _⟩ := h
    rfl
  · obtain ⟨p, ws, k, z, rfl, ⟨dx, tp, h1, h2⟩, hz, hl, q⟩ := h
    walk_at "s"
    have hk := (List.getElem?_eq_some_iff.mp hz).1
    refine ⟨CR, dx, _, h1, R.cl, R.nW, _, rfl, tp, rfl, _, h2, _, rfl, .int k, 0, _, rfl, .int _, ?_⟩
    refine .inr ⟨?_, ?_⟩
    · simp [wholeV]
      omega
    refine ⟨CR, dx, _, h1, R.cl, R.nW, _, rfl, tp, rfl, _, h2, _, rfl, _, ?_, q⟩
    unfold atI ixN
    rw [if_pos (by omega), if_pos (by rw [List.length_map]; omega)]
    simp [hz]
/-! ### turnings one after another -/
def foldT (ws : List Int) (ps : List (Nat × Nat)) : List Int := ps.foldl (fun w p => turnL w p.1 p.2) ws
theorem foldT_row {many : Nat} : ∀ {ps : List (Nat × Nat)} {ws : List Int}, IsRow ws many → (∀ p ∈ ps, p.1 ≤ p.2 ∧ p.2 < many) → IsRow (foldT ws ps) many
  | [], _, h, _ => h
  | p :: ps, ws, h, k => foldT_row (ps := ps) (h.turn (k p List.mem_cons_self).1) fun q hq => k q (List.mem_cons_of_mem _ hq)
theorem foldT_snoc {ws : List Int} {ps : List (Nat × Nat)} {p : Nat × Nat} : foldT ws (ps ++ [p]) = turnL (foldT ws ps) p.1 p.2 := by
  unfold foldT
  rw [List.foldl_append]
  rfl
theorem foldT_back {many : Nat} {ws : List Int} (h : IsRow ws many) : ∀ {ps : List (Nat × Nat)}, (∀ p ∈ ps, p.1 ≤ p.2 ∧ p.2 < many) → foldT (foldT ws ps) ps.reverse = ws := by
  intro ps
  induction ps generalizing ws with
  | nil => intro _; rfl
  | cons p ps ih =>
    intro k
    have kp := k p List.mem_cons_self
    rw [List.reverse_cons, foldT_snoc]
    have e : foldT ws (p :: ps) = foldT (turnL ws p.1 p.2) ps := rfl
    rw [e, ih (h.turn kp.1) fun q hq => k q (List.mem_cons_of_mem _ hq)]
    exact turn_back kp.1 (by rw [h.len]; exact kp.2)
theorem PrL.take {H : Hp} {vs : List V} {ps : List (Nat × Nat)} (h : PrL H vs ps) (n : Nat) : PrL H (vs.take n) (ps.take n) := by
  unfold PrL at h ⊢
  induction h generalizing n with
  | nil => simp; exact .nil
  | cons r t ih =>
    cases n with
    | zero => exact .nil
    | succ n => exact .cons r (ih n)
theorem PrL.rev {H : Hp} {vs : List V} {ps : List (Nat × Nat)} (h : PrL H vs ps) : PrL H vs.reverse ps.reverse := by
  unfold PrL at h
  induction h with
  | nil => exact .nil
  | cons r t ih =>
    rw [List.reverse_cons, List.reverse_cons]
    exact PrL.app ih (.cons r .nil)
theorem PrL.get {H : Hp} {vs : List V} {ps : List (Nat × Nat)} (h : PrL H vs ps) {k : Nat} {y : V} (hy : vs[k]? = some y) : ∃ p a, ps[k]? = some p ∧ y = .ref a ∧ H a = some (.tup [.int (p.1 : Nat), .int (p.2 : Nat)]) := by
  unfold PrL at h
  induction h generalizing k with
  | nil => simp at hy
  | @cons v p vs ps r t ih =>
    cases k with
    | zero =>
      obtain ⟨a, e, ha⟩ := r
      simp at hy
      subst hy
      exact ⟨p, a, rfl, e, ha⟩
    | succ k => simpa using ih (k := k) (by simpa using hy)
theorem eqvAll_ints : ∀ (xs ys : List Int), PyData.eqvAll (xs.map PyData.int) (ys.map PyData.int) = decide (xs = ys)
  | [], [] => rfl
  | [], _ :: _ => rfl
  | _ :: _, [] => rfl
  | x :: xs, y :: ys => by
    rw [List.map_cons, List.map_cons, PyData.eqvAll, eqvAll_ints xs ys, PyData.eqv]
    by_cases h : x = y
    · subst h
      simp
    · simp [h]
/-! ### which places a turning changes -/
theorem turn_get {ws : List Int} {i j k : Nat} (hij : i ≤ j) (hj : j < ws.length) : (turnL ws i j)[k]? = if k < i then ws[k]? else if k ≤ j then (ws[i + j - k]?).map (fun z => 0 - z) else ws[k]? := by
  have l1 : (ws.take i).length = i := by rw [List.length_take]; omega
  have l2 : ((((ws.drop i).take (j + 1 - i)).map fun z => 0 - z).reverse).length = j + 1 - i := by simp; omega
  unfold turnL
  split
  · rename_i h
    rw [List.append_assoc, List.getElem?_append_left (by omega), List.getElem?_take_of_lt h]
  · rename_i h
    split
    · rename_i h2
      rw [List.append_assoc, List.getElem?_append_right (by omega), List.getElem?_append_left (by omega), List.getElem?_reverse (by simp at l2 ⊢; omega), List.getElem?_map, l1]
      congr 1
      simp only [List.length_map]
      rw [List.getElem?_take_of_lt (by simp; omega), List.getElem?_drop]
      congr 1
      simp
      omega
    · rename_i h2
      rw [List.getElem?_append_right (by simp; omega), List.getElem?_drop]
      congr 1
      simp
      omega
theorem row_ne {ws : List Int} {many i j : Nat} {x y : Int} (h : IsRow ws many) (hi : ws[i]? = some x) (hj : ws[j]? = some y) : x ≠ 0 - y := fun e => by
  have nd := row_nodup h
  have hil := (List.getElem?_eq_some_iff.mp hi).1
  have hjl := (List.getElem?_eq_some_iff.mp hj).1
  have hx := row_mem h x (List.mem_of_getElem? hi)
  have : i = j := by
    rcases Nat.lt_trichotomy i j with hlt | he | hgt
    · exact absurd (by simp [hi, hj, e]) (nodup_get.mp nd i j hlt (by simpa using hjl))
    · exact he
    · exact absurd (by simp [hi, hj, e]) (nodup_get.mp nd j i hgt (by simpa using hil))
  subst this
  rw [hi] at hj
  cases hj
  omega
/-- a turning changes the waggons at its ends, and none outside -/
theorem turn_ends {ws : List Int} {many i j : Nat} (h : IsRow ws many) (hij : i ≤ j) (hj : j < many) : ws[i]? ≠ (turnL ws i j)[i]? ∧ ws[j]? ≠ (turnL ws i j)[j]? ∧ ∀ k, ws[k]? ≠ (turnL ws i j)[k]? → i ≤ k ∧ k ≤ j := by
  have lw := h.len
  have gi : ws[i]? = some ws[i] := List.getElem?_eq_getElem (by omega)
  have gj : ws[j]? = some ws[j] := List.getElem?_eq_getElem (by omega)
  refine ⟨fun e => ?_, fun e => ?_, fun k hk => ?_⟩
  · rw [turn_get hij (by omega), if_neg (by omega), if_pos hij, show i + j - i = j by omega, gi, gj] at e
    exact row_ne h gi gj (Option.some.inj e)
  · rw [turn_get hij (by omega), if_neg (by omega), if_pos (Nat.le_refl _), show i + j - j = i by omega, gi, gj] at e
    exact row_ne h gj gi (Option.some.inj e)
  · rw [turn_get hij (by omega)] at hk
    by_cases h1 : k < i
    · rw [if_pos h1] at hk
      exact absurd rfl hk
    · by_cases h2 : k ≤ j
      · exact ⟨by omega, h2⟩
      · rw [if_neg h1, if_neg h2] at hk
        exact absurd rfl hk
def df (ws vs : List Int) (m : Nat) : List Nat := (List.range m).filter fun k => decide (ws[k]? ≠ vs[k]?)
theorem df_mem {ws vs : List Int} {m k : Nat} : k ∈ df ws vs m ↔ k < m ∧ ws[k]? ≠ vs[k]? := by
  unfold df
  rw [List.mem_filter, List.mem_range, decide_eq_true_eq]
theorem df_lt {ws vs : List Int} {m : Nat} : (df ws vs m).Pairwise (· < ·) := List.Pairwise.filter _ List.pairwise_lt_range
theorem df_len {ws vs : List Int} {m : Nat} : (df ws vs m).length ≤ m := by
  unfold df
  exact Nat.le_trans (List.length_filter_le _ _) (by simp)
theorem df_nil {ws vs : List Int} {m : Nat} (hw : ws.length = m) (hv : vs.length = m) (h : df ws vs m = []) : ws = vs := by
  refine List.ext_getElem? fun k => ?_
  by_cases hk : k < m
  · by_cases e : ws[k]? = vs[k]?
    · exact e
    · have : k ∈ df ws vs m := df_mem.mpr ⟨hk, e⟩
      rw [h] at this
      cases this
  · rw [List.getElem?_eq_none (by omega), List.getElem?_eq_none (by omega)]
theorem pw_first {l : List Nat} (h : l.Pairwise (· < ·)) {a x : Nat} (ha : l[0]? = some a) (hx : x ∈ l) : a ≤ x := by
  cases l with
  | nil => cases hx
  | cons b l =>
    simp at ha
    subst ha
    rcases List.mem_cons.mp hx with rfl | hx
    · exact Nat.le_refl _
    · exact Nat.le_of_lt ((List.pairwise_cons.mp h).1 x hx)
theorem pw_last {l : List Nat} (h : l.Pairwise (· < ·)) {b x : Nat} (hb : l[l.length - 1]? = some b) (hx : x ∈ l) : x ≤ b := by
  obtain ⟨k, hk, rfl⟩ := List.getElem_of_mem hx
  have hb2 := (List.getElem?_eq_some_iff.mp hb)
  obtain ⟨h1, h2⟩ := hb2
  rcases Nat.lt_or_ge k (l.length - 1) with hlt | hge
  · have := List.pairwise_iff_getElem.mp h k (l.length - 1) hk h1 hlt
    omega
  · have e : k = l.length - 1 := by omega
    subst e
    omega
/-- the ends of the places that differ are the turning's ends -/
theorem df_ends {ws : List Int} {many i j a b : Nat} (h : IsRow ws many) (hij : i ≤ j) (hj : j < many) (ha : (df ws (turnL ws i j) many)[0]? = some a) (hb : (df ws (turnL ws i j) many)[(df ws (turnL ws i j) many).length - 1]? = some b) : a = i ∧ b = j := by
  obtain ⟨e1, e2, e3⟩ := turn_ends h hij hj
  have m1 := df_mem.mpr ⟨(by omega : i < many), e1⟩
  have m2 := df_mem.mpr ⟨hj, e2⟩
  have a1 := pw_first df_lt ha m1
  have b1 := pw_last df_lt hb m2
  have a2 := e3 a (df_mem.mp (List.mem_of_getElem? ha)).2
  have b2 := e3 b (df_mem.mp (List.mem_of_getElem? hb)).2
  omega
theorem lk_ne {x y : Str} {v : V} (h : (x == y) = false) : List.lookup x [(y, v)] = none := by simp [List.lookup, h]
end
/-! ### for the law -/
theorem rep_flat {α : Type} (x : α) : ∀ n : Nat, (List.replicate n [x]).flatten = List.replicate n x
  | 0 => rfl
  | n + 1 => by
    rw [List.replicate_succ, List.flatten_cons, rep_flat x n, List.replicate_succ]
    rfl
theorem PrL.rep {H : Hp} {a : Addr} {i j : Nat} (h : H a = some (.tup [.int (i : Nat), .int (j : Nat)])) : ∀ n : Nat, PrL H (List.replicate n (.ref a)) (List.replicate n (i, j))
  | 0 => .nil
  | n + 1 => .cons ⟨a, rfl, h⟩ (PrL.rep h n)
theorem prs_has {n i j : Nat} (hij : i ≤ j) (hj : j < n) : ∀ {k : Nat}, i < k → (i, j) ∈ prs n k
  | 0, h => by omega
  | k + 1, h => by
    refine List.mem_append.mpr ?_
    rcases Nat.lt_or_ge i k with hlt | hge
    · exact .inl (prs_has hij hj hlt)
    · have e : i = k := by omega
      subst e
      exact .inr (List.mem_map.mpr ⟨j - i, List.mem_range.mpr (by omega), by rw [show i + (j - i) = j by omega]⟩)
theorem shaped_prs {ps : List (Nat × Nat)} (h : ∀ p ∈ ps, p.1 ≤ 100 ∧ p.2 ≤ 100) : SeqAt.shaped (.list (prD ps)) = true := by
  obtain ⟨h1, h2, h3, _⟩ := prD_all h
  show (PyData.canLay0 _ && decide (PyData.depth _ ≤ 64)) = true
  rw [Bool.and_eq_true, decide_eq_true_eq]
  exact ⟨by simpa [PyData.canLay0] using h2, by simp only [PyData.depth]; omega⟩
theorem cut_d {ws : List V} {j : Nat} (hj : j ≤ ws.length) : cutV ws (some (j : Int)) none = ws.drop j := by
  unfold cutV
  rw [HT.sIx_none, HT.sIx_nat, Nat.min_eq_left hj]
  exact List.take_of_length_le (by simp)
theorem PrL.extN {H H' : Hp} {vs : List V} {ps : List (Nat × Nat)} (h : PrL H vs ps) (e : LamX.ExtN H H') : PrL H' vs ps := h.keep fun a xs q => e _ _ q (noTbl_ne rfl)
theorem seq_go {S R : TS} {D : Ends} {σ : St} {H : Hp} (Inv : St → Hp → Prop) (h : ∀ D' : Ends, (∀ σ' H', Inv σ' H' → D'.nx σ' H') → S D' σ H) (h2 : ∀ σ' H', Inv σ' H' → R D σ' H') : tSeq S R D σ H := h { D with nx := R D } h2
theorem tabs_put {H : Hp} {Tb : List (Addr × Str)} {s : Addr} {xs ys : List V} (hT : LamX.Tabs Tb H) (hs : H s = some (.lst xs)) : LamX.Tabs Tb (upd H s (.lst ys)) := fun p hp => by
  have h := hT p hp
  obtain ⟨ps, h1, h2, h3⟩ := h
  refine ⟨ps, by rw [upd_ne (fun z => by rw [z, hs] at h1; cases h1)]; exact h1, h2, fun pos cv hc => ?_⟩
  obtain ⟨c', e, hc'⟩ := h3 pos cv hc
  exact ⟨c', e, by rw [upd_ne (fun z => by rw [z, hs] at hc'; unfold LamX.CodeO at hc'; cases hc')]; exact hc'⟩
theorem DS.put {m c g s : Addr} {cs : List Int} {Tb : List (Addr × Str)} {N : Nat} {H : Hp} {xs ys : List V} (d : DS m c g cs Tb N H) (hs : H s = some (.lst xs)) (sg : s ≠ g) (sc : s ≠ c) : DS m c g cs Tb N (upd H s (.lst ys)) := by
  obtain ⟨n, gs, h1, h2, h3, h4, h5, h6, h7, h8⟩ := d
  exact ⟨n, gs, h1, by rw [upd_ne (ne_of h2 hs (by unfold dm; intro z; cases z))]; exact h2, by rw [upd_ne (Ne.symm sg)]; exact h3, by rw [upd_ne (Ne.symm sc)]; exact h4, tabs_put h5 hs, h6, h7, h8⟩
theorem RowAt.put {CR p s : Addr} {H : Hp} {ws xs ys : List V} (r : RowAt CR H p ws) (hs : H s = some (.lst xs)) : RowAt CR (upd H s (.lst ys)) p ws := by
  obtain ⟨dx, tp, h1, h2⟩ := r
  exact ⟨dx, tp, by rw [upd_ne (ne_of h1 hs (by intro z; cases z))]; exact h1, by rw [upd_ne (ne_of h2 hs (by intro z; cases z))]; exact h2⟩
theorem Rw.put {m g CR p r s : Addr} {ws : List Int} {many : Nat} {H : Hp} {xs ys : List V} (x : Rw m g CR p r ws many H) (hs : H s = some (.lst xs)) (sp : s ≠ p) : Rw m g CR p r ws many (upd H s (.lst ys)) := by
  obtain ⟨h1, h2, h3, h4, h5, h6⟩ := x
  exact ⟨h1, h2, by rw [upd_ne (Ne.symm sp)]; exact h3, h4, h5, h6.put hs⟩
theorem PrL.put {H : Hp} {vs xs ys : List V} {ps : List (Nat × Nat)} {s : Addr} (h : PrL H vs ps) (hs : H s = some (.lst xs)) : PrL (upd H s (.lst ys)) vs ps := h.keep fun a zs q => by
  rw [upd_ne (ne_of q hs (by intro z; cases z))]
  exact q
theorem PrL.kn {m c g : Addr} {cs : List Int} {Tb : List (Addr × Str)} {N : Nat} {H H' : Hp} {vs : List V} {ps : List (Nat × Nat)} (h : PrL H vs ps) (d : DS m c g cs Tb N H) (k : Kn m g H H') : PrL H' vs ps := h.keep fun a xs q => k.at d q rfl
theorem turn_inj {ws : List Int} {many i j x y : Nat} (h : IsRow ws many) (hij : i ≤ j) (hj : j < many) (hxy : x ≤ y) (hy : y < many) (e : turnL ws i j = turnL ws x y) : i = x ∧ j = y := by
  obtain ⟨a1, a2, a3⟩ := turn_ends h hij hj
  obtain ⟨b1, b2, b3⟩ := turn_ends h hxy hy
  rw [e] at a1 a2 a3
  have := b3 i a1
  have := b3 j a2
  have := a3 x b1
  have := a3 y b2
  omega
theorem turn_not {ws : List Int} {many i j : Nat} (h : IsRow ws many) (hij : i ≤ j) (hj : j < many) : turnL ws i j ≠ ws := fun e => by
  have := (turn_ends h hij hj).1
  rw [e] at this
  exact this rfl
section
variable {K : PySem.W.Frag} {C : Kd → Addr} {CR r b : Addr} {H : Hp} {o : HO} {ws : List Int} {many : Nat} {xs : List V} {ps : List (Nat × Nat)} {Q : VK} {E : XK}
end

end Fab
set_option maxHeartbeats 2000000
namespace Fab
open PySem L2 PySem.FabX
open PyProof.Rows (envOfC)
abbrev sIsFig : Stmt := top 31
abbrev sBSign : Stmt := top 28
abbrev sBNum : Stmt := top 29
abbrev sBPl : Stmt := top 30
abbrev sTFrom : Stmt := top 27
abbrev sRdRow : Stmt := top 25
abbrev sRdTurns : Stmt := top 26
local macro_rules | `(tactic| walk_at "s") => `(tactic| simp [tPar, tSeq, tAsg, tOp, tUn, tVar, tC, gName, tCons, tNil, tCB, tCall, rI, rI0, rU, tRet, tDrop, tIfS, tNext, tIf, tTest, tNot, tOr, tAnd, tB, L2.start, CMul, CDiv, rIxF, rLenF, rIntF, sq_lst, sq_tup, tLstF, tTupF, gSub, rCatF, rCatTF, rInF, rNotInF, rNe, rEq, tAndV, tOrV, tNotV, tChain, rTupF, tFldF, tRx, tMake, tSl, tPart, tNoPart, rSlTF, rSlF, tRevTF, gTup, gCons, gNil, rSlS, rIxS])
/-! the texts that the program reads -/
theorem Same.tx {H H1 H2 : Hp} (a : Same H H1) (b : Same H1 H2) : Same H H2 := fun x o h => b _ _ (a _ _ h)
def chAt (z : Str) (p : Nat) : Option Nat := z.cps.toList[p]?
def oneS (c : Nat) : V := .str ⟨#[c]⟩
theorem len_cps (z : Str) : z.cps.toList.length = z.length := by simp [Str.length]
theorem chAt_lt {z : Str} {p c : Nat} (h : chAt z p = some c) : p < z.length := by
  rw [← len_cps]
  exact (List.getElem?_eq_some_iff.mp h).1
theorem atI_ch {z : Str} {p c : Nat} (h : chAt z p = some c) : atI z.cps.toList (p : Int) = some c := by
  have := chAt_lt h
  rw [← len_cps] at this
  unfold atI ixN
  rw [if_pos (by omega), if_pos (by omega)]
  show z.cps.toList[(p : Int).toNat]? = _
  rw [Int.toNat_natCast]
  exact h
/-- one sign of a text, or none -/
theorem cutS_one (z : Str) (p : Nat) : cutS z (some (p : Int)) (some ((p : Int) + 1)) = match chAt z p with | some c => ⟨#[c]⟩ | none => Str.empty := by
  have e : ∀ d (i : Nat), HT.sIx z.length d (some (i : Int)) = min i z.length := fun d i => by
    rw [HT.sIx_nat]
  unfold cutS
  rw [show ((p : Int) + 1) = ((p + 1 : Nat) : Int) by omega, e, e]
  cases h : chAt z p with
  | none =>
    have : z.length ≤ p := by
      rw [← len_cps]
      exact List.getElem?_eq_none_iff.mp h
    rw [Nat.min_eq_right this, Nat.min_eq_right (by omega), Nat.sub_self]
    rfl
  | some c =>
    have hp := chAt_lt h
    rw [Nat.min_eq_left (by omega), Nat.min_eq_left (by omega), show p + 1 - p = 1 by omega]
    obtain ⟨h1, h2⟩ := List.getElem?_eq_some_iff.mp h
    rw [List.drop_eq_getElem_cons h1, h2]
    rfl
section
variable {P : Program} {w : World} {K : PySem.W.Frag} {mg : Str → Option Value} {base : Heap} {C : Kd → Addr}
/-- is there a figure of these? -/
def isIn (o : Option Nat) (S : List Nat) : Bool := match o with | some c => decide (c ∈ S) | none => false
def spIsFig : Sp := fun vs H Q _ => ∃ (z g : Str) (p : Nat), vs = [.str z, .int (p : Nat), .str g] ∧ z.length ≤ 1000 ∧ Q (.bl (isIn (chAt z p) g.cps.toList)) H
theorem scIsFig : FnScope ["text", "place", "figures"] ["text", "place", "figures"] (defScope sIsFig) := ⟨rfl, rfl, rfl, by decide +kernel, rfl, by decide +kernel, by decide +kernel⟩
theorem ok_isfig {f : Addr} {fd : FuncData} (F : Fun K "is_figure" "is_figure" sIsFig f fd) (B : Blt mg) : FnOk P w K mg base CX0 1 f fd ["text", "place", "figures"] spIsFig := by
  refine F.ok scIsFig (fun vs H Q E h => ?_) (fun cdv A outer s H vs Q E hr h => ?_)
  · obtain ⟨z, g, p, rfl, _⟩ := h
    rfl
  · obtain ⟨z, g, p, rfl, hz, k⟩ := h
    refine ⟨_, (pss_one (ps_ret (pe_and (pe_cmpR op_lt (pv 1) (pe_callB call_len_str (by rfl) B.len (by decide +kernel) (pa_cons (pv 0) pa_nil)) (nomark _)) (pe_one (pe_cmpR op_in_sign (pe_ix ix_str (pv 0) (pv 1) (fun _ _ => rfl)) (pv 2) (by rfl)))))), ?_⟩
    walk_at "s"
    refine ⟨sz_le (by omega), ?_⟩
    by_cases hp : p < z.length
    · rw [if_pos hp]
      obtain ⟨c, hc⟩ : ∃ c, chAt z p = some c := ⟨_, List.getElem?_eq_getElem (by rw [len_cps]; exact hp)⟩
      refine ⟨sz_le (by omega), c, atI_ch hc, ?_⟩
      rw [hc] at k
      simpa [isIn] using k
    · rw [if_neg hp]
      have : chAt z p = none := List.getElem?_eq_none (by rw [len_cps]; omega)
      rw [this] at k
      exact k
theorem inV_cut {z : Str} {p : Nat} {S : List Nat} : inV (V.str (cutS z (some (p : Int)) (some ((p : Int) + 1)))) (S.map oneS) = isIn (chAt z p) S := by
  rw [cutS_one]
  cases chAt z p with
  | none =>
    unfold inV isIn
    rw [List.any_eq_false]
    intro y hy
    obtain ⟨c, _, rfl⟩ := List.mem_map.mp hy
    unfold oneS
    show ¬ (eqV _ _ = true)
    simp [eqV, Str.empty]
  | some c =>
    rw [Bool.eq_iff_iff]
    unfold inV isIn
    simp [List.any_eq_true, oneS, eqV]
def spBSign (C : Kd → Addr) : Sp := fun vs H Q E => ∃ (z : Str) (p : Nat) (t : Addr) (S : List Nat), vs = [.str z, .int (p : Nat), .ref t] ∧ z.length ≤ 1000 ∧ H t = some (.tup (S.map oneS)) ∧
  (isIn (chAt z p) S = true → Q (.int ((p + 1 : Nat) : Int)) H) ∧ (isIn (chAt z p) S = false → ∀ d H', Same H H' → H' d = some (.xd [("place", .int (p : Nat))]) → E (.ref (C .text)) (some d) H')
theorem scBSign : FnScope ["text", "place", "signs"] ["text", "place", "signs"] (defScope sBSign) := ⟨rfl, rfl, rfl, by decide +kernel, rfl, by decide +kernel, by decide +kernel⟩
theorem ok_bsign {f : Addr} {fd : FuncData} (F : Fun K "behind_sign" "behind_sign" sBSign f fd) (B : Blt mg) (XB : ∀ k, hasK k = true → XDs P w K mg base C k) : FnOk P w K mg base (L2.CX P w) 3 f fd ["text", "place", "signs"] (spBSign C) := by
  refine F.okX scBSign (fun vs H Q E h => ?_) (fun cdv A outer s H vs Q E hr h => ⟨_, (pss_cons (ps_if (pt_cmpR notInF (pe_slice sl_str (pv 0) (po_some (pv 1)) (po_some (pe_op op_add (pv 1) pe_int))) (pv 2) (by rfl)) (pss_one (ps_raiseX (k := .text) rfl (XB .text (by decide)) (hr.mono (by decide)) (takes_of rfl rfl rfl rfl) (pv 1) (by rfl))) pss_nil)
      (pss_one (ps_ret (pe_op op_add (pv 1) pe_int)))), ?_⟩)
  · obtain ⟨z, p, t, S, rfl, _⟩ := h
    rfl
  · obtain ⟨z, p, t, S, rfl, hz, ht, k1, k2⟩ := h
    walk_at "s"
    refine ⟨sz_le (by omega), _, ht, _, rfl, rfl, fun x hx => ?_, ?_⟩
    · obtain ⟨c, _, rfl⟩ := List.mem_map.mp hx
      rfl
    rw [inV_cut]
    cases hi : isIn (chAt z p) S with
    | true => exact .inl ⟨rfl, k1 hi⟩
    | false => exact .inr ⟨rfl, fun d hd => k2 hi d _ (Same.new hd) upd_same⟩
def figs1 : Str := cutS "0123456789" (some 1) none
def spBNum (C : Kd → Addr) : Sp := fun vs H Q E => ∃ (z : Str) (p : Nat), vs = [.str z, .int (p : Nat)] ∧ z.length ≤ 1000 ∧
  (isIn (chAt z p) figs1.cps.toList = true → Q (.int (((if isIn (chAt z (p + 1)) ("0123456789" : Str).cps.toList = true then p + 2 else p + 1) : Nat) : Int)) H) ∧
  (isIn (chAt z p) figs1.cps.toList = false → ∀ d H', Same H H' → H' d = some (.xd [("place", .int (p : Nat))]) → E (.ref (C .text)) (some d) H')
theorem scBNum : FnScope ["text", "place"] ["text", "place"] (defScope sBNum) := ⟨rfl, rfl, rfl, by decide +kernel, rfl, by decide +kernel, by decide +kernel⟩
theorem ok_bnum {f fI : Addr} {fd fdI : FuncData} {tF : Tok} (F : Fun K "behind_number" "behind_number" sBNum f fd) (B : Blt mg) (XB : ∀ k, hasK k = true → XDs P w K mg base C k) (hF : mg "FIGURES" = some (.str "0123456789" tF)) (cIsFig : Dn P w K mg base 1 "is_figure" fI fdI ["text", "place", "figures"] spIsFig) : FnOk P w K mg base (L2.CX P w) 3 f fd ["text", "place"] (spBNum C) := by
  refine F.okX scBNum (fun vs H Q E h => ?_) (fun cdv A outer s H vs Q E hr h => ⟨_, (pss_cons (ps_if (pt_not (pt_val (pe_call cIsFig.ok (hr.mono (by decide)) rfl cIsFig.mgf cIsFig.kp cIsFig.bi .nil pass0 (pa_cons (pv 0) (pa_cons (pv 1) (pa_cons (pe_slice sl_str (pe_glob (v := .str "0123456789") (by rfl) hF ⟨_, rfl⟩) (po_some pe_int) po_none) pa_nil)))))) (pss_one (ps_raiseX (k := .text) rfl (XB .text (by decide)) (hr.mono (by decide)) (takes_of rfl rfl rfl rfl) (pv 1) (by rfl))) pss_nil)
      (pss_one (ps_ret (pe_ifExp (pt_val (pe_call cIsFig.ok (hr.mono (by decide)) rfl cIsFig.mgf cIsFig.kp cIsFig.bi .nil pass0 (pa_cons (pv 0) (pa_cons (pe_op op_add (pv 1) pe_int) (pa_cons (pe_glob (v := .str "0123456789") (by rfl) hF ⟨_, rfl⟩) pa_nil))))) (pe_op op_add (pv 1) pe_int) (pe_op op_add (pv 1) pe_int))))), ?_⟩)
  · obtain ⟨z, p, rfl, _⟩ := h
    rfl
  · obtain ⟨z, p, rfl, hz, k1, k2⟩ := h
    walk_at "s"
    refine ⟨sz_le (by decide), z, _, p, rfl, hz, ?_⟩
    cases h1 : isIn (chAt z p) figs1.cps.toList with
    | false => exact .inl ⟨congrArg V.bl h1, fun d hd => k2 h1 d _ (Same.new hd) upd_same⟩
    | true =>
      have k1' := k1 h1
      refine .inr ⟨congrArg V.bl h1, z, _, p + 1, rfl, hz, ?_⟩
      cases h2 : isIn (chAt z (p + 1)) ("0123456789" : Str).cps.toList with
      | false =>
        rw [h2] at k1'
        exact .inl ⟨rfl, k1'⟩
      | true =>
        rw [h2] at k1'
        exact .inr ⟨rfl, k1'⟩
/-- where a waggon's number ends; a place's -/
def numEnd (z : Str) (p : Nat) : Option Nat := if isIn (chAt z p) figs1.cps.toList = true then some (if isIn (chAt z (p + 1)) ("0123456789" : Str).cps.toList = true then p + 2 else p + 1) else none
def placeEnd (z : Str) (p : Nat) : Option Nat := if isIn (chAt z p) [48] = true then some (p + 1) else numEnd z p
def spBPl (C : Kd → Addr) : Sp := fun vs H Q E => ∃ (z : Str) (p : Nat), vs = [.str z, .int (p : Nat)] ∧ z.length ≤ 1000 ∧
  (∀ e, placeEnd z p = some e → Q (.int (e : Nat)) H) ∧ (placeEnd z p = none → ∀ d H', Same H H' → H' d = some (.xd [("place", .int (p : Nat))]) → E (.ref (C .text)) (some d) H')
theorem scBPl : FnScope ["text", "place"] ["text", "place"] (defScope sBPl) := ⟨rfl, rfl, rfl, by decide +kernel, rfl, by decide +kernel, by decide +kernel⟩
theorem ok_bpl {f fN : Addr} {fd fdN : FuncData} (F : Fun K "behind_place" "behind_place" sBPl f fd) (B : Blt mg) (cBNum : DnX P w K mg base 3 "behind_number" fN fdN ["text", "place"] (spBNum C)) : FnOk P w K mg base (L2.CX P w) 4 f fd ["text", "place"] (spBPl C) := by
  refine F.okX scBPl (fun vs H Q E h => ?_) (fun cdv A outer s H vs Q E hr h => ⟨_, (pss_one (ps_ret (pe_ifExp (pt_cmpR op_eq (pe_slice sl_str (pv 0) (po_some (pv 1)) (po_some (pe_op op_add (pv 1) pe_int))) pe_str (nomark _)) (pe_op op_add (pv 1) pe_int) (pe_call (E := E) cBNum.ok (hr.mono (by decide)) rfl cBNum.mgf cBNum.kp cBNum.bi .nil (passes_call (takes_of rfl rfl rfl rfl) (fun _ _ _ _ h => h)) (pa_cons (pv 0) (pa_cons (pv 1) pa_nil)))))), ?_⟩)
  · obtain ⟨z, p, rfl, _⟩ := h
    rfl
  · obtain ⟨z, p, rfl, hz, k1, k2⟩ := h
    walk_at "s"
    refine ⟨sz_le (by omega), rfl, ?_⟩
    have h0 : (cutS z (some (p : Int)) (some ((p : Int) + 1)) = Str.ofString "0") ↔ isIn (chAt z p) [48] = true := by
      rw [cutS_one]
      cases chAt z p with
      | none => exact ⟨fun h => absurd h (by decide), fun h => nomatch h⟩
      | some c =>
        rw [show (Str.ofString "0") = ⟨#[48]⟩ from rfl]
        simp [isIn]
    unfold placeEnd at k1 k2
    by_cases hh : isIn (chAt z p) [48] = true
    · rw [if_pos (h0.mpr hh)]
      rw [if_pos hh] at k1
      exact k1 _ rfl
    · rw [if_neg (fun z => hh (h0.mp z))]
      rw [if_neg hh] at k1 k2
      unfold numEnd at k1 k2
      refine ⟨z, p, rfl, hz, fun h1 => ?_, fun h1 => ?_⟩
      · rw [if_pos h1] at k1
        exact k1 _ rfl
      · rw [if_neg (by rw [h1]; decide)] at k2
        exact k2 rfl
/-- what a text of figures says -/
def numVal (z : Str) (p e : Nat) : Nat := ((z.cps.toList.drop p).take (e - p)).foldl (fun n c => 10 * n + (c - 48)) 0
theorem isIn_some {o : Option Nat} {S : List Nat} (h : isIn o S = true) : ∃ c, o = some c ∧ c ∈ S := by
  cases o with
  | none => cases h
  | some c => exact ⟨c, rfl, of_decide_eq_true h⟩
theorem fig_all : ∀ c ∈ ("0123456789" : Str).cps.toList, 48 ≤ c ∧ c ≤ 57 := by decide
theorem fig1_all : ∀ c ∈ figs1.cps.toList, 48 ≤ c ∧ c ≤ 57 := by decide
theorem it1 : ∀ k : Fin 10, PySem.intText? ⟨#[k.val + 48]⟩ = some ((k.val : Nat) : Int) := by decide +kernel
theorem it2 : ∀ j k : Fin 10, PySem.intText? ⟨#[j.val + 48, k.val + 48]⟩ = some ((10 * j.val + k.val : Nat) : Int) := by decide +kernel
theorem drop_ch {z : Str} {p c : Nat} (h : chAt z p = some c) : z.cps.toList.drop p = c :: z.cps.toList.drop (p + 1) := by
  obtain ⟨h1, h2⟩ := List.getElem?_eq_some_iff.mp h
  rw [List.drop_eq_getElem_cons h1, h2]
theorem cut_num (z : Str) (p k : Nat) (h : p + k ≤ z.length) : cutS z (some (p : Int)) (some ((p + k : Nat) : Int)) = ⟨((z.cps.toList.drop p).take k).toArray⟩ := by
  have e : ∀ d (i : Nat), HT.sIx z.length d (some (i : Int)) = min i z.length := fun d i => by
    rw [HT.sIx_nat]
  unfold cutS
  rw [e, e, Nat.min_eq_left (a := p) (b := z.length) (by omega), Nat.min_eq_left (a := p + k) (b := z.length) h, show p + k - p = k by omega]
theorem int_1 {z : Str} {p c : Nat} (h : chAt z p = some c) (h1 : 48 ≤ c) (h2 : c ≤ 57) : PySem.intText? (cutS z (some (p : Int)) (some ((p + 1 : Nat) : Int))) = some ((numVal z p (p + 1) : Nat) : Int) ∧ (cutS z (some (p : Int)) (some ((p + 1 : Nat) : Int))).length ≤ 640 := by
  have hp := chAt_lt h
  rw [cut_num z p 1 (by omega)]
  unfold numVal
  rw [show p + 1 - p = 1 by omega, drop_ch h]
  obtain ⟨k, rfl⟩ : ∃ k : Fin 10, c = k.val + 48 := ⟨⟨c - 48, by omega⟩, by simp; omega⟩
  refine ⟨(it1 k).trans ?_, by simp [Str.length]⟩
  simp
theorem int_2 {z : Str} {p c c2 : Nat} (h : chAt z p = some c) (h1 : 48 ≤ c) (h2 : c ≤ 57) (h' : chAt z (p + 1) = some c2) (h3 : 48 ≤ c2) (h4 : c2 ≤ 57) : PySem.intText? (cutS z (some (p : Int)) (some ((p + 2 : Nat) : Int))) = some ((numVal z p (p + 2) : Nat) : Int) ∧ (cutS z (some (p : Int)) (some ((p + 2 : Nat) : Int))).length ≤ 640 := by
  have hp := chAt_lt h'
  rw [cut_num z p 2 (by omega)]
  unfold numVal
  rw [show p + 2 - p = 2 by omega, drop_ch h, drop_ch h']
  obtain ⟨k, rfl⟩ : ∃ k : Fin 10, c = k.val + 48 := ⟨⟨c - 48, by omega⟩, by simp; omega⟩
  obtain ⟨j, rfl⟩ : ∃ k : Fin 10, c2 = k.val + 48 := ⟨⟨c2 - 48, by omega⟩, by simp; omega⟩
  refine ⟨(it2 k j).trans ?_, by simp [Str.length]⟩
  simp
theorem int_num {z : Str} {p e : Nat} (h : numEnd z p = some e) : PySem.intText? (cutS z (some (p : Int)) (some (e : Int))) = some ((numVal z p e : Nat) : Int) ∧ (cutS z (some (p : Int)) (some (e : Int))).length ≤ 640 := by
  unfold numEnd at h
  split at h
  · rename_i h1
    obtain ⟨c, hc, m⟩ := isIn_some h1
    have b := fig1_all c m
    split at h
    · rename_i h2
      obtain ⟨c2, hc2, m2⟩ := isIn_some h2
      have b2 := fig_all c2 m2
      cases h
      exact int_2 hc b.1 b.2 hc2 b2.1 b2.2
    · cases h
      exact int_1 hc b.1 b.2
  · cases h
theorem int_place {z : Str} {p e : Nat} (h : placeEnd z p = some e) : PySem.intText? (cutS z (some (p : Int)) (some (e : Int))) = some ((numVal z p e : Nat) : Int) ∧ (cutS z (some (p : Int)) (some (e : Int))).length ≤ 640 := by
  unfold placeEnd at h
  split at h
  · rename_i h1
    obtain ⟨c, hc, m⟩ := isIn_some h1
    rw [List.mem_singleton] at m
    subst m
    cases h
    exact int_1 hc (by decide) (by decide)
  · exact int_num h
def spTFrom (C : Kd → Addr) : Sp := fun vs H Q E => ∃ (z : Str) (p : Nat), vs = [.str z, .int (p : Nat)] ∧ z.length ≤ 1000 ∧
  (∀ m e, placeEnd z p = some m → isIn (chAt z m) [45] = true → placeEnd z (m + 1) = some e → numVal z p m ≤ numVal z (m + 1) e → ∀ q t H', Same H H' → H' q = some (.tup [.int (numVal z p m : Nat), .int (numVal z (m + 1) e : Nat)]) → H' t = some (.tup [.ref q, .int (e : Nat)]) → Q (.ref t) H') ∧
  (∀ at_ : Nat, (placeEnd z p = none ∧ at_ = p ∨ ∃ m, placeEnd z p = some m ∧ (isIn (chAt z m) [45] = false ∧ at_ = m ∨ isIn (chAt z m) [45] = true ∧ (placeEnd z (m + 1) = none ∧ at_ = m + 1 ∨ ∃ e, placeEnd z (m + 1) = some e ∧ numVal z (m + 1) e < numVal z p m ∧ at_ = e))) →
    ∀ d H', Same H H' → H' d = some (.xd [("place", .int (at_ : Nat))]) → E (.ref (C .text)) (some d) H')
theorem scTFrom : FnScope ["text", "place", "middle", "start", "end", "first", "last"] ["text", "place"] (defScope sTFrom) := ⟨rfl, rfl, rfl, by decide +kernel, rfl, by decide +kernel, by decide +kernel⟩
theorem ok_tfrom {f fP fS : Addr} {fd fdP fdS : FuncData} (F : Fun K "turning_from" "turning_from" sTFrom f fd) (B : Blt mg) (XB : ∀ k, hasK k = true → XDs P w K mg base C k) (cBPl : DnX P w K mg base 4 "behind_place" fP fdP ["text", "place"] (spBPl C)) (cBSign : DnX P w K mg base 3 "behind_sign" fS fdS ["text", "place", "signs"] (spBSign C)) : FnOk P w K mg base (L2.CX P w) 5 f fd ["text", "place"] (spTFrom C) := by
  refine F.okX scTFrom (fun vs H Q E h => ?_) (fun cdv A outer s H vs Q E hr h => ⟨_, (pss_cons (ps_set (i := 2) scTFrom.nd rfl (by first | exact Or.inl rfl | exact Or.inr rfl) (pe_call (E := E) cBPl.ok (hr.mono (by decide)) rfl cBPl.mgf cBPl.kp cBPl.bi .nil (passes_call (takes_of rfl rfl rfl rfl) (fun _ _ _ _ h => h)) (pa_cons (pv 0) (pa_cons (pv 1) pa_nil))))
      (pss_cons (ps_set (i := 3) scTFrom.nd rfl (by first | exact Or.inl rfl | exact Or.inr rfl) (pe_call (E := E) cBSign.ok (hr.mono (by decide)) rfl cBSign.mgf cBSign.kp cBSign.bi .nil (passes_call (takes_of rfl rfl rfl rfl) (fun _ _ _ _ h => h)) (pa_cons (pv 0) (pa_cons (pv 2) (pa_cons (pe_tupF (pa_cons pe_str pa_nil)) pa_nil)))))
      (pss_cons (ps_set (i := 4) scTFrom.nd rfl (by first | exact Or.inl rfl | exact Or.inr rfl) (pe_call (E := E) cBPl.ok (hr.mono (by decide)) rfl cBPl.mgf cBPl.kp cBPl.bi .nil (passes_call (takes_of rfl rfl rfl rfl) (fun _ _ _ _ h => h)) (pa_cons (pv 0) (pa_cons (pv 3) pa_nil))))
      (pss_cons (ps_set (i := 5) scTFrom.nd rfl (by first | exact Or.inl rfl | exact Or.inr rfl) (pe_callTy call_int_str (by rfl) B.int (by decide +kernel) (pa_cons (pe_slice sl_str (pv 0) (po_some (pv 1)) (po_some (pv 2))) pa_nil)))
      (pss_cons (ps_set (i := 6) scTFrom.nd rfl (by first | exact Or.inl rfl | exact Or.inr rfl) (pe_callTy call_int_str (by rfl) B.int (by decide +kernel) (pa_cons (pe_slice sl_str (pv 0) (po_some (pv 3)) (po_some (pv 4))) pa_nil)))
      (pss_cons (ps_if (pt_cmpR op_lt (pv 6) (pv 5) (nomark _)) (pss_one (ps_raiseX (k := .text) rfl (XB .text (by decide)) (hr.mono (by decide)) (takes_of rfl rfl rfl rfl) (pv 4) (by rfl))) pss_nil)
      (pss_one (ps_ret (pe_tupF (pa_cons (pe_tupF (pa_cons (pv 5) (pa_cons (pv 6) pa_nil))) (pa_cons (pv 4) pa_nil))))))))))), ?_⟩)
  · obtain ⟨z, p, rfl, _⟩ := h
    rfl
  · obtain ⟨z, p, rfl, hz, k1, k2⟩ := h
    walk_at "s"
    refine ⟨z, p, rfl, hz, fun m hm => ?_, fun hn d H' s hd => k2 p (.inl ⟨hn, rfl⟩) d H' s hd⟩
    refine ⟨sz_le (by decide), view_tup VW.start fun t A1 v1 => ⟨z, m, t, [45], rfl, hz, v1.tu _ List.mem_cons_self, fun hy => ?_, fun hn d H' s hd => k2 m (.inr ⟨m, hm, .inl ⟨hn, rfl⟩⟩) d H' (Same.tx v1.fr s) hd⟩⟩
    refine ⟨z, m + 1, rfl, hz, fun e he => ?_, fun hn d H' s hd => k2 (m + 1) (.inr ⟨m, hm, .inr ⟨hy, .inl ⟨hn, rfl⟩⟩⟩) d H' (Same.tx v1.fr s) hd⟩
    obtain ⟨i1, i2⟩ := int_place hm
    obtain ⟨j1, j2⟩ := int_place he
    refine ⟨_, rfl, sz_le (by omega), _, i1, i2, _, rfl, _, rfl, sz_le (by omega), _, j1, j2, ?_⟩
    split
    · rename_i hlt
      exact fun d hd => k2 e (.inr ⟨m, hm, .inr ⟨hy, .inr ⟨e, he, by omega, rfl⟩⟩⟩) d _ (Same.tx v1.fr (Same.new hd)) upd_same
    · rename_i hlt
      exact ⟨sz_le (by decide), view_tup (VW.start (H := A1)) fun q A2 v2 => ⟨sz_le (by decide), view_tup v2 fun t2 A3 v3 => k1 m e hm hy he (by omega) q t2 A3 (Same.tx v1.fr v3.fr) (v3.tu (q, _) (.tail _ (.head _))) (v3.tu _ List.mem_cons_self)⟩⟩
/-- the turnings that a text tells from a place on, or where it is none -/
def rdP (z : Str) (p : Nat) (first : Bool) : Except Nat Nat := if first = true then .ok p else if isIn (chAt z p) [44] = true then (if isIn (chAt z (p + 1)) [32] = true then .ok (p + 2) else .error (p + 1)) else .error p
def rdO (z : Str) (p : Nat) : Except Nat ((Nat × Nat) × Nat) := match placeEnd z p with
  | none => .error p
  | some m => if isIn (chAt z m) [45] = true then (match placeEnd z (m + 1) with
    | none => .error (m + 1)
    | some e => if numVal z (m + 1) e < numVal z p m then .error e else .ok ((numVal z p m, numVal z (m + 1) e), e)) else .error m
def rdT (z : Str) : Nat → Nat → List (Nat × Nat) → Except Nat (List (Nat × Nat))
  | 0, _, acc => .ok acc
  | n + 1, p, acc => if p < z.length then (match rdP z p acc.isEmpty with
    | .error a => .error a
    | .ok p1 => match rdO z p1 with
      | .error a => .error a
      | .ok (t, e) => rdT z n e (acc ++ [t])) else .ok acc
theorem numEnd_lt {z : Str} {p e : Nat} (h : numEnd z p = some e) : p < e ∧ e ≤ z.length := by
  unfold numEnd at h
  split at h
  · rename_i h1
    obtain ⟨c, hc, _⟩ := isIn_some h1
    have := chAt_lt hc
    split at h
    · rename_i h2
      obtain ⟨c2, hc2, _⟩ := isIn_some h2
      have := chAt_lt hc2
      cases h
      omega
    · cases h
      omega
  · cases h
theorem placeEnd_lt {z : Str} {p e : Nat} (h : placeEnd z p = some e) : p < e ∧ e ≤ z.length := by
  unfold placeEnd at h
  split at h
  · rename_i h1
    obtain ⟨c, hc, _⟩ := isIn_some h1
    have := chAt_lt hc
    cases h
    omega
  · exact numEnd_lt h
theorem rdO_lt {z : Str} {p e : Nat} {t : Nat × Nat} (h : rdO z p = .ok (t, e)) : p < e ∧ e ≤ z.length := by
  unfold rdO at h
  split at h
  · cases h
  · rename_i m hm
    have a := placeEnd_lt hm
    split at h
    · split at h
      · cases h
      · rename_i e' he
        have b := placeEnd_lt he
        split at h
        · cases h
        · cases h
          omega
    · cases h
theorem rdP_le {z : Str} {p p1 : Nat} {b : Bool} (h : rdP z p b = .ok p1) : p ≤ p1 := by
  unfold rdP at h
  split at h
  · cases h
    omega
  · split at h
    · split at h
      · cases h
        omega
      · cases h
    · cases h
/-- one turning of a text -/
theorem tfrom_at {z : Str} {p : Nat} {H : Hp} {Q : VK} {E : XK} (hz : z.length ≤ 1000) (k : match rdO z p with
    | .ok (t, e) => ∀ q r H', Same H H' → H' q = some (.tup [.int (t.1 : Nat), .int (t.2 : Nat)]) → H' r = some (.tup [.ref q, .int (e : Nat)]) → Q (.ref r) H'
    | .error a => ∀ d H', Same H H' → H' d = some (.xd [("place", .int (a : Nat))]) → E (.ref (C .text)) (some d) H') : spTFrom C [.str z, .int (p : Nat)] H Q E := by
  refine ⟨z, p, rfl, hz, fun m e hm hy he hle => ?_, fun a ha => ?_⟩
  · unfold rdO at k
    simp only [hm, hy, he, if_true, if_neg (Nat.not_lt.mpr hle)] at k
    exact k
  · have e : rdO z p = .error a := by
      unfold rdO
      rcases ha with ⟨h1, rfl⟩ | ⟨m, h1, ⟨h2, rfl⟩ | ⟨h2, ⟨h3, rfl⟩ | ⟨e, h3, h4, rfl⟩⟩⟩
      · simp only [h1]
      · simp only [h1, h2]
        rfl
      · simp only [h1, h2, h3, if_true]
      · simp only [h1, h2, h3, if_true, if_pos h4]
    rw [e] at k
    exact k
def spRdTurns (K : PySem.W.Frag) (C : Kd → Addr) : Sp := fun vs H Q E => ∃ x : V, vs = [x] ∧
  ((∃ z : Str, x = .str z ∧ z.length ≤ 900 ∧ match rdT z (z.length + 1) 0 [] with
    | .ok ps => ∀ t xs H', Same H H' → H' t = some (.tup xs) → PrL H' xs ps → Q (.ref t) H'
    | .error a => ∀ d H', Same H H' → H' d = some (.xd [("place", .int (a : Nat))]) → E (.ref (C .text)) (some d) H') ∨
  (∃ t : Value, TyX K H x t ∧ PySem.W.kitOne K t (.type "str") = some false) ∧ ∀ d H', Same H H' → H' d = some (.xd [("place", .non)]) → E (.ref (C .text)) (some d) H')
theorem scRdTurns : FnScope ["text", "turnings", "place", "turning"] ["text"] (defScope sRdTurns) := ⟨rfl, rfl, rfl, by decide +kernel, rfl, by decide +kernel, by decide +kernel⟩
theorem ok_rdturns {f fT fS : Addr} {fd fdT fdS : FuncData} (F : Fun K "read_turns" "read_turns" sRdTurns f fd) (B : Blt mg) (XB : ∀ k, hasK k = true → XDs P w K mg base C k) (cTFrom : DnX P w K mg base 5 "turning_from" fT fdT ["text", "place"] (spTFrom C)) (cBSign : DnX P w K mg base 3 "behind_sign" fS fdS ["text", "place", "signs"] (spBSign C)) : FnOk P w K mg base (L2.CX P w) 6 f fd ["text"] (spRdTurns K C) := by
  refine F.okX scRdTurns (fun vs H Q E h => ?_) (fun cdv A outer s H vs Q E hr h => ⟨_, (pss_cons (ps_if (pt_not (pt_val (pe_callB call_isi (by rfl) B.isinstance (by decide +kernel) (pa_cons (pv 0) (pa_cons (pe_bltn (v := .ty "str") (by rfl) B.str (by decide +kernel) rfl) pa_nil))))) (pss_one (ps_raiseX (k := .text) rfl (XB .text (by decide)) (hr.mono (by decide)) (takes_of rfl rfl rfl rfl) pe_non (by rfl))) pss_nil)
      (pss_cons (ps_set (i := 1) scRdTurns.nd rfl (by first | exact Or.inl rfl | exact Or.inr rfl) (pe_lstF pa_nil))
      (pss_cons (ps_set (i := 2) scRdTurns.nd rfl (by first | exact Or.inl rfl | exact Or.inr rfl) pe_int)
      (pss_cons (ps_while (passes_of rfl) (pt_cmpR op_lt (pv 2) (pe_callB call_len_str (by rfl) B.len (by decide +kernel) (pa_cons (pv 0) pa_nil)) (nomark _)) (pss_cons (ps_if (pt_truth (pv 1) (fun _ => rfl)) (pss_one (ps_set (i := 2) scRdTurns.nd rfl (by first | exact Or.inl rfl | exact Or.inr rfl) (pe_call (E := E) cBSign.ok (hr.mono (by decide)) rfl cBSign.mgf cBSign.kp cBSign.bi .nil (passes_call (takes_of rfl rfl rfl rfl) (fun _ _ _ _ h => h)) (pa_cons (pv 0) (pa_cons (pe_call (E := E) cBSign.ok (hr.mono (by decide)) rfl cBSign.mgf cBSign.kp cBSign.bi .nil (passes_call (takes_of rfl rfl rfl rfl) (fun _ _ _ _ h => h)) (pa_cons (pv 0) (pa_cons (pv 2) (pa_cons (pe_tupF (pa_cons pe_str pa_nil)) pa_nil)))) (pa_cons (pe_tupF (pa_cons pe_str pa_nil)) pa_nil)))))) pss_nil)
      (pss_cons (ps_asg (pe_call (E := E) cTFrom.ok (hr.mono (by decide)) rfl cTFrom.mgf cTFrom.kp cTFrom.bi .nil (passes_call (takes_of rfl rfl rfl rfl) (fun _ _ _ _ h => h)) (pa_cons (pv 0) (pa_cons (pv 2) pa_nil))) (pg_tup (by rfl) (pgs_cons (pg_name (i := 3) scRdTurns.nd rfl (by first | exact Or.inl rfl | exact Or.inr rfl)) (pgs_cons (pg_name (i := 2) scRdTurns.nd rfl (by first | exact Or.inl rfl | exact Or.inr rfl)) pgs_nil))))
      (pss_one (ps_expr (pe_lm PySem.F.slot_list_append PySem.F.type_list_append appF (pv 1) (pa_cons (pv 3) pa_nil)))))))
      (pss_one (ps_ret (pe_callTy tupF (by rfl) B.tuple (by decide +kernel) (pa_cons (pv 1) pa_nil)))))))), ?_⟩)
  · obtain ⟨x, rfl, _⟩ := h
    rfl
  · obtain ⟨x, rfl, h⟩ := h
    rcases h with ⟨z, rfl, hz, h⟩ | ⟨⟨t, ht, hk⟩, h⟩
    · refine seq_nx (fun σ' H' => σ' = [some (.str z), none, none, none] ∧ H' = H) (fun Z hZ => ?_) ?_
      · walk_at "s"
        exact ⟨.str z, .ty "str", .type "str", .type "str", true, rfl, .ty _, .base (.str _), kit_ty (by decide +kernel), .inr ⟨rfl, hZ _ _ ⟨rfl, rfl⟩⟩⟩
      rintro σ0 H0 ⟨rfl, rfl⟩
      refine seq_nx (fun σ' H' => ∃ tl : Addr, σ' = [some (.str z), some (.ref tl), none, none] ∧ H0 tl = none ∧ Same H0 H' ∧ H' tl = some (.lst [])) (fun Z hZ => ?_) ?_
      · walk_at "s"
        exact view_new (VW.start (H := H0)) fun tl A1 v1 => hZ _ _ ⟨tl, rfl, v1.own _ List.mem_cons_self, v1.fr, v1.facts.1⟩
      rintro σ1 H1 ⟨tl, rfl, nl, s1, hl1⟩
      refine seq_nx (fun σ' H' => σ' = [some (.str z), some (.ref tl), some (.int 0), none] ∧ H' = H1) (fun Z hZ => ?_) ?_
      · walk_at "s"
        exact hZ _ _ ⟨rfl, rfl⟩
      rintro σ2 H2 ⟨rfl, rfl⟩
      refine seq_nx (fun σ' H' => ∃ (p : Nat) (xs : List V) (ps : List (Nat × Nat)) (u3 : Option V), σ' = [some (.str z), some (.ref tl), some (.int (p : Nat)), u3] ∧ Same H0 H' ∧ H' tl = some (.lst xs) ∧ PrL H' xs ps ∧ xs.length ≤ p ∧ rdT z (z.length + 1) 0 [] = .ok ps) (fun Z hZ => ?_) ?_
      · refine ⟨fun n σ H' => ∃ (p : Nat) (xs : List V) (ps : List (Nat × Nat)) (u3 : Option V), σ = [some (.str z), some (.ref tl), some (.int (p : Nat)), u3] ∧ Same H0 H' ∧ H' tl = some (.lst xs) ∧ PrL H' xs ps ∧ xs.length ≤ p ∧ p ≤ z.length ∧ z.length < n + p ∧ rdT z n p ps = rdT z (z.length + 1) 0 [], ⟨z.length + 1, 0, [], [], none, rfl, s1, hl1, .nil, Nat.le_refl _, Nat.zero_le _, by omega, rfl⟩, ?_⟩
        rintro n σ H' ⟨p, xs, ps, u3, rfl, s', hl, hP, hxp, hpz, hn, hR⟩
        obtain ⟨n, rfl⟩ : ∃ k, n = k + 1 := ⟨n - 1, by omega⟩
        have er : ∀ a, rdT z (n + 1) p ps = .error a → ∀ d H'', Same H0 H'' → H'' d = some (.xd [("place", .int (a : Nat))]) → E (.ref (C .text)) (some d) H'' := fun a ha => by
          rw [← hR, ha] at h
          exact h
        have eP : ps.isEmpty = xs.isEmpty := by
          have := hP.len
          cases xs <;> cases ps <;> first | rfl | simp at this
        walk_at "s"
        refine ⟨sz_le (by omega), ?_⟩
        by_cases hp : p < z.length
        · rw [if_pos hp]
          obtain ⟨N, hN1, hN2⟩ : ∃ N : St → Hp → Prop, (∀ σ' H', N σ' H' → ∃ m', m' < n + 1 ∧ ∃ p, (∃ x, σ' = [some (.str z), some (.ref tl), some (.int (p : Nat)), x]) ∧ Same H0 H' ∧ ∃ x, H' tl = some (.lst x) ∧ ∃ x_1, PrL H' x x_1 ∧ x.length ≤ p ∧ p ≤ z.length ∧ z.length < m' + p ∧ rdT z m' p x_1 = rdT z (z.length + 1) 0 []) ∧ ∀ σ' H', (∃ m', m' < n + 1 ∧ ∃ p, (∃ x, σ' = [some (.str z), some (.ref tl), some (.int (p : Nat)), x]) ∧ Same H0 H' ∧ ∃ x, H' tl = some (.lst x) ∧ ∃ x_1, PrL H' x x_1 ∧ x.length ≤ p ∧ p ≤ z.length ∧ z.length < m' + p ∧ rdT z m' p x_1 = rdT z (z.length + 1) 0 []) → N σ' H' := ⟨_, fun _ _ h => h, fun _ _ h => h⟩
          refine ⟨N, hN1, ?_⟩
          have fin : ∀ (t : Nat × Nat) (e : Nat) (q : Addr) (B : Hp), Same H' B → B q = some (.tup [.int (t.1 : Nat), .int (t.2 : Nat)]) → p < e → e ≤ z.length → rdT z n e (ps ++ [t]) = rdT z (z.length + 1) 0 [] → tLM rAppF (tVar 1) (tCons (tVar 3) tNil) [some (.str z), some (.ref tl), some (.int (e : Nat)), some (.ref q)] B fun _ H1 => N [some (.str z), some (.ref tl), some (.int (e : Nat)), some (.ref q)] H1 := fun t e q B sB hq he1 he2 hR' => by
            have hlB := sB _ _ hl
            unfold tLM rAppF
            walk_at "s"
            refine ⟨⟨_, hlB⟩, _, hlB, sz_lt (by omega), hN2 _ _ ⟨n, by omega, e, ⟨_, rfl⟩, fun b o hb => ?_, _, upd_same, ps ++ [t], ((hP.same sB).snoc (i := t.1) (j := t.2) hq).put hlB, by simp; omega, he2, by omega, hR'⟩⟩
            rw [upd_ne (ne_of_none hb nl)]
            exact sB _ _ (s' _ _ hb)
          have stp : ∀ p1, rdP z p ps.isEmpty = .ok p1 → (∀ a, rdO z p1 = .error a → rdT z (n + 1) p ps = .error a) ∧ ∀ t e, rdO z p1 = .ok (t, e) → rdT z (n + 1) p ps = rdT z n e (ps ++ [t]) := fun p1 h1 => ⟨fun a ha => by simp only [rdT, if_pos hp, h1, ha], fun t e ha => by simp only [rdT, if_pos hp, h1, ha]⟩
          have go : ∀ {p1 : Nat} {A : Hp}, rdP z p ps.isEmpty = .ok p1 → Same H0 A → Same H' A → ∀ QQ : VK, (∀ (t : Nat × Nat) (e : Nat) q r B, Same A B → B q = some (.tup [.int (t.1 : Nat), .int (t.2 : Nat)]) → B r = some (.tup [.ref q, .int (e : Nat)]) → p1 < e → e ≤ z.length → rdT z n e (ps ++ [t]) = rdT z (z.length + 1) 0 [] → QQ (.ref r) B) → spTFrom C [.str z, .int (p1 : Nat)] A QQ E := fun {p1 A} h1 sA _ QQ k => by
            obtain ⟨e1, e2⟩ := stp p1 h1
            refine tfrom_at (by omega) ?_
            cases hO : rdO z p1 with
            | error a => exact fun d B sB hd => er a (e1 a hO) d B (Same.tx sA sB) hd
            | ok te =>
              obtain ⟨t, e⟩ := te
              have := rdO_lt hO
              exact fun q r B sB hq hr => k t e q r B sB hq hr this.1 this.2 ((e2 t e hO).symm.trans hR)
          cases hx : xs.isEmpty with
          | true =>
            have hx' : xs = [] := List.isEmpty_iff.mp hx
            refine .inl ⟨.inl ⟨_, SqL.of hl, by rw [hx]; rfl⟩, ?_⟩
            have h1 : rdP z p ps.isEmpty = .ok p := by
              rw [eP, hx]
              rfl
            refine go h1 s' (fun _ _ z => z) _ fun t e q r B sB hq hr he1 he2 hR' => ?_
            exact ⟨r, rfl, _, SqT.of hr, rfl, _, _, rfl, _, _, rfl, rfl, fin t e q B sB hq he1 he2 hR'⟩
          | false =>
            refine .inr ⟨.inl ⟨_, SqL.of hl, by rw [hx]; rfl⟩, ?_⟩
            have e0 : ∀ a, rdP z p ps.isEmpty = .error a → rdT z (n + 1) p ps = .error a := fun a ha => by simp only [rdT, if_pos hp, ha]
            have e1 : rdP z p ps.isEmpty = if isIn (chAt z p) [44] = true then (if isIn (chAt z (p + 1)) [32] = true then .ok (p + 2) else .error (p + 1)) else .error p := by
              rw [eP, hx]
              rfl
            refine ⟨sz_le (by decide), view_tup VW.start fun t1 A1 v1 => ⟨z, p, t1, [44], rfl, by omega, v1.tu _ List.mem_cons_self, fun hy => ?_, fun hn d H'' s'' hd => er p (e0 p (by rw [e1, hn]; rfl)) d H'' (Same.tx s' (Same.tx v1.fr s'')) hd⟩⟩
            refine ⟨sz_le (by decide), view_tup v1 fun t2 A2 v2 => ⟨z, p + 1, t2, [32], rfl, by omega, v2.tu _ List.mem_cons_self, fun hy2 => ?_, fun hn d H'' s'' hd => er (p + 1) (e0 (p + 1) (by rw [e1, hy, hn]; rfl)) d H'' (Same.tx s' (Same.tx v2.fr s'')) hd⟩⟩
            have h1 : rdP z p ps.isEmpty = .ok (p + 2) := by
              rw [e1, hy, hy2]
              rfl
            refine go (p1 := p + 2) h1 (Same.tx s' v2.fr) v2.fr _ fun t e q r B sB hq hr he1 he2 hR' => ?_
            exact ⟨r, rfl, _, SqT.of hr, rfl, _, _, rfl, _, _, rfl, rfl, fin t e q B (Same.tx v2.fr sB) hq (by omega) he2 hR'⟩
        · rw [if_neg hp]
          refine hZ _ _ ⟨p, xs, ps, u3, rfl, s', hl, hP, hxp, ?_⟩
          rw [← hR]
          simp only [rdT, if_neg hp]
      rintro σ3 H3 ⟨p, xs, ps, u3, rfl, s3, hl3, hP3, hxp, hR⟩
      rw [hR] at h
      walk_at "s"
      exact ⟨_, hl3, _, rfl, view_tup VW.start fun t A v => h t xs A (Same.tx s3 v.fr) (v.tu _ List.mem_cons_self) (hP3.same v.fr)⟩
    · walk_at "s"
      exact ⟨x, .ty "str", t, .type "str", false, rfl, .ty _, ht, hk, .inl ⟨rfl, fun d hd => h d _ (Same.new hd) upd_same⟩⟩
theorem it1s : ∀ (b : Bool) (k : Fin 10), PySem.intText? ⟨#[if b then 43 else 45, k.val + 48]⟩ = some (if b then ((k.val : Nat) : Int) else -((k.val : Nat) : Int)) := by decide +kernel
theorem it2s : ∀ (b : Bool) (j k : Fin 10), PySem.intText? ⟨#[if b then 43 else 45, j.val + 48, k.val + 48]⟩ = some (if b then ((10 * j.val + k.val : Nat) : Int) else -((10 * j.val + k.val : Nat) : Int)) := by decide +kernel
/-- a waggon that a text tells -/
def wgAt (z : Str) (p e : Nat) : Int := if chAt z p = some 43 then (numVal z (p + 1) e : Int) else -(numVal z (p + 1) e : Int)
theorem int_wg {z : Str} {p e : Nat} (hs : isIn (chAt z p) [43, 45] = true) (h : numEnd z (p + 1) = some e) : PySem.intText? (cutS z (some (p : Int)) (some (e : Int))) = some (wgAt z p e) ∧ (cutS z (some (p : Int)) (some (e : Int))).length ≤ 640 := by
  obtain ⟨c0, hc0, m0⟩ := isIn_some hs
  obtain ⟨b, rfl⟩ : ∃ b : Bool, c0 = if b then 43 else 45 := by
    simp at m0
    rcases m0 with rfl | rfl
    · exact ⟨true, rfl⟩
    · exact ⟨false, rfl⟩
  have hw : ∀ v : Nat, numVal z (p + 1) e = v → wgAt z p e = if b then (v : Int) else -(v : Int) := fun v hv => by
    unfold wgAt
    rw [hc0, hv]
    cases b <;> simp
  unfold numEnd at h
  split at h
  · rename_i h1
    obtain ⟨c, hc, m⟩ := isIn_some h1
    have b1 := fig1_all c m
    obtain ⟨k, rfl⟩ : ∃ k : Fin 10, c = k.val + 48 := ⟨⟨c - 48, by omega⟩, by simp; omega⟩
    split at h
    · rename_i h2
      obtain ⟨c2, hc2, m2⟩ := isIn_some h2
      have b2 := fig_all c2 m2
      obtain ⟨j, rfl⟩ : ∃ k : Fin 10, c2 = k.val + 48 := ⟨⟨c2 - 48, by omega⟩, by simp; omega⟩
      cases h
      have hl := chAt_lt hc2
      rw [show (((p + 1 + 2 : Nat)) : Int) = ((p + 3 : Nat) : Int) by omega, cut_num z p 3 (by omega), drop_ch hc0, drop_ch hc, drop_ch hc2, hw (10 * k.val + j.val) ?_]
      · exact ⟨it2s b k j, by simp [Str.length]⟩
      · unfold numVal
        rw [show p + 1 + 2 - (p + 1) = 2 by omega, drop_ch hc, drop_ch hc2]
        simp
    · cases h
      have hl := chAt_lt hc
      rw [show (((p + 1 + 1 : Nat)) : Int) = ((p + 2 : Nat) : Int) by omega, cut_num z p 2 (by omega), drop_ch hc0, drop_ch hc, hw k.val ?_]
      · exact ⟨it1s b k, by simp [Str.length]⟩
      · unfold numVal
        rw [show p + 1 + 1 - (p + 1) = 1 by omega, drop_ch hc]
        simp
  · cases h
def rdW (z : Str) (p : Nat) : Except Nat (Int × Nat) := if isIn (chAt z p) [43, 45] = true then (match numEnd z (p + 1) with | none => .error (p + 1) | some e => .ok (wgAt z p e, e)) else .error p
def rdQ (z : Str) (p : Nat) (first : Bool) : Except Nat Nat := if first = true then .ok p else if isIn (chAt z p) [32] = true then .ok (p + 1) else .error p
/-- the waggons that a text tells from a place on, or where it is none -/
def rdR (z : Str) : Nat → Nat → List Int → Except Nat (List Int)
  | 0, _, acc => .ok acc
  | n + 1, p, acc => if p < z.length then (match rdQ z p acc.isEmpty with
    | .error a => .error a
    | .ok p1 => match rdW z p1 with
      | .error a => .error a
      | .ok (w, e) => rdR z n e (acc ++ [w])) else .ok acc
def spRdRow (K : PySem.W.Frag) (C : Kd → Addr) (CR : Addr) : Sp := fun vs H Q E => ∃ x : V, vs = [x] ∧
  ((∃ z : Str, x = .str z ∧ z.length ≤ 900 ∧ match rdR z (z.length + 1) 0 [] with
    | .ok ws => ws.length ≤ z.length → ∀ l H', Same H H' → H' l = some (.lst (ws.map V.int)) → tMake CR (spRI K C CR) [] E (tCons (tC (.ref l)) tNil) [] H' Q
    | .error a => ∀ d H', Same H H' → H' d = some (.xd [("place", .int (a : Nat))]) → E (.ref (C .text)) (some d) H') ∨
  (∃ t : Value, TyX K H x t ∧ PySem.W.kitOne K t (.type "str") = some false) ∧ ∀ d H', Same H H' → H' d = some (.xd [("place", .non)]) → E (.ref (C .text)) (some d) H')
theorem scRdRow : FnScope ["text", "waggons", "place", "end"] ["text"] (defScope sRdRow) := ⟨rfl, rfl, rfl, by decide +kernel, rfl, by decide +kernel, by decide +kernel⟩
theorem ok_rdrow {CR f fN fS fI : Addr} {fd fdN fdS fdI : FuncData} (F : Fun K "read_row" "read_row" sRdRow f fd) (B : Blt mg) (R : RowC K mg CR) (XB : ∀ k, hasK k = true → XDs P w K mg base C k) (cBNum : DnX P w K mg base 3 "behind_number" fN fdN ["text", "place"] (spBNum C)) (cBSign : DnX P w K mg base 3 "behind_sign" fS fdS ["text", "place", "signs"] (spBSign C)) (RM : Mk K CR fI) (RI : FnOk P w K mg base (L2.CX P w) 3 fI fdI ["self", "waggons"] (spRI K C CR)) (rb : Binds K fdI ["self", "waggons"] []) : FnOk P w K mg base (L2.CX P w) 6 f fd ["text"] (spRdRow K C CR) := by
  refine F.okX scRdRow (fun vs H Q E h => ?_) (fun cdv A outer s H vs Q E hr h => ⟨_, (pss_cons (ps_if (pt_not (pt_val (pe_callB call_isi (by rfl) B.isinstance (by decide +kernel) (pa_cons (pv 0) (pa_cons (pe_bltn (v := .ty "str") (by rfl) B.str (by decide +kernel) rfl) pa_nil))))) (pss_one (ps_raiseX (k := .text) rfl (XB .text (by decide)) (hr.mono (by decide)) (takes_of rfl rfl rfl rfl) pe_non (by rfl))) pss_nil)
      (pss_cons (ps_set (i := 1) scRdRow.nd rfl (by first | exact Or.inl rfl | exact Or.inr rfl) (pe_lstF pa_nil))
      (pss_cons (ps_set (i := 2) scRdRow.nd rfl (by first | exact Or.inl rfl | exact Or.inr rfl) pe_int)
      (pss_cons (ps_while (passes_of rfl) (pt_cmpR op_lt (pv 2) (pe_callB call_len_str (by rfl) B.len (by decide +kernel) (pa_cons (pv 0) pa_nil)) (nomark _)) (pss_cons (ps_if (pt_truth (pv 1) (fun _ => rfl)) (pss_one (ps_set (i := 2) scRdRow.nd rfl (by first | exact Or.inl rfl | exact Or.inr rfl) (pe_call (E := E) cBSign.ok (hr.mono (by decide)) rfl cBSign.mgf cBSign.kp cBSign.bi .nil (passes_call (takes_of rfl rfl rfl rfl) (fun _ _ _ _ h => h)) (pa_cons (pv 0) (pa_cons (pv 2) (pa_cons (pe_tupF (pa_cons pe_str pa_nil)) pa_nil)))))) pss_nil)
      (pss_cons (ps_set (i := 3) scRdRow.nd rfl (by first | exact Or.inl rfl | exact Or.inr rfl) (pe_call (E := E) cBNum.ok (hr.mono (by decide)) rfl cBNum.mgf cBNum.kp cBNum.bi .nil (passes_call (takes_of rfl rfl rfl rfl) (fun _ _ _ _ h => h)) (pa_cons (pv 0) (pa_cons (pe_call (E := E) cBSign.ok (hr.mono (by decide)) rfl cBSign.mgf cBSign.kp cBSign.bi .nil (passes_call (takes_of rfl rfl rfl rfl) (fun _ _ _ _ h => h)) (pa_cons (pv 0) (pa_cons (pv 2) (pa_cons (pe_tupF (pa_cons pe_str (pa_cons pe_str pa_nil))) pa_nil)))) pa_nil))))
      (pss_cons (ps_expr (pe_lm PySem.F.slot_list_append PySem.F.type_list_append appF (pv 1) (pa_cons (pe_callTy call_int_str (by rfl) B.int (by decide +kernel) (pa_cons (pe_slice sl_str (pv 0) (po_some (pv 2)) (po_some (pv 3))) pa_nil)) pa_nil)))
      (pss_one (ps_set (i := 2) scRdRow.nd rfl (by first | exact Or.inl rfl | exact Or.inr rfl) (pv 3)))))))
      (pss_one (ps_ret (pe_make (E := E) RM RI (hr.mono (by decide)) (by rfl) R.mgR rb .nil (passes_call (takes_of rfl rfl rfl rfl) (fun _ _ _ _ h => h)) (pa_cons (pv 1) pa_nil)))))))), ?_⟩)
  · obtain ⟨x, rfl, _⟩ := h
    rfl
  · obtain ⟨x, rfl, h⟩ := h
    rcases h with ⟨z, rfl, hz, h⟩ | ⟨⟨t, ht, hk⟩, h⟩
    · refine seq_nx (fun σ' H' => σ' = [some (.str z), none, none, none] ∧ H' = H) (fun Z hZ => ?_) ?_
      · walk_at "s"
        exact ⟨.str z, .ty "str", .type "str", .type "str", true, rfl, .ty _, .base (.str _), kit_ty (by decide +kernel), .inr ⟨rfl, hZ _ _ ⟨rfl, rfl⟩⟩⟩
      rintro σ0 H0 ⟨rfl, rfl⟩
      refine seq_nx (fun σ' H' => ∃ tl : Addr, σ' = [some (.str z), some (.ref tl), none, none] ∧ H0 tl = none ∧ Same H0 H' ∧ H' tl = some (.lst [])) (fun Z hZ => ?_) ?_
      · walk_at "s"
        exact view_new (VW.start (H := H0)) fun tl A1 v1 => hZ _ _ ⟨tl, rfl, v1.own _ List.mem_cons_self, v1.fr, v1.facts.1⟩
      rintro σ1 H1 ⟨tl, rfl, nl, s1, hl1⟩
      refine seq_nx (fun σ' H' => σ' = [some (.str z), some (.ref tl), some (.int 0), none] ∧ H' = H1) (fun Z hZ => ?_) ?_
      · walk_at "s"
        exact hZ _ _ ⟨rfl, rfl⟩
      rintro σ2 H2 ⟨rfl, rfl⟩
      refine seq_nx (fun σ' H' => ∃ (p : Nat) (ws : List Int) (u3 : Option V), σ' = [some (.str z), some (.ref tl), some (.int (p : Nat)), u3] ∧ Same H0 H' ∧ H' tl = some (.lst (ws.map V.int)) ∧ ws.length ≤ p ∧ p ≤ z.length ∧ rdR z (z.length + 1) 0 [] = .ok ws) (fun Z hZ => ?_) ?_
      · refine ⟨fun n σ H' => ∃ (p : Nat) (ws : List Int) (u3 : Option V), σ = [some (.str z), some (.ref tl), some (.int (p : Nat)), u3] ∧ Same H0 H' ∧ H' tl = some (.lst (ws.map V.int)) ∧ ws.length ≤ p ∧ p ≤ z.length ∧ z.length < n + p ∧ rdR z n p ws = rdR z (z.length + 1) 0 [], ⟨z.length + 1, 0, [], none, rfl, s1, hl1, Nat.le_refl _, Nat.zero_le _, by omega, rfl⟩, ?_⟩
        rintro n σ H' ⟨p, ws, u3, rfl, s', hl, hxp, hpz, hn, hR⟩
        obtain ⟨n, rfl⟩ : ∃ k, n = k + 1 := ⟨n - 1, by omega⟩
        have er : ∀ a, rdR z (n + 1) p ws = .error a → ∀ d H'', Same H0 H'' → H'' d = some (.xd [("place", .int (a : Nat))]) → E (.ref (C .text)) (some d) H'' := fun a ha => by
          rw [← hR, ha] at h
          exact h
        walk_at "s"
        refine ⟨sz_le (by omega), ?_⟩
        by_cases hp : p < z.length
        · rw [if_pos hp]
          obtain ⟨N, hN1, hN2⟩ : ∃ N : St → Hp → Prop, (∀ σ' H', N σ' H' → ∃ m', m' < n + 1 ∧ ∃ p, (∃ x, σ' = [some (.str z), some (.ref tl), some (.int (p : Nat)), x]) ∧ Same H0 H' ∧ ∃ x : List Int, H' tl = some (.lst (x.map V.int)) ∧ x.length ≤ p ∧ p ≤ z.length ∧ z.length < m' + p ∧ rdR z m' p x = rdR z (z.length + 1) 0 []) ∧ ∀ σ' H', (∃ m', m' < n + 1 ∧ ∃ p, (∃ x, σ' = [some (.str z), some (.ref tl), some (.int (p : Nat)), x]) ∧ Same H0 H' ∧ ∃ x : List Int, H' tl = some (.lst (x.map V.int)) ∧ x.length ≤ p ∧ p ≤ z.length ∧ z.length < m' + p ∧ rdR z m' p x = rdR z (z.length + 1) 0 []) → N σ' H' := ⟨_, fun _ _ h => h, fun _ _ h => h⟩
          refine ⟨N, hN1, ?_⟩
          have stp : ∀ p1, rdQ z p ws.isEmpty = .ok p1 → (∀ a, rdW z p1 = .error a → rdR z (n + 1) p ws = .error a) ∧ ∀ t e, rdW z p1 = .ok (t, e) → rdR z (n + 1) p ws = rdR z n e (ws ++ [t]) := fun p1 h1 => ⟨fun a ha => by simp only [rdR, if_pos hp, h1, ha], fun t e ha => by simp only [rdR, if_pos hp, h1, ha]⟩
          have go : ∀ {p1 : Nat} {A : Hp} {t : Addr}, rdQ z p ws.isEmpty = .ok p1 → p ≤ p1 → Same H' A → A t = some (.tup [.str (Str.ofString "+"), .str (Str.ofString "-")]) → spBSign C [.str z, .int (p1 : Nat), .ref t] A (fun x H1 => spBNum C [.str z, x] H1 (fun x H1 => tLM rAppF (tVar 1) (tCons (tCB (fun xs H Q => ∃ a, xs = [V.str a] ∧ ∃ x, PySem.intText? a = some x ∧ a.length ≤ 640 ∧ Q (V.int x) H) (tCons (tSl rSlS (tVar 0) (tPart (tVar 2)) (tPart (tVar 3))) tNil)) tNil) [some (.str z), some (.ref tl), some (.int (p1 : Nat)), some x] H1 fun _ H1 => N [some (.str z), some (.ref tl), some x, some x] H1) E) E := fun {p1 A t} h1 hpp sA ht => by
            obtain ⟨e1, e2⟩ := stp p1 h1
            refine ⟨z, p1, t, [43, 45], rfl, by omega, ht, fun hy => ?_, fun hn d H'' s'' hd => er p1 (e1 p1 (by unfold rdW; rw [hn]; rfl)) d H'' (Same.tx s' (Same.tx sA s'')) hd⟩
            refine ⟨z, p1 + 1, rfl, by omega, fun h2 => ?_, fun hn d H'' s'' hd => er (p1 + 1) (e1 (p1 + 1) (by unfold rdW numEnd; rw [hy, hn]; rfl)) d H'' (Same.tx s' (Same.tx sA s'')) hd⟩
            obtain ⟨e, he⟩ : ∃ e, numEnd z (p1 + 1) = some e := ⟨_, by unfold numEnd; rw [if_pos h2]⟩
            have he' : (if isIn (chAt z (p1 + 1 + 1)) ("0123456789" : Str).cps.toList = true then p1 + 1 + 2 else p1 + 1 + 1) = e := by
              unfold numEnd at he
              rw [if_pos h2] at he
              exact Option.some.inj he
            rw [he']
            have lt := numEnd_lt he
            obtain ⟨i1, i2⟩ := int_wg hy he
            have hR' := (e2 (wgAt z p1 e) e (by unfold rdW; rw [if_pos hy, he])).symm.trans hR
            have hlB := sA _ _ hl
            unfold tLM rAppF
            walk_at "s"
            refine ⟨⟨_, hlB⟩, sz_le (by omega), _, i1, i2, _, hlB, sz_lt (by rw [List.length_map]; omega), hN2 _ _ ⟨n, by omega, e, ⟨_, rfl⟩, fun b o hb => ?_, ws ++ [wgAt z p1 e], ?_, by simp; omega, lt.2, by omega, hR'⟩⟩
            · rw [upd_ne (ne_of_none hb nl)]
              exact sA _ _ (s' _ _ hb)
            · rw [upd_same, List.map_append]
              rfl
          cases hx : ws.isEmpty with
          | true =>
            refine .inl ⟨.inl ⟨_, SqL.of hl, by rw [List.isEmpty_map, hx]; rfl⟩, sz_le (by decide), view_tup VW.start fun t A v => ?_⟩
            exact go (by rw [hx]; rfl) (Nat.le_refl _) v.fr (v.tu _ List.mem_cons_self)
          | false =>
            refine .inr ⟨.inl ⟨_, SqL.of hl, by rw [List.isEmpty_map, hx]; rfl⟩, sz_le (by decide), view_tup VW.start fun t1 A1 v1 => ⟨z, p, t1, [32], rfl, by omega, v1.tu _ List.mem_cons_self, fun hy => ?_, fun hn d H'' s'' hd => er p (by simp only [rdR, if_pos hp, rdQ, hx, hn]; rfl) d H'' (Same.tx s' (Same.tx v1.fr s'')) hd⟩⟩
            refine ⟨sz_le (by decide), view_tup v1 fun t A v => ?_⟩
            exact go (p1 := p + 1) (by rw [hx]; unfold rdQ; rw [hy]; rfl) (by omega) v.fr (v.tu _ List.mem_cons_self)
        · rw [if_neg hp]
          refine hZ _ _ ⟨p, ws, u3, rfl, s', hl, hxp, hpz, ?_⟩
          rw [← hR]
          simp only [rdR, if_neg hp]
      rintro σ3 H3 ⟨p, ws, u3, rfl, s3, hl3, hxp, hpz, hR⟩
      rw [hR] at h
      exact ⟨_, rfl, h (by omega) tl H3 s3 hl3⟩
    · walk_at "s"
      exact ⟨x, .ty "str", t, .type "str", false, rfl, .ty _, ht, hk, .inl ⟨rfl, fun d hd => h d _ (Same.new hd) upd_same⟩⟩
end

end Fab
set_option maxHeartbeats 2000000
namespace Fab
open PySem L2 PySem.FabX
open PyProof.Rows (envOfC)
abbrev sRowTxt : Stmt := top 23
abbrev sTurnsTxt : Stmt := top 24
local macro_rules | `(tactic| walk_at "s") => `(tactic| simp [tPar, tSeq, tAsg, tOp, tUn, tVar, tC, gName, tCons, tNil, tCB, tCall, rI, rI0, rU, tRet, tDrop, tIfS, tNext, tIf, tTest, tNot, tOr, tAnd, tB, L2.start, CMul, CDiv, rIxF, rLenF, rIntF, sq_lst, sq_tup, tLstF, tTupF, gSub, rCatF, rCatTF, rInF, rNotInF, rNe, rEq, tAndV, tOrV, tNotV, tChain, rTupF, tFldF, tRx, tMake, tSl, tPart, tNoPart, rSlTF, rSlF, tRevTF, gTup, gCons, gNil, rSlS, rIxS])
/-! texts that are written, read again -/
open TL (tl joinL)
/-- the figures of a number below a hundred -/
def dg (n : Nat) : List Nat := if n < 10 then [48 + n] else [48 + n / 10, 48 + n % 10]
theorem dg_str (n : Nat) (h : n < 100) : (Str.ofString (toString ((n : Nat) : Int))).cps.toList = dg n := by
  have all : ∀ k : Fin 100, (Str.ofString (toString ((k.val : Nat) : Int))).cps.toList = dg k.val := by decide +kernel
  exact all ⟨n, h⟩
theorem figs_l : ("0123456789" : Str).cps.toList = [48, 49, 50, 51, 52, 53, 54, 55, 56, 57] := by decide
theorem figs1_l : figs1.cps.toList = [49, 50, 51, 52, 53, 54, 55, 56, 57] := by decide
theorem fig_in {c : Nat} (h1 : 48 ≤ c) (h2 : c ≤ 57) : c ∈ ("0123456789" : Str).cps.toList := by rw [figs_l]; simp; omega
theorem fig1_in {c : Nat} (h1 : 49 ≤ c) (h2 : c ≤ 57) : c ∈ figs1.cps.toList := by rw [figs1_l]; simp; omega
theorem ch_drop {z : Str} {p : Nat} {l : List Nat} (h : z.cps.toList.drop p = l) (k : Nat) : chAt z (p + k) = l[k]? := by
  subst h
  unfold chAt
  rw [List.getElem?_drop]
theorem drop_more {z : Str} {p : Nat} {a l : List Nat} (h : z.cps.toList.drop p = a ++ l) : z.cps.toList.drop (p + a.length) = l := by
  have := congrArg (List.drop a.length) h
  rw [List.drop_drop, List.drop_left] at this
  exact this
def noFig : List Nat → Bool
  | [] => true
  | c :: _ => decide (c < 48) || decide (57 < c)
theorem noFig_not {r : List Nat} (h : noFig r = true) : isIn r[0]? ("0123456789" : Str).cps.toList = false := by
  cases r with
  | nil => rfl
  | cons c r =>
    show decide (c ∈ _) = false
    rw [decide_eq_false_iff_not]
    intro m
    have := fig_all c m
    simp [noFig] at h
    omega
theorem isIn_mem {o : Option Nat} {c : Nat} {S : List Nat} (h : o = some c) (m : c ∈ S) : isIn o S = true := by
  subst h
  exact decide_eq_true m
theorem isIn_not {o : Option Nat} {c : Nat} {S : List Nat} (h : o = some c) (m : c ∉ S) : isIn o S = false := by
  subst h
  exact decide_eq_false m
/-- a number that stands at a place -/
theorem num_here {z : Str} {p n : Nat} {r : List Nat} (hn : n < 100) (h : z.cps.toList.drop p = dg n ++ r) (hr : noFig r = true) : placeEnd z p = some (p + (dg n).length) ∧ numVal z p (p + (dg n).length) = n ∧ (0 < n → numEnd z p = some (p + (dg n).length)) := by
  have hv : numVal z p (p + (dg n).length) = n := by
    unfold numVal
    rw [show p + (dg n).length - p = (dg n).length by omega, h, List.take_left]
    unfold dg
    split
    · simp
    · simp
      omega
  refine ⟨?_, hv, ?_⟩
  · by_cases h0 : n = 0
    · subst h0
      unfold placeEnd
      have this : chAt z p = some 48 := ch_drop h 0
      rw [if_pos (isIn_mem this (by decide))]
      rfl
    · unfold placeEnd
      have c0 : chAt z p = _ := ch_drop h 0
      have ne : isIn (chAt z p) [48] = false := by
        unfold dg at c0
        split at c0
        · exact isIn_not (c := 48 + n) c0 (by simp; omega)
        · exact isIn_not (c := 48 + n / 10) c0 (by simp; omega)
      rw [ne, if_neg (by decide)]
      unfold numEnd
      unfold dg at h ⊢
      split at h
      · rename_i h1
        rw [if_pos h1]
        have a0 : chAt z p = _ := ch_drop h 0
        have a1 := ch_drop h 1
        rw [if_pos (isIn_mem (c := 48 + n) a0 (fig1_in (by omega) (by omega))), show chAt z (p + 1) = r[0]? from a1, noFig_not hr]
        rfl
      · rename_i h1
        rw [if_neg h1]
        have a0 : chAt z p = _ := ch_drop h 0
        have a1 := ch_drop h 1
        rw [if_pos (isIn_mem (c := 48 + n / 10) a0 (fig1_in (by omega) (by omega))), if_pos (isIn_mem (c := 48 + n % 10) a1 (fig_in (by omega) (by omega)))]
        rfl
  · intro h0
    unfold numEnd
    unfold dg at h ⊢
    split at h
    · rename_i h1
      rw [if_pos h1]
      have a0 : chAt z p = _ := ch_drop h 0
      have a1 := ch_drop h 1
      rw [if_pos (isIn_mem (c := 48 + n) a0 (fig1_in (by omega) (by omega))), show chAt z (p + 1) = r[0]? from a1, noFig_not hr]
      rfl
    · rename_i h1
      rw [if_neg h1]
      have a0 : chAt z p = _ := ch_drop h 0
      have a1 := ch_drop h 1
      rw [if_pos (isIn_mem (c := 48 + n / 10) a0 (fig1_in (by omega) (by omega))), if_pos (isIn_mem (c := 48 + n % 10) a1 (fig_in (by omega) (by omega)))]
      rfl
theorem dg_pos (n : Nat) : 0 < (dg n).length := by
  unfold dg
  split <;> simp
/-- a waggon's text -/
def wgL (w : Int) : List Nat := (if w < 0 then 45 else 43) :: dg w.natAbs
theorem wg_here {z : Str} {p : Nat} {w : Int} {r : List Nat} (h0 : w ≠ 0) (hw : w.natAbs < 100) (h : z.cps.toList.drop p = wgL w ++ r) (hr : noFig r = true) : rdW z p = .ok (w, p + (wgL w).length) := by
  have c0 : chAt z p = some (if w < 0 then 45 else 43) := ch_drop h 0
  have h1 : z.cps.toList.drop (p + 1) = dg w.natAbs ++ r := drop_more (a := [if w < 0 then 45 else 43]) h
  obtain ⟨_, v, e⟩ := num_here hw h1 hr
  have e := e (by omega)
  unfold rdW
  rw [if_pos (isIn_mem c0 (by split <;> decide)), e]
  dsimp only
  unfold wgAt
  rw [c0, v]
  have : p + 1 + (dg w.natAbs).length = p + (wgL w).length := by
    unfold wgL
    rw [List.length_cons]
    omega
  rw [this]
  split
  · rename_i h
    rw [if_neg (by simp)]
    have : -((w.natAbs : Nat) : Int) = w := by omega
    rw [this]
  · rename_i h
    rw [if_pos rfl]
    have : ((w.natAbs : Nat) : Int) = w := by omega
    rw [this]
def restR (ws : List Int) : List Nat := (ws.map fun w => 32 :: wgL w).flatten
theorem noFig_restR (ws : List Int) : noFig (restR ws) = true := by
  cases ws <;> rfl
theorem rdR_rest {z : Str} : ∀ (ws : List Int) (n p : Nat) (acc : List Int), acc ≠ [] → (∀ w ∈ ws, w ≠ 0 ∧ w.natAbs < 100) → z.cps.toList.drop p = restR ws → p ≤ z.length → z.length < n + p → rdR z n p acc = .ok (acc ++ ws)
  | [], n, p, acc, _, _, h, hp, hn => by
    have : p = z.length := by
      have e := congrArg List.length h
      rw [List.length_drop, len_cps] at e
      simp [restR] at e
      omega
    cases n with
    | zero => omega
    | succ n =>
      simp only [rdR, if_neg (show ¬ p < z.length by omega), List.append_nil]
  | w :: ws, n, p, acc, ha, hb, h, hp, hn => by
    have h' : z.cps.toList.drop p = [32] ++ (wgL w ++ restR ws) := h
    have lt : p < z.length := by
      have e := congrArg List.length h'
      rw [List.length_drop, len_cps] at e
      simp at e
      omega
    cases n with
    | zero => omega
    | succ n =>
      have c0 : chAt z p = some 32 := ch_drop h' 0
      have h1 : z.cps.toList.drop (p + 1) = wgL w ++ restR ws := drop_more (a := [32]) h'
      have b := hb w List.mem_cons_self
      have e1 := wg_here b.1 b.2 h1 (noFig_restR ws)
      have h2 := drop_more h1
      have le2 : p + 1 + (wgL w).length ≤ z.length := by
        have e := congrArg List.length h1
        rw [List.length_drop, len_cps] at e
        simp at e
        have : 0 < (wgL w).length := by simp [wgL]
        omega
      have fe : acc.isEmpty = false := by
        cases acc with
        | nil => exact absurd rfl ha
        | cons _ _ => rfl
      have q : rdQ z p acc.isEmpty = .ok (p + 1) := by
        unfold rdQ
        rw [fe, c0]
        rfl
      simp only [rdR, if_pos lt, q, e1]
      rw [rdR_rest ws n _ (acc ++ [w]) (by simp) (fun x hx => hb x (List.mem_cons_of_mem _ hx)) h2 le2 (by omega)]
      simp
theorem joinL_cons (S : List Nat) (x : List Nat) : ∀ ys : List (List Nat), joinL S (x :: ys) = x ++ (ys.map fun y => S ++ y).flatten
  | [] => by simp [TL.joinL]
  | y :: ys => by
    rw [TL.joinL, joinL_cons S y ys]
    simp
theorem tl_joinT (a : Str) (ys : List Str) : (Txt.join a ys).cps.toList = joinL a.cps.toList (ys.map fun y => y.cps.toList) := by
  rw [TL.join_eq]
  exact TL.tl_join a ys
theorem wg_tl (w : Int) (h : w.natAbs < 100) : (plusD w).cps.toList = wgL w := by
  unfold plusD wgL
  have e := TL.tl_append (if w < 0 then Str.ofString "-" else Str.ofString "+") (Str.ofString (toString ((w.natAbs : Nat) : Int)))
  refine e.trans ?_
  rw [show tl (Str.ofString (toString ((w.natAbs : Nat) : Int))) = dg w.natAbs from dg_str _ h]
  split <;> rfl
/-- a row's text -/
def rowTxt (ws : List Int) : Str := Txt.join (Str.ofString " ") (ws.map plusD)
theorem rowTxt_tl {ws : List Int} {w : Int} (hb : ∀ x ∈ w :: ws, x.natAbs < 100) : (rowTxt (w :: ws)).cps.toList = wgL w ++ restR ws := by
  unfold rowTxt
  rw [tl_joinT, List.map_map, List.map_cons, joinL_cons]
  have e : ∀ x ∈ w :: ws, ((fun y : Str => y.cps.toList) ∘ plusD) x = wgL x := fun x hx => wg_tl x (hb x hx)
  rw [e w List.mem_cons_self]
  unfold restR
  congr 2
  rw [List.map_map]
  refine List.map_congr_left fun x hx => ?_
  show (Str.ofString " ").cps.toList ++ _ = _
  rw [e x (List.mem_cons_of_mem _ hx)]
  rfl
theorem rd_rowTxt {ws : List Int} (hb : ∀ x ∈ ws, x ≠ 0 ∧ x.natAbs < 100) : rdR (rowTxt ws) ((rowTxt ws).length + 1) 0 [] = .ok ws := by
  cases ws with
  | nil => rfl
  | cons w ws =>
    have ht := rowTxt_tl (w := w) (ws := ws) fun x hx => (hb x hx).2
    generalize hz : rowTxt (w :: ws) = z at ht ⊢
    have h0 : z.cps.toList.drop 0 = wgL w ++ restR ws := by rw [List.drop_zero]; exact ht
    have b := hb w List.mem_cons_self
    have e1 := wg_here b.1 b.2 h0 (noFig_restR ws)
    have h1 := drop_more h0
    have lz : (wgL w).length + (restR ws).length = z.length := by
      rw [← len_cps, ht, List.length_append]
    have lp : 0 < (wgL w).length := by simp [wgL]
    have e1' : rdW z 0 = .ok (w, (wgL w).length) := by rw [Nat.zero_add] at e1; exact e1
    have q : rdQ z 0 ([] : List Int).isEmpty = .ok 0 := rfl
    rw [Nat.zero_add] at h1
    simp only [rdR, if_pos (show 0 < z.length by omega), q, e1']
    exact rdR_rest ws z.length _ [w] (by simp) (fun x hx => hb x (List.mem_cons_of_mem _ hx)) h1 (by omega) (by omega)
/-- a turning's text -/
def pL (q : Nat × Nat) : List Nat := dg q.1 ++ 45 :: dg q.2
def pTxt (q : Nat × Nat) : Str := Str.ofString (toString ((q.1 : Nat) : Int)) ++ Str.ofString "-" ++ Str.ofString (toString ((q.2 : Nat) : Int))
def prsTxt (ps : List (Nat × Nat)) : Str := Txt.join (Str.ofString ", ") (ps.map pTxt)
theorem pTxt_tl {q : Nat × Nat} (h1 : q.1 < 100) (h2 : q.2 < 100) : (pTxt q).cps.toList = pL q := by
  unfold pTxt pL
  have e1 := TL.tl_append (Str.ofString (toString ((q.1 : Nat) : Int)) ++ Str.ofString "-") (Str.ofString (toString ((q.2 : Nat) : Int)))
  have e2 := TL.tl_append (Str.ofString (toString ((q.1 : Nat) : Int))) (Str.ofString "-")
  refine e1.trans ?_
  rw [e2, show tl (Str.ofString (toString ((q.1 : Nat) : Int))) = dg q.1 from dg_str _ h1, show tl (Str.ofString (toString ((q.2 : Nat) : Int))) = dg q.2 from dg_str _ h2]
  show dg q.1 ++ [45] ++ dg q.2 = _
  simp
def restT (ps : List (Nat × Nat)) : List Nat := (ps.map fun q => [44, 32] ++ pL q).flatten
theorem noFig_restT (ps : List (Nat × Nat)) : noFig (restT ps) = true := by
  cases ps <;> rfl
theorem p_here {z : Str} {p : Nat} {q : Nat × Nat} {r : List Nat} (hq : q.1 ≤ q.2) (h2 : q.2 < 100) (h : z.cps.toList.drop p = pL q ++ r) (hr : noFig r = true) : rdO z p = .ok (q, p + (pL q).length) := by
  have h' : z.cps.toList.drop p = dg q.1 ++ (45 :: (dg q.2 ++ r)) := by
    rw [h]
    unfold pL
    simp
  obtain ⟨e1, v1, _⟩ := num_here (by omega) h' rfl
  have h3 := drop_more h'
  have c0 : chAt z (p + (dg q.1).length) = some 45 := ch_drop h3 0
  have h4 : z.cps.toList.drop (p + (dg q.1).length + 1) = dg q.2 ++ r := drop_more (a := [45]) h3
  obtain ⟨e2, v2, _⟩ := num_here h2 h4 hr
  have le : p + (dg q.1).length + 1 + (dg q.2).length = p + (pL q).length := by
    unfold pL
    rw [List.length_append, List.length_cons]
    omega
  unfold rdO
  rw [e1]
  dsimp only
  rw [c0, if_pos (by decide), e2]
  dsimp only
  rw [v1, v2, if_neg (by omega), le]
theorem rdT_rest {z : Str} : ∀ (ps : List (Nat × Nat)) (n p : Nat) (acc : List (Nat × Nat)), acc ≠ [] → (∀ q ∈ ps, q.1 ≤ q.2 ∧ q.2 < 100) → z.cps.toList.drop p = restT ps → p ≤ z.length → z.length < n + p → rdT z n p acc = .ok (acc ++ ps)
  | [], n, p, acc, _, _, h, hp, hn => by
    have : p = z.length := by
      have e := congrArg List.length h
      rw [List.length_drop, len_cps] at e
      simp [restT] at e
      omega
    cases n with
    | zero => omega
    | succ n =>
      simp only [rdT, if_neg (show ¬ p < z.length by omega), List.append_nil]
  | w :: ws, n, p, acc, ha, hb, h, hp, hn => by
    have h' : z.cps.toList.drop p = [44, 32] ++ (pL w ++ restT ws) := by
      rw [h]
      show ([44, 32] ++ pL w) ++ restT ws = _
      simp
    have lt : p < z.length := by
      have e := congrArg List.length h'
      rw [List.length_drop, len_cps] at e
      simp at e
      omega
    cases n with
    | zero => omega
    | succ n =>
      have c0 : chAt z p = some 44 := ch_drop h' 0
      have c1 : chAt z (p + 1) = some 32 := ch_drop h' 1
      have h1 : z.cps.toList.drop (p + 2) = pL w ++ restT ws := drop_more (a := [44, 32]) h'
      have b := hb w List.mem_cons_self
      have e1 := p_here b.1 b.2 h1 (noFig_restT ws)
      have h2 := drop_more h1
      have le2 : p + 2 + (pL w).length ≤ z.length := by
        have e := congrArg List.length h1
        rw [List.length_drop, len_cps] at e
        simp at e
        have : 0 < (pL w).length := by simp [pL]; omega
        omega
      have fe : acc.isEmpty = false := by
        cases acc with
        | nil => exact absurd rfl ha
        | cons _ _ => rfl
      have q : rdP z p acc.isEmpty = .ok (p + 2) := by
        unfold rdP
        rw [fe, c0, c1]
        rfl
      simp only [rdT, if_pos lt, q, e1]
      rw [rdT_rest ws n _ (acc ++ [w]) (by simp) (fun x hx => hb x (List.mem_cons_of_mem _ hx)) h2 le2 (by omega)]
      simp
theorem prsTxt_tl {ps : List (Nat × Nat)} {q : Nat × Nat} (hb : ∀ x ∈ q :: ps, x.1 ≤ x.2 ∧ x.2 < 100) : (prsTxt (q :: ps)).cps.toList = pL q ++ restT ps := by
  unfold prsTxt
  rw [tl_joinT, List.map_map, List.map_cons, joinL_cons]
  have e : ∀ x ∈ q :: ps, ((fun y : Str => y.cps.toList) ∘ pTxt) x = pL x := fun x hx => pTxt_tl (by have := hb x hx; omega) (hb x hx).2
  rw [e q List.mem_cons_self]
  unfold restT
  congr 2
  rw [List.map_map]
  refine List.map_congr_left fun x hx => ?_
  show (Str.ofString ", ").cps.toList ++ _ = _
  rw [e x (List.mem_cons_of_mem _ hx)]
  rfl
theorem rd_prsTxt {ps : List (Nat × Nat)} (hb : ∀ x ∈ ps, x.1 ≤ x.2 ∧ x.2 < 100) : rdT (prsTxt ps) ((prsTxt ps).length + 1) 0 [] = .ok ps := by
  cases ps with
  | nil => rfl
  | cons w ws =>
    have ht := prsTxt_tl (q := w) (ps := ws) hb
    generalize hz : prsTxt (w :: ws) = z at ht ⊢
    have h0 : z.cps.toList.drop 0 = pL w ++ restT ws := by rw [List.drop_zero]; exact ht
    have b := hb w List.mem_cons_self
    have e1 := p_here b.1 b.2 h0 (noFig_restT ws)
    have h1 := drop_more h0
    have lz : (pL w).length + (restT ws).length = z.length := by
      rw [← len_cps, ht, List.length_append]
    have lp : 0 < (pL w).length := by simp [pL]; omega
    have e1' : rdO z 0 = .ok (w, (pL w).length) := by rw [Nat.zero_add] at e1; exact e1
    have q : rdP z 0 ([] : List (Nat × Nat)).isEmpty = .ok 0 := rfl
    rw [Nat.zero_add] at h1
    simp only [rdT, if_pos (show 0 < z.length by omega), q, e1']
    exact rdT_rest ws z.length _ [w] (by simp) (fun x hx => hb x (List.mem_cons_of_mem _ hx)) h1 (by omega) (by omega)
/-! ### the program writes texts -/
theorem seq_q {S R : TS} {D : Ends} {σ : St} {H : Hp} (Inv : St → Hp → Prop) (h : ∀ D' : Ends, D'.rt = D.rt → (∀ σ' H', Inv σ' H' → D'.nx σ' H') → S D' σ H) (h2 : ∀ σ' H', Inv σ' H' → R D σ' H') : tSeq S R D σ H := h { D with nx := R D } rfl h2
section
variable {P : Program} {w : World} {K : PySem.W.Frag} {mg : Str → Option Value} {base : Heap} {C : Kd → Addr} {CR : Addr}
theorem emptyApp (z : Str) : Str.empty ++ z = z := by
  show (⟨#[] ++ z.cps⟩ : Str) = z
  rw [Array.empty_append]
theorem lenApp (a b : Str) : (a ++ b).length = a.length + b.length := by
  show (a.cps ++ b.cps).size = _
  simp [Str.length]
theorem sumLe {b : Nat} : ∀ {ys : List Str}, (∀ y ∈ ys, y.length ≤ b) → (ys.map fun x => x.length).sum ≤ b * ys.length
  | [], _ => by simp
  | y :: ys, h => by
    have h1 := h y List.mem_cons_self
    have h2 := sumLe (ys := ys) fun x hx => h x (List.mem_cons_of_mem _ hx)
    simp only [List.map_cons, List.sum_cons, List.length_cons, Nat.mul_add]
    omega
theorem dg_le (n : Nat) : (dg n).length ≤ 2 := by
  unfold dg
  split <;> simp
theorem plusD_len {z : Int} (h : z.natAbs ≤ 24) : (plusD z).length ≤ 3 := by
  rw [← len_cps, wg_tl z (by omega)]
  have := dg_le z.natAbs
  show (dg z.natAbs).length + 1 ≤ 3
  omega
theorem pTxt_len {q : Nat × Nat} (h1 : q.1 < 100) (h2 : q.2 < 100) : (pTxt q).length ≤ 5 := by
  rw [← len_cps, pTxt_tl h1 h2]
  have a := dg_le q.1
  have b := dg_le q.2
  unfold pL
  rw [List.length_append, List.length_cons]
  omega
theorem small_log (n : Nat) (h : n < 100) : ((n : Nat) : Int).natAbs.log2 < 1920 := by
  have all : ∀ k : Fin 100, ((k.val : Nat) : Int).natAbs.log2 < 1920 := by decide +kernel
  exact all ⟨n, h⟩
theorem num_len (n : Nat) (h : n < 100) : (Str.ofString (toString ((n : Nat) : Int))).length ≤ 2 := by
  rw [← len_cps, dg_str n h]
  exact dg_le n
def tP3 : TE := fun σ H Q => tJs [tFmt (tVar 3), tC (.str (Str.ofString "-")), tFmt (tVar 4)] Str.empty σ H fun out H1 => Q (.str out) H1
def spRowTxt (CR : Addr) : Sp := fun vs H Q _ => ∃ (p : Addr) (ws : List Int), vs = [.ref p] ∧ RowAt CR H p (ws.map V.int) ∧ (∀ z ∈ ws, z.natAbs ≤ 24) ∧ ws.length ≤ 24 ∧ ∀ H', Same H H' → Q (.str (rowTxt ws)) H'
theorem scRowTxt : FnScope ["row", "waggon"] ["row"] (defScope sRowTxt) := ⟨rfl, rfl, rfl, by decide +kernel, rfl, by decide +kernel, by decide +kernel⟩
theorem ok_rowtxt {f : Addr} {fd : FuncData} (F : Fun K "row_text" "row_text" sRowTxt f fd) (B : Blt mg) (R : RowC K mg CR) : FnOk P w K mg base CX0 1 f fd ["row"] (spRowTxt CR) := by
  refine F.ok scRowTxt (fun vs H Q E h => ?_) (fun cdv A outer s H vs Q E hr h => ?_)
  · obtain ⟨p, ws, rfl, _⟩ := h
    rfl
  · obtain ⟨p, ws, rfl, ⟨dx, tp, h1, h2⟩, hb, hl, k⟩ := h
    refine ⟨_, (pss_one (ps_ret (pe_join pe_str (pe_lc (own := [("waggon", 1)]) (tt := tYes) rfl scRowTxt.nd (pi_tup (pe_fldF (pv 0))) (blkOk_by (own := [("waggon", 1)]) (N := ["row", "waggon"]) (sc := defScope sRowTxt) (by decide +kernel)) (fun _ _ _ _ _ => (pg_name (i := 1) scRowTxt.nd rfl (by first | exact Or.inl rfl | exact Or.inr rfl))) (fun _ _ _ _ _ => pts_nil) (fun _ _ _ _ _ => (pe_joined1 (pe_fmtS (pv 1) (pe_joined1 pe_str)))))))), ?_⟩
    refine ⟨⟨_, rfl⟩, _, rfl, p, rfl, CR, dx, _, h1, R.cl, R.nW, _, rfl, tp, rfl, ⟨_, SqT.of h2⟩, fun D hD => ?_⟩
    refine lc_it (walk_tup (K := K) (a := tp) (xs := ws.map V.int)) (fun i H' => VW H H' [(D, .lst (((ws.map plusD).take i).map V.str))] []) (VW.start.push hD) (fun i H' _ v' => SqT.of (v'.fr _ _ h2)) ?_ ?_
    · rintro i x A1 A2 hi v1 ⟨rfl, hx⟩
      rw [List.getElem?_map] at hx
      obtain ⟨z, hz, rfl⟩ := Option.map_eq_some_iff.mp hx
      refine ⟨rfl, yes_if ?_⟩
      have nx : ((ws.map plusD).take (i + 1)).map V.str = ((ws.map plusD).take i).map V.str ++ [V.str (plusD z)] := by
        rw [List.take_succ, List.getElem?_map, hz]
        simp
      refine ⟨_, rfl, z, rfl, hb z (List.mem_of_getElem? hz), rfl, _, v1.facts.1, sz_lt (by rw [List.length_map, List.length_take, List.length_map]; omega), ?_⟩
      rw [nx]
      exact v1.put 0 rfl rfl
    · intro A1 v1
      rw [List.length_map, List.take_of_length_le (by rw [List.length_map]; omega)] at v1
      have sm := sumLe (b := 3) (ys := ws.map plusD) fun y hy => by
        obtain ⟨z, hz, rfl⟩ := List.mem_map.mp hy
        exact plusD_len (hb z hz)
      rw [List.length_map] at sm
      refine ⟨_, D, ws.map plusD, rfl, rfl, .inl (SqL.of v1.facts.1), by rw [List.length_map, show (Str.ofString " ").length = 1 from rfl]; omega, k A1 v1.fr⟩
def spTurnsTxt (K : PySem.W.Frag) (C : Kd → Addr) : Sp := fun vs H Q E => ∃ x : V, vs = [x] ∧
  ((∃ (b : Addr) (o : HO) (xs : List V) (n : Nat) (ps : List (Nat × Nat)), x = .ref b ∧ H b = some o ∧ sq o = some xs ∧ n ≤ xs.length ∧ xs.length ≤ 1000 ∧ ps.length = n ∧ PrL H (xs.take n) ps ∧ (∀ p ∈ ps, p.1 ≤ p.2 ∧ p.2 < 100) ∧
    ((n = xs.length ∧ ∀ H', Same H H' → Q (.str (prsTxt ps)) H') ∨
     (∃ y ov, xs[n]? = some y ∧ (∀ H', Same H H' → StV K H' y ov) ∧ stOk 99 ov = false ∧ ∀ d H', Same H H' → H' d = some (.xd [("place", .int (n : Nat))]) → E (.ref (C .turn)) (some d) H'))) ∨
   ((∀ H', Same H H' → ∃ t, TyX K H' x t ∧ PySem.W.kitAny K t [.type "list", .type "tuple"] = some false) ∧ ∀ d H', Same H H' → H' d = some (.xd [("place", .non)]) → E (.ref (C .turn)) (some d) H'))
theorem scTurnsTxt : FnScope ["turnings", "number", "turning", "first", "last"] ["turnings"] (defScope sTurnsTxt) := ⟨rfl, rfl, rfl, by decide +kernel, rfl, by decide +kernel, by decide +kernel⟩
theorem ok_turnstxt {f fT : Addr} {fd fdT : FuncData} {tW : Tok} (F : Fun K "turns_text" "turns_text" sTurnsTxt f fd) (B : Blt mg) (XB : ∀ k, hasK k = true → XDs P w K mg base C k) (hMW : mg "MOST_WRITTEN" = some (.int 99 tW)) (cStretch : Dn P w K mg base 3 "is_stretch" fT fdT ["value", "most"] (spStretch K)) :
    FnOk P w K mg base (L2.CX P w) 4 f fd ["turnings"] (spTurnsTxt K C) := by
  refine F.okX scTurnsTxt (fun vs H Q E h => ?_) (fun cdv A outer s H vs Q E hr h => ⟨_, (pss_cons (ps_if (pt_not (pt_val (pe_callB call_isiT (by rfl) B.isinstance (by decide +kernel) (pa_cons (pv 0) (pa_cons (pe_tupF (pa_cons (pe_bltn (v := .ty "list") (by rfl) B.list (by decide +kernel) rfl) (pa_cons (pe_bltn (v := .ty "tuple") (by rfl) B.tuple (by decide +kernel) rfl) pa_nil))) pa_nil))))) (pss_one (ps_raiseX (k := .turn) rfl (XB .turn (by decide)) (hr.mono (by decide)) (takes_of rfl rfl rfl rfl) pe_non (by rfl))) pss_nil)
      (pss_cons (ps_for (passes_of rfl) rfl (pi_enumA (by rfl) B.enumerate (pa_cons (pv 0) pa_nil)) (pg_tup (by rfl) (pgs_cons (pg_name (i := 1) scTurnsTxt.nd rfl (by first | exact Or.inl rfl | exact Or.inr rfl)) (pgs_cons (pg_name (i := 2) scTurnsTxt.nd rfl (by first | exact Or.inl rfl | exact Or.inr rfl)) pgs_nil))) (pss_one (ps_if (pt_not (pt_val (pe_call cStretch.ok (hr.mono (by decide)) rfl cStretch.mgf cStretch.kp cStretch.bi .nil pass0 (pa_cons (pv 2) (pa_cons (pe_glob (v := .int 99) (by rfl) hMW ⟨_, rfl⟩) pa_nil))))) (pss_one (ps_raiseX (k := .turn) rfl (XB .turn (by decide)) (hr.mono (by decide)) (takes_of rfl rfl rfl rfl) (pv 1) (by rfl))) pss_nil)))
      (pss_one (ps_ret (pe_join pe_str (pe_lc (own := [("first", 3), ("last", 4)]) (tt := tYes) (g := gTup K 2 (gCons (gName 3) (gCons (gName 4) gNil))) rfl scTurnsTxt.nd (pi_either (pv 0)) (blkOk_by (own := [("first", 3), ("last", 4)]) (N := ["turnings", "number", "turning", "first", "last"]) (sc := defScope sTurnsTxt) (by decide +kernel)) (fun _ _ _ _ _ => (pg_tup (by rfl) (pgs_cons (pg_name (i := 3) scTurnsTxt.nd rfl (by first | exact Or.inl rfl | exact Or.inr rfl)) (pgs_cons (pg_name (i := 4) scTurnsTxt.nd rfl (by first | exact Or.inl rfl | exact Or.inr rfl)) pgs_nil)))) (fun _ _ _ _ _ => pts_nil) (fun _ _ _ _ _ => (pe_joined (.cons (pe_fmt (pv 3)) (.cons pe_str (.cons (pe_fmt (pv 4)) .nil))))))))))), ?_⟩)
  · obtain ⟨x, rfl, _⟩ := h
    rfl
  · obtain ⟨x, rfl, h⟩ := h
    refine seq_nx (fun σ' H' => σ' = [some x, none, none, none, none] ∧ Same H H' ∧ ∃ (b : Addr) (o : HO) (xs : List V) (n : Nat) (ps : List (Nat × Nat)), x = .ref b ∧ H b = some o ∧ sq o = some xs ∧ n ≤ xs.length ∧ xs.length ≤ 1000 ∧ ps.length = n ∧ PrL H (xs.take n) ps ∧ (∀ p ∈ ps, p.1 ≤ p.2 ∧ p.2 < 100) ∧
      ((n = xs.length ∧ ∀ H', Same H H' → Q (.str (prsTxt ps)) H') ∨
       (∃ y ov, xs[n]? = some y ∧ (∀ H', Same H H' → StV K H' y ov) ∧ stOk 99 ov = false ∧ ∀ d H', Same H H' → H' d = some (.xd [("place", .int (n : Nat))]) → E (.ref (C .turn)) (some d) H'))) (fun Z hZ => ?_) ?_
    · walk_at "s"
      refine ⟨sz_le (by decide), view_tup VW.start fun tp0 H1 v1 => ?_⟩
      have hT := v1.tu _ List.mem_cons_self
      have pc : Paired ClsV [.ty "list", .ty "tuple"] [.type "list", .type "tuple"] := .cons (.ty _) (.cons (.ty _) .nil)
      rcases h with ⟨b, o, xs, n, ps, rfl, hb, ho, hn, hx, hps, hP, hk, hc⟩ | ⟨hno, kb⟩
      · obtain ⟨t, ht, hk2⟩ := ty_sq (K := K) (v1.fr _ _ hb) ho
        exact ⟨_, _, _, _, _, true, rfl, hT, pc, ht, hk2, .inr ⟨rfl, hZ _ _ ⟨rfl, v1.fr, b, o, xs, n, ps, rfl, hb, ho, hn, hx, hps, hP, hk, hc⟩⟩⟩
      · obtain ⟨t, ht, hk2⟩ := hno H1 v1.fr
        exact ⟨_, _, _, _, _, false, rfl, hT, pc, ht, hk2, .inl ⟨rfl, fun d hd => kb d _ (fun b o h => (Same.new hd) _ _ (v1.fr _ _ h)) upd_same⟩⟩
    rintro σ1 H1 ⟨rfl, s1, b, o, xs, n, ps, rfl, hb, ho, hn, hx, hps, hP, hk, hc⟩
    refine seq_nx (fun σ' H' => ∃ u1 u2, σ' = [some (.ref b), u1, u2, none, none] ∧ Same H H' ∧ n = xs.length ∧ ∀ H', Same H H' → Q (.str (prsTxt ps)) H') (fun Z hZ => ?_) ?_
    · have hb1 := s1 _ _ hb
      refine ⟨_, rfl, b, xs, rfl, ?_⟩
      obtain ⟨Pv, ePv⟩ : ∃ Pv : Nat → L2.St → Hp → Prop, Pv = fun i σ H' => ∃ (u1 u2 : Option V), i ≤ n ∧ σ = [some (.ref b), u1, u2, none, none] ∧ Same H H' := ⟨_, rfl⟩
      have h0 : Pv 0 [some (.ref b), none, none, none, none] H1 := by
        rw [ePv]
        exact ⟨none, none, Nat.zero_le _, rfl, s1⟩
      have sm : ∀ i σ H', Pv i σ H' → H' b = some o := fun i σ H' h => by
        rw [ePv] at h
        obtain ⟨u1, u2, _, _, s'⟩ := h
        exact s' _ _ hb
      refine Or.elim (sq_or (K := K) hb ho) (fun hS => .inl ⟨Same.seq s1 hS, for_it (walk_enum (K := K) (a := b) (xs := xs)) Pv h0 (fun i σ H' _ h => sameSeq hb (sm i σ H' h) hS) ?_ ?_⟩)
        (fun hS => .inr ⟨seqT_same hb1 hb hS, for_it (walk_enumT (K := K) (a := b) (xs := xs)) Pv h0 (fun i σ H' _ h => seqT_same (sm i σ H' h) hb hS) ?_ ?_⟩)
      all_goals first
        | (rintro σ H' hPv
           rw [ePv] at hPv
           obtain ⟨u1, u2, hi, rfl, s'⟩ := hPv
           rcases hc with ⟨e, kg⟩ | ⟨y, ov, hy, _⟩
           · exact hZ _ _ ⟨u1, u2, rfl, s', e, kg⟩
           · have := (List.getElem?_eq_some_iff.mp hy).1
             omega)
        | skip
      all_goals
        rintro i x σ H' H2 hi hPv ⟨T, y1, y2, rfl, hT, rfl, e1, e2⟩
        rw [ePv] at hPv
        obtain ⟨u1, u2, hin, rfl, s'⟩ := hPv
        cases e1
        have sT : Same H' (upd H' T (.tup [.int (i : Nat), y2])) := Same.new hT
        have s2 : Same H (upd H' T (.tup [.int (i : Nat), y2])) := Same.tx s' sT
        refine ⟨T, _, rfl, SqT.of upd_same, rfl, _, _, rfl, _, _, rfl, rfl, ?_⟩
        have hx2 : xs[i]? = some y2 := e2
        walk_at "s"
        rcases Nat.lt_or_ge i n with hlt | hge
        · obtain ⟨p, a, hp, rfl, ha⟩ := hP.get (k := i) (y := y2) (by rw [List.getElem?_take_of_lt hlt]; exact hx2)
          have kp := hk p (List.mem_of_getElem? hp)
          refine ⟨.ref a, _, some (.int (p.1 : Nat), .int (p.2 : Nat)), rfl, ⟨a, rfl, s2 _ _ ha, .int _, .int _⟩, fun H5 s5 => .inr ⟨?_, ?_⟩⟩
          · have : stOk 99 (some (.int (p.1 : Nat), .int (p.2 : Nat))) = true := by
              simp only [stOk, wholeV, Bool.and_eq_true, decide_eq_true_eq]
              omega
            rw [this]
          · rw [ePv]
            exact ⟨_, _, by omega, rfl, Same.tx s2 s5⟩
        · have ein : i = n := by omega
          subst ein
          rcases hc with ⟨e, _⟩ | ⟨y, ov, hy, hst, hno, kb⟩
          · omega
          · have ey : y = y2 := by
              rw [hx2] at hy
              exact (Option.some.inj hy).symm
            subst ey
            refine ⟨y, _, ov, rfl, hst _ s2, fun H5 s5 => .inl ⟨by rw [hno], fun d hd => kb d _ (Same.tx s2 (Same.tx s5 (Same.new hd))) upd_same⟩⟩
    rintro σ2 H2 ⟨u1, u2, rfl, s2, en, kg⟩
    have hb2 := s2 _ _ hb
    rw [en, List.take_length] at hP
    have lv := hP.len
    refine ⟨⟨_, rfl⟩, ?_⟩
    have fin : ∀ D A1, VW H2 A1 [(D, .lst ((ps.map pTxt).map V.str))] [] → ∃ a p ys, V.str (Str.ofString ", ") = .str a ∧ [V.ref D] = [.ref p] ∧ (SqL K A1 p (ys.map V.str) ∨ SqT K A1 p (ys.map V.str)) ∧ (ys.map fun x => x.length).sum + ys.length * a.length ≤ 16777216 ∧ Q (V.str (Txt.join a ys)) A1 := fun D A1 v1 => by
      have sm := sumLe (b := 5) (ys := ps.map pTxt) fun y hy => by
        obtain ⟨z, hz, rfl⟩ := List.mem_map.mp hy
        have := hk z hz
        exact pTxt_len (by omega) (by omega)
      rw [List.length_map] at sm
      exact ⟨_, D, ps.map pTxt, rfl, rfl, .inl (SqL.of v1.facts.1), by rw [List.length_map, show (Str.ofString ", ").length = 2 from rfl]; omega, kg A1 (Same.tx s2 v1.fr)⟩
    have stp : ∀ (D : Addr) (i : Nat) (y : V) (A1 : Hp), VW H2 A1 [(D, .lst (((ps.map pTxt).take i).map V.str))] [] → xs[i]? = some y → ∃ (q : Nat × Nat) (t : Addr), y = .ref t ∧ A1 t = some (.tup [.int (q.1 : Nat), .int (q.2 : Nat)]) ∧ q.1 < 100 ∧ q.2 < 100 ∧ VW H2 (upd A1 D (.lst (((ps.map pTxt).take i).map V.str ++ [V.str (pTxt q)]))) [(D, .lst (((ps.map pTxt).take (i + 1)).map V.str))] [] := fun D i y A1 v1 hy => by
      obtain ⟨q, t, hq, rfl, ht⟩ := hP.get hy
      have b := hk q (List.mem_of_getElem? hq)
      refine ⟨q, t, rfl, v1.fr _ _ (s2 _ _ ht), by omega, by omega, ?_⟩
      have nx : ((ps.map pTxt).take (i + 1)).map V.str = ((ps.map pTxt).take i).map V.str ++ [V.str (pTxt q)] := by
        rw [List.take_succ, List.getElem?_map, hq]
        simp
      rw [nx]
      exact v1.put 0 rfl rfl
    have one : ∀ (D : Addr) (i : Nat) (q : Nat × Nat) (A1 : Hp), VW H2 A1 [(D, .lst (((ps.map pTxt).take i).map V.str))] [] → q.1 < 100 → q.2 < 100 → VW H2 (upd A1 D (.lst (((ps.map pTxt).take i).map V.str ++ [V.str (pTxt q)]))) [(D, .lst (((ps.map pTxt).take (i + 1)).map V.str))] [] → tP3 [some (.ref b), u1, u2, some (.int (q.1 : Nat)), some (.int (q.2 : Nat))] A1 fun y H4 => ∃ acc, H4 D = some (.lst acc) ∧ acc.length < sizeLine ∧ VW H2 (upd H4 D (.lst (acc ++ [y]))) [(D, .lst (((ps.map pTxt).take (i + 1)).map V.str))] [] := fun D i q A1 v1 q1 q2 nx => by
      have l1 := num_len q.1 q1
      have l2 := num_len q.2 q2
      have e0 : ∀ z : Str, Str.empty ++ z = z := emptyApp
      refine ⟨_, rfl, .inr ⟨_, rfl, small_log _ q1, _, rfl, ?_, ?_⟩⟩
      · rw [e0]
        exact sz_le (by omega)
      rw [e0]
      refine ⟨_, rfl, ?_, _, rfl, .inr ⟨_, rfl, small_log _ q2, _, rfl, ?_, ?_⟩⟩
      · exact sz_le (by rw [lenApp, show (Str.ofString "-").length = 1 from rfl]; omega)
      · exact sz_le (by rw [lenApp, lenApp, show (Str.ofString "-").length = 1 from rfl]; omega)
      · exact ⟨_, v1.facts.1, sz_lt (by rw [List.length_map, List.length_take, List.length_map]; omega), nx⟩
    rcases sq_or (K := K) hb2 ho with hS | hS
    · refine .inl ⟨_, rfl, b, rfl, ⟨_, hS⟩, fun D hD => ?_⟩
      refine lc_it (walk_list (K := K) (a := b) (xs := xs)) (te := tP3) (fun i H' => VW H2 H' [(D, .lst (((ps.map pTxt).take i).map V.str))] []) (VW.start.push hD) (fun i H' _ v' => Same.seq v'.fr hS) ?_ ?_
      · rintro i y A1 A2 hi v1 ⟨rfl, hy⟩
        obtain ⟨q, t, rfl, ht, q1, q2, nx⟩ := stp D i y _ v1 hy
        refine ⟨t, _, rfl, SqT.of ht, rfl, _, _, rfl, _, _, rfl, rfl, rfl, yes_if ?_⟩
        exact one D i q _ v1 q1 q2 nx
      · intro A1 v1
        rw [List.take_of_length_le (by rw [List.length_map]; omega)] at v1
        exact fin D A1 v1
    · refine .inr ⟨_, rfl, b, rfl, ⟨_, hS⟩, fun D hD => ?_⟩
      refine lc_it (walk_tup (K := K) (a := b) (xs := xs)) (te := tP3) (fun i H' => VW H2 H' [(D, .lst (((ps.map pTxt).take i).map V.str))] []) (VW.start.push hD) (fun i H' _ v' => seqT_same (v'.fr _ _ hb2) hb2 hS) ?_ ?_
      · rintro i y A1 A2 hi v1 ⟨rfl, hy⟩
        obtain ⟨q, t, rfl, ht, q1, q2, nx⟩ := stp D i y _ v1 hy
        refine ⟨t, _, rfl, SqT.of ht, rfl, _, _, rfl, _, _, rfl, rfl, rfl, yes_if ?_⟩
        exact one D i q _ v1 q1 q2 nx
      · intro A1 v1
        rw [List.take_of_length_le (by rw [List.length_map]; omega)] at v1
        exact fin D A1 v1
end

end Fab
set_option maxHeartbeats 2000000
namespace Fab
open PySem L2 PySem.FabX
abbrev sLTurn : Stmt := top 37
local macro_rules | `(tactic| walk_at "s") => `(tactic| simp [tPar, tSeq, tAsg, tOp, tUn, tVar, tC, gName, tCons, tNil, tCB, tCall, rI, rI0, rU, tRet, tDrop, tIfS, tNext, tIf, tTest, tNot, tOr, tAnd, tB, L2.start, CMul, CDiv, rIxF, rLenF, rIntF, sq_lst, sq_tup, tLstF, tTupF, gSub, rCatF, rCatTF, rInF, rNe, rEq, tAndV, tOrV, tNotV, tChain, rTupF, tFldF, tRx, tMake, tSl, tPart, tNoPart, rSlTF, rSlF, tRevTF, gTup, gCons, gNil])
/-! ### drawn rows of the later laws: tuples -/
section
variable {P : Program} {w : World} {K : PySem.W.Frag} {mg : Str → Option Value} {base : Heap}
def spLTurn : Sp := fun vs H Q _ => ∃ (p : Addr) (ws : List Int) (i j : Nat), vs = [.ref p, .int (i : Nat), .int (j : Nat)] ∧ H p = some (.tup (ws.map V.int)) ∧ i ≤ j ∧ j < ws.length ∧ ws.length ≤ 1000 ∧ ∀ q H', Same H H' → H' q = some (.tup ((turnL ws i j).map V.int)) → Q (.ref q) H'
theorem scLTurn : FnScope ["waggons", "first", "last", "one"] ["waggons", "first", "last"] (defScope sLTurn) := ⟨rfl, rfl, rfl, by decide +kernel, rfl, by decide +kernel, by decide +kernel⟩
theorem ok_lturn {f : Addr} {fd : FuncData} (F : Fun K "_law_turn" "_law_turn" sLTurn f fd) (B : Blt mg) : FnOk P w K mg base CX0 1 f fd ["waggons", "first", "last"] spLTurn := by
  refine F.ok scLTurn (fun vs H Q E h => ?_) (fun cdv A outer s H vs Q E hr h => ?_)
  · obtain ⟨p, ws, i, j, rfl, _⟩ := h
    rfl
  · obtain ⟨p, ws, i, j, rfl, ht, hij, hj, hz, k⟩ := h
    refine ⟨_, (pss_one (ps_ret (pe_op catTF (pe_op catTF (pe_slice slTF (pv 0) po_none (po_some (pv 1))) (pe_callTy tupF (by rfl) B.tuple (by decide +kernel) (pa_cons (pe_lc (own := [("one", 3)]) (tt := tYes) rfl scLTurn.nd (pi_tup (pe_revTF (pe_slice slTF (pv 0) (po_some (pv 1)) (po_some (pe_op op_add (pv 2) pe_int))))) (blkOk_by (own := [("one", 3)]) (N := ["waggons", "first", "last", "one"]) (sc := defScope sLTurn) (by decide +kernel)) (fun _ _ _ _ _ => (pg_name (i := 3) scLTurn.nd rfl (by first | exact Or.inl rfl | exact Or.inr rfl))) (fun _ _ _ _ _ => pts_nil) (fun _ _ _ _ _ => (pe_op op_sub pe_int (pv 3)))) pa_nil))) (pe_slice slTF (pv 0) (po_some (pe_op op_add (pv 2) pe_int)) po_none)))), ?_⟩
    walk_at "s"
    refine ⟨_, ht, view_tup VW.start fun t1 H1 v1 => ?_⟩
    rw [cut_b (by rw [List.length_map]; omega)] at v1
    have hp1 := v1.fr _ _ ht
    unfold tLc iTup tRevTF tSl rSlTF tPart
    refine ⟨_, rfl, _, rfl, i, rfl, _, rfl, _, _, rfl, rfl, _, rfl, p, rfl, _, hp1, view_tup v1 fun t2 H2 v2 => ?_⟩
    rw [cut_a hij (by rw [List.length_map]; omega)] at v2
    refine ⟨t2, rfl, _, v2.tu _ List.mem_cons_self, view_tup v2 fun t3 H3 v3 => ⟨t3, rfl, ⟨_, SqT.of (v3.tu _ List.mem_cons_self)⟩, fun D hD => lc_mapT (ws := ((ws.drop i).take (j + 1 - i)).reverse) (g := fun z => 0 - z) v3 hD (fun H' acc v' => ?_) (fun _ => rfl) (fun z _ _ q => ?_) ?_ fun H4 v4 => ?_⟩⟩
    · rw [List.map_reverse, List.map_take, List.map_drop]
      exact SqT.of (v'.tu _ List.mem_cons_self)
    · exact ⟨_, rfl, _, _, rfl, rfl, q⟩
    · rw [List.length_reverse, List.length_take, List.length_drop]
      omega
    have hz' : ∀ k : Nat, k ≤ 1000 → k ≤ sizeLine := fun k hk => sz_le (by omega)
    refine ⟨D, rfl, _, v4.facts.1, _, rfl, view_tup v4 fun t5 H5 v5 => ⟨_, v5.tu (t1, (ws.map V.int).take i) (by simp), _, v5.tu _ List.mem_cons_self, hz' _ (by simp; omega), view_tup v5 fun t6 H6 v6 => ⟨_, v6.fr _ _ ht, ?_⟩⟩⟩
    rw [cut_c (by rw [List.length_map]; omega)]
    refine view_tup v6 fun t7 H7 v7 => ⟨_, v7.tu _ (List.mem_cons_of_mem _ List.mem_cons_self), _, v7.tu _ List.mem_cons_self, hz' _ (by simp; omega), view_tup v7 fun t8 H8 v8 => ?_⟩
    have et : (ws.map V.int).take i ++ ((((ws.drop i).take (j + 1 - i)).reverse.map fun z => 0 - z).map V.int) ++ (ws.map V.int).drop (j + 1) = (turnL ws i j).map V.int := by
      unfold turnL
      simp only [List.map_append, List.map_take, List.map_drop, List.map_reverse]
    refine k t8 H8 v8.fr ?_
    rw [← et]
    exact v8.tu _ List.mem_cons_self
theorem cut_n {ws : List V} {i : Nat} (hi : i ≤ ws.length) : cutV ws (some (i : Int)) none = ws.drop i := by
  unfold cutV
  rw [HT.sIx_none, HT.sIx_nat, Nat.min_eq_left hi]
  exact List.take_of_length_le (by simp)
theorem IsRow.put {ws : List Int} {i k : Nat} {z : Int} (h : IsRow ws i) (hz : z.natAbs = i + 1) : IsRow (ws.take k ++ [z] ++ ws.drop k) (i + 1) := by
  unfold IsRow at h ⊢
  have e : (ws.take k ++ [z] ++ ws.drop k).Perm (ws ++ [z]) := by
    conv => rhs; rw [← List.take_append_drop k ws]
    rw [List.append_assoc, List.append_assoc]
    exact List.Perm.append_left _ List.perm_append_comm
  refine (e.map Int.natAbs).trans ?_
  rw [List.map_append, List.range'_1_concat]
  refine List.Perm.append h ?_
  simp [hz, Nat.add_comm]
theorem call_v0c {sp : Sp} {a v : V} {σ : St} {H : Hp} {Q : VK} (h0 : σ[0]? = some (some a)) (h : sp [a, v] H Q E0) : tCall sp [] E0 (tCons (tVar 0) (tCons (tC v) tNil)) σ H Q := by
  simp only [tCall, tCons, tVar, tC, tNil, List.append_nil]
  exact ⟨a, h0, h⟩
def spRowT (Tb : List (Addr × Str)) : Sp := fun vs H Q _ => ∃ (m c g : Addr) (cs : List Int) (N many : Nat), vs = [.ref m, .int (many : Nat)] ∧ many ≤ 24 ∧ DS m c g cs Tb N H ∧ N < 2 ^ 36 ∧
  ∀ (p : Addr) (ws : List Int) (H' : Hp), IsRow ws many → H' p = some (.tup (ws.map V.int)) → DS m c g cs Tb (N + 100) H' → Kn m g H H' → Q (.ref p) H'
theorem scRowT : FnScope ["m", "many", "found", "way", "n", "first", "number", "k", "one"] ["m", "many"] (defScope sRow) := ⟨rfl, rfl, rfl, by decide +kernel, rfl, by decide +kernel, by decide +kernel⟩
theorem ok_rowT {Tb : List (Addr × Str)} {f fD fT : Addr} {fd fdD fdT : FuncData} (F : Fun K "_law_row" "_law_row" sRow f fd) (B : Blt mg) (cDraw : Dn P w K mg base 2 "_law_draw" fD fdD ["m", "limit"] spDraw) (cTurn : Dn P w K mg base 1 "_law_turn" fT fdT ["waggons", "first", "last"] spLTurn) : FnOk P w K mg base CX0 3 f fd ["m", "many"] (spRowT Tb) := by
  refine F.ok scRowT (fun vs H Q E h => ?_) (fun cdv A outer s H vs Q E hr h => ?_)
  · obtain ⟨m, c, g, cs, N, many, rfl, _⟩ := h
    rfl
  · obtain ⟨m, c, g, cs, N, many, rfl, hm, hD, hN, k⟩ := h
    have hu := hu_of hr
    refine ⟨_, (pss_cons (ps_par (i := 2) (j := 3) (by rfl) scRowT.nd rfl rfl (by decide) rfl rfl (pa_cons (pe_tupF pa_nil) (pa_cons (pe_call cDraw.ok (hr.mono (by decide)) rfl cDraw.mgf cDraw.kp cDraw.bi .nil pass0 (pa_cons (pv 0) (pa_cons pe_int pa_nil))) pa_nil)) (by rfl))
      (pss_cons (ps_if (pt_cmpR op_eq (pv 3) pe_int (nomark _)) (pss_cons (ps_set (i := 2) scRowT.nd rfl (by first | exact Or.inl rfl | exact Or.inr rfl) (pe_tupRg rfl (by rfl) B.tuple (prg_2 rfl B.range pe_int (pe_op op_add (pv 1) pe_int))))
      (pss_cons (ps_for PassesOwn.never rfl (pi_range1 (by rfl) B.range (pa_cons (pe_ifExp (pt_cmpR op_gt (pv 1) pe_int (nomark _)) (pe_call cDraw.ok (hr.mono (by decide)) rfl cDraw.mgf cDraw.kp cDraw.bi .nil pass0 (pa_cons (pv 0) (pa_cons pe_int pa_nil))) pe_int) pa_nil)) (pg_name (i := 4) scRowT.nd rfl (by first | exact Or.inl rfl | exact Or.inr rfl)) (pss_cons (ps_set (i := 5) scRowT.nd rfl (by first | exact Or.inl rfl | exact Or.inr rfl) (pe_call cDraw.ok (hr.mono (by decide)) rfl cDraw.mgf cDraw.kp cDraw.bi .nil pass0 (pa_cons (pv 0) (pa_cons (pv 1) pa_nil))))
      (pss_one (ps_set (i := 2) scRowT.nd rfl (by first | exact Or.inl rfl | exact Or.inr rfl) (pe_call cTurn.ok (hr.mono (by decide)) rfl cTurn.mgf cTurn.kp cTurn.bi .nil pass0 (pa_cons (pv 2) (pa_cons (pv 5) (pa_cons (pe_op op_add (pv 5) (pe_call cDraw.ok (hr.mono (by decide)) rfl cDraw.mgf cDraw.kp cDraw.bi .nil pass0 (pa_cons (pv 0) (pa_cons (pe_op op_sub (pv 1) (pv 5)) pa_nil)))) pa_nil))))))))
      (pss_one (ps_ret (pv 2))))) pss_nil)
      (pss_cons (ps_for PassesOwn.never rfl (pi_range2 (by rfl) B.range (pa_cons pe_int (pa_cons (pe_op op_add (pv 1) pe_int) pa_nil))) (pg_name (i := 6) scRowT.nd rfl (by first | exact Or.inl rfl | exact Or.inr rfl)) (pss_cons (ps_set (i := 7) scRowT.nd rfl (by first | exact Or.inl rfl | exact Or.inr rfl) (pe_call cDraw.ok (hr.mono (by decide)) rfl cDraw.mgf cDraw.kp cDraw.bi .nil pass0 (pa_cons (pv 0) (pa_cons (pe_op op_add (pe_callB lenF (by rfl) B.len (by decide +kernel) (pa_cons (pv 2) pa_nil)) pe_int) pa_nil))))
      (pss_cons (ps_set (i := 8) scRowT.nd rfl (by first | exact Or.inl rfl | exact Or.inr rfl) (pe_ifExp (PW.pt (pw_and (pt_cmpR op_gt (pv 3) pe_int (nomark _)) (pw_and1 (pt_cmpR op_eq (pe_call cDraw.ok (hr.mono (by decide)) rfl cDraw.mgf cDraw.kp cDraw.bi .nil pass0 (pa_cons (pv 0) (pa_cons pe_int pa_nil))) pe_int (nomark _))))) (pe_op op_sub pe_int (pv 6)) (pv 6)))
      (pss_one (ps_set (i := 2) scRowT.nd rfl (by first | exact Or.inl rfl | exact Or.inr rfl) (pe_op catTF (pe_op catTF (pe_slice slTF (pv 2) po_none (po_some (pv 7))) (pe_tupF (pa_cons (pv 8) pa_nil))) (pe_slice slTF (pv 2) (po_some (pv 7)) po_none)))))))
      (pss_one (ps_ret (pv 2)))))), ?_⟩
    refine seq_nx (fun σ' H' => ∃ (p0 : Addr) (way : Int), σ' = [some (.ref m), some (.int (many : Nat)), some (.ref p0), some (.int way), none, none, none, none, none] ∧ H' p0 = some (.tup []) ∧ 0 ≤ way ∧ DS m c g cs Tb (N + 1) H' ∧ Kn m g H H') (fun Z hZ => ?_) ?_
    · walk_at "s"
      refine view_tup VW.start fun p0 H1 v1 => draw_ds (hD.same v1.fr) (by decide) (by decide) (by omega) fun r H2 r0 r1 d2 k2 => ⟨_, _, ⟨rfl, rfl⟩, ?_⟩
      exact hZ _ _ ⟨p0, r, rfl, k2.at (hD.same v1.fr) (v1.tu _ List.mem_cons_self) rfl, r0, d2, Kn.trans (Kn.of v1.fr) k2⟩
    rintro σ1 H1 ⟨p0, way, rfl, h0, w0, d1, k1⟩
    refine seq_nx (fun σ' H' => σ' = [some (.ref m), some (.int (many : Nat)), some (.ref p0), some (.int way), none, none, none, none, none] ∧ H' = H1 ∧ way ≠ 3) (fun Z hZ => ?_) ?_
    · walk_at "s"
      refine ⟨rfl, ?_⟩
      split
      · refine ⟨_, rfl, _, _, rfl, rfl, _, _, rfl, rfl, RgOk.of_le (by omega) (by omega) (by omega) (by omega), fun q hq => ?_⟩
        rw [rg_ints]
        have s1 : Same H1 (upd H1 q (.tup ((firstI many).map V.int))) := Same.new hq
        have d2 := d1.same s1
        have k2 : Kn m g H _ := Kn.trans k1 (Kn.of s1)
        have h2 : upd H1 q (.tup ((firstI many).map V.int)) q = _ := upd_same
        revert d2 k2 h2
        generalize upd H1 q (.tup ((firstI many).map V.int)) = H2
        intro d2 k2 h2
        rcases Nat.eq_zero_or_pos many with h0' | hpos
        · subst h0'
          refine ⟨_, rfl, _, _, rfl, rfl, _, rfl, (if_neg (by decide)).mpr ⟨0, rfl, by decide, by decide, ?_⟩⟩
          refine for_it (walk_range (lo := 0) (n := 0)) (fun i σ H' => σ = [some (.ref m), some (.int (0 : Nat)), some (.ref q), some (.int way), none, none, none, none, none] ∧ H' = H2) ⟨rfl, rfl⟩ (fun _ _ _ _ _ => True.intro) (fun i x σ H' H'' hi _ _ => absurd hi (by omega)) ?_
          rintro σ H3 ⟨rfl, rfl⟩
          exact ⟨_, rfl, k q [] H3 (List.Perm.refl _) h2 (d2.le (by omega)) k2⟩
        · refine ⟨_, rfl, _, _, rfl, rfl, _, rfl, (if_pos (by simp; omega)).mpr (call_v0c rfl ?_)⟩
          refine draw_ds (lim := 6) d2 (by decide) (by decide) (by omega) fun r H3 r0 r1 d3 k3 => ?_
          obtain ⟨r, rfl⟩ := Int.eq_ofNat_of_zero_le r0
          refine ⟨_, rfl, by omega, by omega, ?_⟩
          rw [show ((r : Nat) : Int).toNat = r by omega]
          refine for_it (walk_range (lo := 0) (n := r)) (fun i σ H' => ∃ (p : Addr) (ws : List Int) (u4 u5 : Option V), σ = [some (.ref m), some (.int (many : Nat)), some (.ref p), some (.int way), u4, u5, none, none, none] ∧ IsRow ws many ∧ H' p = some (.tup (ws.map V.int)) ∧ DS m c g cs Tb (N + 2 + 2 * i) H' ∧ Kn m g H H')
            ⟨q, firstI many, none, none, rfl, isRow_first many, k3.at d2 h2 rfl, d3, Kn.trans k2 k3⟩ (fun _ _ _ _ _ => True.intro) ?_ ?_
          · rintro i x σ H4 H5 hi ⟨p, ws, u4, u5, rfl, hr, hp, d4, k4⟩ ⟨rfl, rfl⟩
            have lw := hr.len
            refine ⟨_, rfl, _, rfl, ?_⟩
            dsimp only [tNil, List.nil_append, List.cons_append]
            refine draw_ds d4 (by omega) (by omega) (by omega) fun x H6 x0 x1 d5 k5 => ?_
            obtain ⟨x, rfl⟩ := Int.eq_ofNat_of_zero_le x0
            refine ⟨_, rfl, _, rfl, _, rfl, _, rfl, _, rfl, _, rfl, _, _, rfl, rfl, ?_⟩
            dsimp only [tNil, List.nil_append, List.cons_append]
            refine draw_ds d5 (by omega) (by omega) (by omega) fun y H7 y0 y1 d6 k6 => ?_
            obtain ⟨y, rfl⟩ := Int.eq_ofNat_of_zero_le y0
            refine ⟨_, _, rfl, rfl, p, ws, x, x + y, by rw [Int.natCast_add], k6.at d5 (k5.at d4 hp rfl) rfl, by omega, by omega, by omega, fun p2 H8 s8 hp8 => ?_⟩
            exact ⟨p2, _, _, _, rfl, hr.turn (by omega), hp8, (d6.same s8).le (by omega), Kn.trans (Kn.trans (Kn.trans k4 k5) k6) (Kn.of s8)⟩
          · rintro σ H4 ⟨p, ws, u4, u5, rfl, hr, hp, d4, k4⟩
            exact ⟨_, rfl, k p ws H4 hr hp (d4.le (by omega)) k4⟩
      · exact hZ _ _ ⟨rfl, rfl, by assumption⟩
    rintro σ2 H2 ⟨rfl, rfl, hw⟩
    have e24 : ((many : Int) + 1 - 1).toNat = many := by omega
    refine ⟨_, rfl, _, _, rfl, rfl, 1, (many : Int) + 1, rfl, ⟨by omega, by omega, by omega, by omega⟩, ?_⟩
    rw [e24]
    refine for_it (walk_range (lo := 1) (n := many)) (fun i σ H' => ∃ (p : Addr) (ws : List Int) (u6 u7 u8 : Option V), σ = [some (.ref m), some (.int (many : Nat)), some (.ref p), some (.int way), none, none, u6, u7, u8] ∧ IsRow ws i ∧ H' p = some (.tup (ws.map V.int)) ∧ DS m c g cs Tb (N + 1 + 2 * i) H' ∧ Kn m g H H')
      ⟨p0, [], none, none, none, rfl, List.Perm.refl _, h0, d1, k1⟩ (fun _ _ _ _ _ => True.intro) ?_ ?_
    · rintro i x σ H3 H4 hi ⟨p, ws, u6, u7, u8, rfl, hr, hp, d3, k3⟩ ⟨rfl, rfl⟩
      have lw := hr.len
      refine seq_nx2 (fun σ' H' => ∃ (k : Nat) (z : Int), k ≤ i ∧ z.natAbs = i + 1 ∧ σ' = [some (.ref m), some (.int (many : Nat)), some (.ref p), some (.int way), none, none, some (.int (1 + (i : Int))), some (.int (k : Nat)), some (.int z)] ∧ DS m c g cs Tb (N + 1 + 2 * (i + 1)) H' ∧ Kn m g H4 H') (fun Z hZ => ?_) ?_
      · walk_at "s"
        refine ⟨_, hp, _, rfl, draw_ds d3 (by omega) (by rw [List.length_map]; omega) (by omega) fun x H5 x0 x1 d4 k4 => ?_⟩
        obtain ⟨x, rfl⟩ := Int.eq_ofNat_of_zero_le x0
        rw [List.length_map] at x1
        split
        · refine draw_ds d4 (by decide) (by decide) (by omega) fun y H6 y0 y1 d5 k5 => ⟨rfl, ?_⟩
          split
          · exact hZ _ _ ⟨x, -(1 + (i : Int)), by omega, by omega, rfl, d5.le (by omega), Kn.trans k4 k5⟩
          · exact hZ _ _ ⟨x, 1 + (i : Int), by omega, by omega, rfl, d5.le (by omega), Kn.trans k4 k5⟩
        · exact hZ _ _ ⟨x, 1 + (i : Int), by omega, by omega, rfl, d4.le (by omega), k4⟩
      rintro σ5 H5 ⟨k', z, hk', hz, rfl, d5, k5⟩
      have hp5 := k5.at d3 hp rfl
      walk_at "s"
      refine ⟨_, hp5, view_tup VW.start fun t1 A1 v1 => ⟨sz_le (by decide), view_tup v1 fun t2 A2 v2 => ?_⟩⟩
      rw [cut_b (by rw [List.length_map]; omega)] at v2
      have hz' : ∀ k : Nat, k ≤ 1000 → k ≤ sizeLine := fun k hk => sz_le (by omega)
      refine ⟨_, v2.tu _ (List.mem_cons_of_mem _ List.mem_cons_self), _, v2.tu _ List.mem_cons_self, hz' _ (by simp; omega), view_tup v2 fun t3 A3 v3 => ⟨_, v3.fr _ _ hp5, view_tup v3 fun t4 A4 v4 => ⟨_, v4.tu _ (List.mem_cons_of_mem _ List.mem_cons_self), _, v4.tu _ List.mem_cons_self, ?_, view_tup v4 fun t5 A5 v5 => ?_⟩⟩⟩
      · refine hz' _ ?_
        rw [cut_n (by rw [List.length_map]; omega)]
        simp
        omega
      rw [cut_n (by rw [List.length_map]; omega)] at v5
      have e : (ws.map V.int).take k' ++ [V.int z] ++ (ws.map V.int).drop k' = (ws.take k' ++ [z] ++ ws.drop k').map V.int := by simp
      rw [e] at v5
      have s5 := v5.fr
      exact ⟨_, hr.put hz, v5.tu _ List.mem_cons_self, d5.same s5, Kn.trans (Kn.trans k3 k5) (Kn.of s5)⟩
    · rintro σ H3 ⟨p, ws, u6, u7, u8, rfl, hr, hp, d3, k3⟩
      exact ⟨_, rfl, k p ws H3 hr hp (d3.le (by omega)) k3⟩
end

end Fab
set_option maxHeartbeats 2000000
namespace Fab
open PySem L2 PySem.FabX
abbrev sClass : Stmt := top 40
abbrev sTold : Stmt := top 41
local macro_rules | `(tactic| walk_at "s") => `(tactic| simp [tPar, tSeq, tAsg, tOp, tUn, tVar, tC, gName, tCons, tNil, tCB, tCall, rI, rI0, rU, tRet, tDrop, tIfS, tNext, tIf, tTest, tNot, tOr, tAnd, tB, L2.start, CMul, CDiv, rIxF, rLenF, rIntF, sq_lst, sq_tup, tLstF, tTupF, gSub, rCatF, rCatTF, rInF, rNe, rEq, tAndV, tOrV, tNotV, tChain, rTupF, tFldF, tXfK, tRx, tMake, tSl, tPart, tNoPart, rSlTF, rSlF, tRevTF, gTup, gCons, gNil])
/-! ### an exception as the laws tell it -/
theorem rIsK_of {K : PySem.W.Frag} {mg : Str → Option Value} {CF : Addr} {C : Kd → Addr} (T : Exs K mg CF C) {k : Kd} {a : Addr} {d : Option Addr} {H : Hp} {Q : VK} (j : Kd) (e : H a = some (exK a (.ref (C k)) d)) (x : XdAt H d) (q : Q (.bl (decide (k = j))) H) : rIsK K [.ref a, .ref (C j)] H Q :=
  ⟨a, C k, d, _, _, _, rfl, .own _, e, x, T.exc k, T.kit k j, q⟩
theorem rIsK_ve {K : PySem.W.Frag} {mg : Str → Option Value} {CF : Addr} {C : Kd → Addr} (T : Exs K mg CF C) {k : Kd} {a : Addr} {d : Option Addr} {H : Hp} {Q : VK} (e : H a = some (exK a (.ref (C k)) d)) (x : XdAt H d) (q : Q (.bl (!decide (k = .great))) H) : rIsK K [.ref a, .ty "ValueError"] H Q :=
  ⟨a, C k, d, _, _, _, rfl, .ty _, e, x, T.exc k, T.kve k, q⟩
theorem Same.cp {H H1 H2 : Hp} (a : Same H H1) (b : Same H1 H2) : Same H H2 := fun x o h => b _ _ (a _ _ h)
def kbs9 (k : Kd) : List Bool := kds9.map fun j => decide (k = j)
theorem fws_kd9 (k : Kd) : fws wds9 (kbs9 k) 9 = [.str k.name] := by
  cases k <;> kernel_rfl
/-- the pairs of a class's word and of whether it is the exception's, n of them -/
def Rws (k : Kd) (H : Hp) (vs : List V) (n : Nat) : Prop := vs.length = n ∧ ∀ i w b, i < n → wds9[i]? = some w → (kbs9 k)[i]? = some b → ∃ p, vs[i]? = some (.ref p) ∧ H p = some (.tup [.str w, .bl b])
theorem Rws.keep {k : Kd} {H H' : Hp} {vs : List V} {n : Nat} (h : Rws k H vs n) (s : ∀ p xs, H p = some (.tup xs) → H' p = some (.tup xs)) : Rws k H' vs n :=
  ⟨h.1, fun i w b hi hw hb => (h.2 i w b hi hw hb).imp fun _ z => ⟨z.1, s _ _ z.2⟩⟩
theorem Rws.same {k : Kd} {H H' : Hp} {vs : List V} {n : Nat} (h : Rws k H vs n) (s : Same H H') : Rws k H' vs n :=
  ⟨h.1, fun i w b hi hw hb => (h.2 i w b hi hw hb).imp fun _ z => ⟨z.1, s _ _ z.2⟩⟩
theorem Rws.snoc {k j : Kd} {H : Hp} {vs : List V} {n : Nat} {p : Addr} {w : Str} (h : Rws k H vs n) (hw : wds9[n]? = some w) (hj : kds9[n]? = some j) (hp : H p = some (.tup [.str w, .bl (decide (k = j))])) : Rws k H (vs ++ [.ref p]) (n + 1) := by
  refine ⟨by rw [List.length_append, h.1]; rfl, fun i w' b hi hw' hb => ?_⟩
  rcases Nat.lt_or_ge i n with h1 | h1
  · obtain ⟨q, h2, h3⟩ := h.2 i w' b h1 hw' hb
    exact ⟨q, by rw [List.getElem?_append_left (by rw [h.1]; exact h1)]; exact h2, h3⟩
  · have e : i = n := by omega
    subst e
    rw [hw] at hw'
    cases hw'
    have : (kbs9 k)[i]? = some (decide (k = j)) := by
      unfold kbs9
      rw [List.getElem?_map, hj]
      rfl
    rw [this] at hb
    cases hb
    exact ⟨p, by rw [List.getElem?_append_right (by rw [h.1]; omega), h.1]; simp, hp⟩
section
variable {P : Program} {w : World} {K : PySem.W.Frag} {mg : Str → Option Value} {base : Heap} {C : Kd → Addr} {CF : Addr}
def spClass (C : Kd → Addr) : Sp := fun vs H Q _ => ∃ (a : Addr) (k : Kd) (d : Option Addr), vs = [.ref a] ∧ H a = some (exK a (.ref (C k)) d) ∧
  ((k.has = true ∧ ∃ dd v, d = some dd ∧ H dd = some (.xd [(k.fld, v)]) ∧ ∀ p H', Same H H' → H' p = some (.tup (TdT k v)) → Q (.ref p) H') ∨ (k.has = false ∧ d = none ∧ ∀ p H', Same H H' → H' p = some (.tup (TdT k .non)) → Q (.ref p) H'))
theorem scClass : FnScope ["error", "rows", "words", "word", "holds"] ["error"] (defScope sClass) := ⟨rfl, rfl, rfl, by decide +kernel, rfl, by decide +kernel, by decide +kernel⟩
theorem ok_class {f : Addr} {fd : FuncData} (F : Fun K "_law_class" "_law_class" sClass f fd) (B : Blt mg) (T : Exs K mg CF C) : FnOk P w K mg base CX0 1 f fd ["error"] (spClass C) := by
  refine F.ok scClass (fun vs H Q E h => ?_) (fun cdv A outer s H vs Q E hr h => ?_)
  · obtain ⟨a, k, d, rfl, _⟩ := h
    rfl
  · obtain ⟨a, k, d, rfl, ha, hk⟩ := h
    refine ⟨_, (pss_cons (ps_set (i := 1) scClass.nd rfl (by first | exact Or.inl rfl | exact Or.inr rfl) (pe_lstF (pa_cons (pe_tupF (pa_cons pe_str (pa_cons (pe_callB call_isK (by rfl) B.isinstance (by decide +kernel) (pa_cons (pv 0) (pa_cons (pe_cl (by rfl) (T.mgc .row)) pa_nil))) pa_nil))) (pa_cons (pe_tupF (pa_cons pe_str (pa_cons (pe_callB call_isK (by rfl) B.isinstance (by decide +kernel) (pa_cons (pv 0) (pa_cons (pe_cl (by rfl) (T.mgc .turn)) pa_nil))) pa_nil))) pa_nil))))
      (pss_cons (ps_set (i := 1) scClass.nd rfl (by first | exact Or.inl rfl | exact Or.inr rfl) (pe_op catF (pv 1) (pe_lstF (pa_cons (pe_tupF (pa_cons pe_str (pa_cons (pe_callB call_isK (by rfl) B.isinstance (by decide +kernel) (pa_cons (pv 0) (pa_cons (pe_cl (by rfl) (T.mgc .place)) pa_nil))) pa_nil))) (pa_cons (pe_tupF (pa_cons pe_str (pa_cons (pe_callB call_isK (by rfl) B.isinstance (by decide +kernel) (pa_cons (pv 0) (pa_cons (pe_cl (by rfl) (T.mgc .number)) pa_nil))) pa_nil))) pa_nil)))))
      (pss_cons (ps_set (i := 1) scClass.nd rfl (by first | exact Or.inl rfl | exact Or.inr rfl) (pe_op catF (pv 1) (pe_lstF (pa_cons (pe_tupF (pa_cons pe_str (pa_cons (pe_callB call_isK (by rfl) B.isinstance (by decide +kernel) (pa_cons (pv 0) (pa_cons (pe_cl (by rfl) (T.mgc .other)) pa_nil))) pa_nil))) (pa_cons (pe_tupF (pa_cons pe_str (pa_cons (pe_callB call_isK (by rfl) B.isinstance (by decide +kernel) (pa_cons (pv 0) (pa_cons (pe_cl (by rfl) (T.mgc .text)) pa_nil))) pa_nil))) pa_nil)))))
      (pss_cons (ps_set (i := 1) scClass.nd rfl (by first | exact Or.inl rfl | exact Or.inr rfl) (pe_op catF (pv 1) (pe_lstF (pa_cons (pe_tupF (pa_cons pe_str (pa_cons (pe_callB call_isK (by rfl) B.isinstance (by decide +kernel) (pa_cons (pv 0) (pa_cons (pe_cl (by rfl) (T.mgc .way)) pa_nil))) pa_nil))) (pa_cons (pe_tupF (pa_cons pe_str (pa_cons (pe_callB call_isK (by rfl) B.isinstance (by decide +kernel) (pa_cons (pv 0) (pa_cons (pe_cl (by rfl) (T.mgc .nothing)) pa_nil))) pa_nil))) pa_nil)))))
      (pss_cons (ps_expr (pe_lm PySem.F.slot_list_append PySem.F.type_list_append appF (pv 1) (pa_cons (pe_tupF (pa_cons pe_str (pa_cons (pe_callB call_isK (by rfl) B.isinstance (by decide +kernel) (pa_cons (pv 0) (pa_cons (pe_cl (by rfl) (T.mgc .great)) pa_nil))) pa_nil))) pa_nil)))
      (pss_cons (ps_setLc (i := 2) (own := [("word", 3), ("holds", 4)]) (g := gTup K 2 (gCons (gName 3) (gCons (gName 4) gNil))) rfl scClass.nd rfl rfl (sw_true rfl rfl rfl (by decide +kernel)) (pi_list (pv 1)) (blkOk_by (own := [("word", 3), ("holds", 4)]) (N := ["error", "rows", "words", "word", "holds"]) (sc := defScope sClass) (by decide +kernel)) (fun _ _ _ _ _ => (pg_tup (by rfl) (pgs_cons (pg_name (i := 3) scClass.nd rfl (by first | exact Or.inl rfl | exact Or.inr rfl)) (pgs_cons (pg_name (i := 4) scClass.nd rfl (by first | exact Or.inl rfl | exact Or.inr rfl)) pgs_nil)))) (fun _ _ _ _ _ => (pts_one (pt_val (pv 4)))) (fun _ _ _ _ _ => (pv 3)))
      (pss_cons (ps_if (pt_cmpR op_ne (pe_callB lenF (by rfl) B.len (by decide +kernel) (pa_cons (pv 2) pa_nil)) pe_int (nomark _)) (pss_one (ps_ret (pe_tupF (pa_cons pe_str pa_nil)))) pss_nil)
      (pss_cons (ps_if (pt_cmpR inF (pe_ix ixF (pv 2) pe_int (fun _ _ => rfl)) (pe_tupF (pa_cons pe_str (pa_cons pe_str (pa_cons pe_str pa_nil)))) (by rfl)) (pss_one (ps_ret (pe_tupF (pa_cons (pe_ix ixF (pv 2) pe_int (fun _ _ => rfl)) (pa_cons (pe_xfK (pv 0)) pa_nil))))) pss_nil)
      (pss_cons (ps_if (pt_cmpR inF (pe_ix ixF (pv 2) pe_int (fun _ _ => rfl)) (pe_tupF (pa_cons pe_str (pa_cons pe_str (pa_cons pe_str pa_nil)))) (by rfl)) (pss_one (ps_ret (pe_tupF (pa_cons (pe_ix ixF (pv 2) pe_int (fun _ _ => rfl)) (pa_cons (pe_xfK (pv 0)) pa_nil))))) pss_nil)
      (pss_one (ps_ret (pe_ifExp (pt_cmpR op_eq (pe_ix ixF (pv 2) pe_int (fun _ _ => rfl)) pe_str (nomark _)) (pe_tupF (pa_cons (pe_ix ixF (pv 2) pe_int (fun _ _ => rfl)) (pa_cons (pe_xfK (pv 0)) pa_nil))) (pe_tupF (pa_cons (pe_ix ixF (pv 2) pe_int (fun _ _ => rfl)) pa_nil)))))))))))))), ?_⟩
    have hx : XdAt H d := by
      rcases hk with ⟨_, dd, v, rfl, e, _⟩ | ⟨_, rfl, _⟩
      · exact ⟨_, e⟩
      · exact True.intro
    have fin : ∀ {H2 : Hp}, Same H H2 → H2 a = some (exK a (.ref (C k)) d) ∧ XdAt H2 d := fun {H2} s => ⟨s _ _ ha, by
      cases d with
      | none => exact True.intro
      | some dd =>
        obtain ⟨fs, hfs⟩ := hx
        exact ⟨fs, s _ _ hfs⟩⟩
    have bk : ∀ {H2 : Hp} {b : Addr}, Same H H2 → H2 b = none → H b = none := fun {H2} {b} s h => by
      cases e : H b with
      | none => rfl
      | some o =>
        rw [s _ _ e] at h
        cases h
    have r0 : ∀ H', Rws k H' [] 0 := fun H' => ⟨rfl, fun i w b hi => by omega⟩
    refine seq_nx (fun σ' H' => ∃ (l : Addr) (vs : List V), σ' = [some (.ref a), some (.ref l), none, none, none] ∧ Same H H' ∧ H' l = some (.lst vs) ∧ Rws k H' vs 2 ∧ H l = none) (fun Z hZ => ?_) ?_
    · walk_at "s"
      refine rIsK_of T .row ha hx ⟨sz_le (by decide), view_tup VW.start fun t1 A1 v1 => ?_⟩
      have f1 := fin v1.fr
      refine rIsK_of T .turn f1.1 f1.2 ⟨sz_le (by decide), view_tup v1 fun t2 A2 v2 => ⟨sz_le (by decide), view_new v2 fun l2 A3 v3 => hZ _ _ ⟨l2, _, rfl, v3.fr, v3.facts.1, ?_, v3.own _ List.mem_cons_self⟩⟩⟩
      exact ((r0 A3).snoc (j := .row) (p := t1) rfl rfl (v3.tu _ (List.mem_cons_of_mem _ List.mem_cons_self))).snoc (j := .turn) (p := t2) rfl rfl (v3.tu _ List.mem_cons_self)
    rintro σ1 H1 ⟨l, vs, rfl, s1, hl, hw, hn⟩
    refine seq_nx (fun σ' H' => ∃ (l : Addr) (vs : List V), σ' = [some (.ref a), some (.ref l), none, none, none] ∧ Same H H' ∧ H' l = some (.lst vs) ∧ Rws k H' vs 4 ∧ H l = none) (fun Z hZ => ?_) ?_
    · walk_at "s"
      refine rIsK_of T .place (fin s1).1 (fin s1).2 ⟨sz_le (by decide), view_tup VW.start fun t1 A1 v1 => ?_⟩
      have f1 := fin (Same.cp s1 v1.fr)
      refine rIsK_of T .number f1.1 f1.2 ⟨sz_le (by decide), view_tup v1 fun t2 A2 v2 => ⟨sz_le (by decide), view_new v2 fun l2 A3 v3 => ?_⟩⟩
      have lv := hw.1
      refine ⟨_, v3.fr _ _ hl, _, v3.facts.1, sz_le (by simp [lv]), view_new v3 fun l3 A4 v4 => hZ _ _ ⟨l3, _, rfl, Same.cp s1 v4.fr, v4.facts.1, ?_, bk s1 (v4.own _ List.mem_cons_self)⟩⟩
      have h2 := ((hw.same v4.fr).snoc (j := .place) (p := t1) rfl rfl (v4.tu _ (List.mem_cons_of_mem _ List.mem_cons_self))).snoc (j := .number) (p := t2) rfl rfl (v4.tu _ List.mem_cons_self)
      simpa using h2
    clear hw hl s1 hn
    clear l vs
    clear H1
    rintro σ1 H1 ⟨l, vs, rfl, s1, hl, hw, hn⟩
    refine seq_nx (fun σ' H' => ∃ (l : Addr) (vs : List V), σ' = [some (.ref a), some (.ref l), none, none, none] ∧ Same H H' ∧ H' l = some (.lst vs) ∧ Rws k H' vs 6 ∧ H l = none) (fun Z hZ => ?_) ?_
    · walk_at "s"
      refine rIsK_of T .other (fin s1).1 (fin s1).2 ⟨sz_le (by decide), view_tup VW.start fun t1 A1 v1 => ?_⟩
      have f1 := fin (Same.cp s1 v1.fr)
      refine rIsK_of T .text f1.1 f1.2 ⟨sz_le (by decide), view_tup v1 fun t2 A2 v2 => ⟨sz_le (by decide), view_new v2 fun l2 A3 v3 => ?_⟩⟩
      have lv := hw.1
      refine ⟨_, v3.fr _ _ hl, _, v3.facts.1, sz_le (by simp [lv]), view_new v3 fun l3 A4 v4 => hZ _ _ ⟨l3, _, rfl, Same.cp s1 v4.fr, v4.facts.1, ?_, bk s1 (v4.own _ List.mem_cons_self)⟩⟩
      have h2 := ((hw.same v4.fr).snoc (j := .other) (p := t1) rfl rfl (v4.tu _ (List.mem_cons_of_mem _ List.mem_cons_self))).snoc (j := .text) (p := t2) rfl rfl (v4.tu _ List.mem_cons_self)
      simpa using h2
    clear hw hl s1 hn
    clear l vs
    clear H1
    rintro σ1 H1 ⟨l, vs, rfl, s1, hl, hw, hn⟩
    refine seq_nx (fun σ' H' => ∃ (l : Addr) (vs : List V), σ' = [some (.ref a), some (.ref l), none, none, none] ∧ Same H H' ∧ H' l = some (.lst vs) ∧ Rws k H' vs 8 ∧ H l = none) (fun Z hZ => ?_) ?_
    · walk_at "s"
      refine rIsK_of T .way (fin s1).1 (fin s1).2 ⟨sz_le (by decide), view_tup VW.start fun t1 A1 v1 => ?_⟩
      have f1 := fin (Same.cp s1 v1.fr)
      refine rIsK_of T .nothing f1.1 f1.2 ⟨sz_le (by decide), view_tup v1 fun t2 A2 v2 => ⟨sz_le (by decide), view_new v2 fun l2 A3 v3 => ?_⟩⟩
      have lv := hw.1
      refine ⟨_, v3.fr _ _ hl, _, v3.facts.1, sz_le (by simp [lv]), view_new v3 fun l3 A4 v4 => hZ _ _ ⟨l3, _, rfl, Same.cp s1 v4.fr, v4.facts.1, ?_, bk s1 (v4.own _ List.mem_cons_self)⟩⟩
      have h2 := ((hw.same v4.fr).snoc (j := .way) (p := t1) rfl rfl (v4.tu _ (List.mem_cons_of_mem _ List.mem_cons_self))).snoc (j := .nothing) (p := t2) rfl rfl (v4.tu _ List.mem_cons_self)
      simpa using h2
    clear hw hl s1 hn
    clear l vs
    clear H1
    rintro σ1 H1 ⟨l, vs, rfl, s1, hl, hw, hn⟩
    refine seq_nx (fun σ' H' => ∃ (l : Addr) (vs : List V), σ' = [some (.ref a), some (.ref l), none, none, none] ∧ Same H H' ∧ H' l = some (.lst vs) ∧ Rws k H' vs 9 ∧ H l = none) (fun Z hZ => ?_) ?_
    · unfold tDrop tLM rAppF
      walk_at "s"
      have lv := hw.1
      refine ⟨⟨_, hl⟩, rIsK_of T .great (fin s1).1 (fin s1).2 ⟨sz_le (by decide), view_tup VW.start fun t1 A1 v1 => ⟨_, v1.fr _ _ hl, sz_lt (by omega), ?_⟩⟩⟩
      refine hZ _ _ ⟨l, _, rfl, fun b o h => ?_, upd_same, ?_, hn⟩
      · rw [upd_ne (ne_of_none h hn)]
        exact v1.fr _ _ (s1 _ _ h)
      · refine ((hw.same v1.fr).snoc (j := .great) (p := t1) rfl rfl (v1.tu _ List.mem_cons_self)).keep fun p xs hp => ?_
        rw [upd_ne (fun z => by rw [z, v1.fr _ _ hl] at hp; cases hp)]
        exact hp
    clear hw hl s1 hn
    clear l vs
    clear H1
    rintro σ1 H1 ⟨l, vs, rfl, s1, hl, hw, hn⟩
    refine seq_nx (fun σ' H' => ∃ (l D : Addr), σ' = [some (.ref a), some (.ref l), some (.ref D), none, none] ∧ Same H H' ∧ H' D = some (.lst [.str k.name])) (fun Z hZ => ?_) ?_
    · refine ⟨_, rfl, l, rfl, ⟨_, SqL.of hl⟩, fun D hD => ?_⟩
      refine lc_it (walk_list (K := K) (a := l) (xs := vs)) (fun i H' => VW H1 H' [(D, .lst (fws wds9 (kbs9 k) i))] []) (VW.start.push hD) (fun i H' _ v' => SqL.of (v'.fr _ _ hl)) ?_ (fun H' v' => hZ _ _ ⟨l, D, rfl, Same.cp s1 v'.fr, ?_⟩)
      · rintro i y H4 H5 hi v1 ⟨rfl, hy⟩
        have lv := hw.1
        obtain ⟨w, hw9⟩ : ∃ w, wds9[i]? = some w := ⟨_, List.getElem?_eq_getElem (by show i < 9; omega)⟩
        obtain ⟨b, hb9⟩ : ∃ b, (kbs9 k)[i]? = some b := ⟨_, List.getElem?_eq_getElem (by show i < 9; omega)⟩
        obtain ⟨p, hp1, hp2⟩ := hw.2 i w b (by omega) hw9 hb9
        rw [hp1] at hy
        cases hy
        have nx := fws_next (n := i) hw9 hb9
        refine ⟨p, _, rfl, SqT.of (v1.fr _ _ hp2), rfl, _, _, rfl, _, _, rfl, rfl, rfl, ?_⟩
        refine ⟨_, rfl, b, rfl, ?_⟩
        cases b with
        | false =>
          rw [if_neg (by decide)] at nx ⊢
          rw [nx]
          exact v1
        | true =>
          rw [if_pos rfl] at nx ⊢
          rw [nx]
          refine ⟨_, rfl, _, v1.facts.1, ?_, v1.put 0 rfl rfl⟩
          have := fws_len (ws := wds9) (bs := kbs9 k) (n := i)
          exact sz_lt (by omega)
      · have := v'.facts.1
        rw [hw.1, fws_kd9] at this
        exact this
    rintro σ2 H2 ⟨l2, D, rfl, s2, hD⟩
    walk_at "s"
    refine ⟨_, hD, _, rfl, rfl, .inl ⟨rfl, _, hD, _, rfl, _, rfl, sz_le (by decide), view_tup VW.start fun t1 A1 v1 => ⟨_, v1.tu _ List.mem_cons_self, _, rfl, rfl, by simp [flatV], ?_⟩⟩⟩
    have hD1 := v1.fr _ _ hD
    obtain ⟨f1, f2⟩ := fin (Same.cp s2 v1.fr)
    have lst : ∀ (A : Hp), Same A1 A → A D = some (.lst [.str k.name]) ∧ A a = some (exK a (.ref (C k)) d) := fun A s => ⟨s _ _ hD1, s _ _ f1⟩
    rcases hk with ⟨hh, dd, v, rfl, e, kq⟩ | ⟨hh, rfl, kq⟩
    · have e1 : ∀ {A : Hp}, Same A1 A → A dd = some (.xd [(k.fld, v)]) := fun {A} s => s _ _ (v1.fr _ _ (s2 _ _ e))
      have q1 : ∀ {A : Hp}, Same A1 A → newTup A [.str k.name, v] fun p H' => Q (.ref p) H' := fun {A} s => view_tup VW.start fun p H' v' => kq p H' (Same.cp (Same.cp (Same.cp s2 v1.fr) s) v'.fr) (by
        rw [TdT, if_pos hh]
        exact v'.tu _ List.mem_cons_self)
      have s11 : Same A1 A1 := fun _ _ z => z
      cases k
      case other => cases hh
      case nothing => cases hh
      all_goals first
        | (rw [if_pos (by rfl)]
           exact ⟨_, hD1, _, rfl, _, rfl, _, _, f1, T.xf _, T.no _, _, e1 s11, _, rfl, sz_le (by decide), q1 s11⟩)
        | (rw [if_neg (by show ¬ inV _ [V.str "BadRow", V.str "BadTurn", V.str "BadText"] = true; decide)]
           refine ⟨_, hD1, _, rfl, _, rfl, sz_le (by decide), view_tup (VW.start (H := A1)) fun t2 A2 v2 => ⟨_, v2.tu _ List.mem_cons_self, _, rfl, rfl, by simp [flatV], ?_⟩⟩
           obtain ⟨g1, g2⟩ := lst A2 v2.fr
           first
           | (rw [if_pos (by rfl)]
              exact ⟨_, g1, _, rfl, _, rfl, _, _, g2, T.xf _, T.no _, _, e1 v2.fr, _, rfl, sz_le (by decide), q1 v2.fr⟩)
           | (rw [if_neg (by show ¬ inV _ [V.str "BadPlace", V.str "BadNumber", V.str "BadWay"] = true; decide)]
              refine ⟨_, g1, _, rfl, _, rfl, rfl, ?_⟩
              rw [if_pos (by rfl)]
              exact ⟨_, g1, _, rfl, _, rfl, _, _, g2, T.xf _, T.no _, _, e1 v2.fr, _, rfl, sz_le (by decide), q1 v2.fr⟩))
    · have q1 : ∀ {A : Hp}, Same A1 A → newTup A [.str k.name] fun p H' => Q (.ref p) H' := fun {A} s => view_tup VW.start fun p H' v' => kq p H' (Same.cp (Same.cp (Same.cp s2 v1.fr) s) v'.fr) (by
        rw [TdT, if_neg (by rw [hh]; decide)]
        exact v'.tu _ List.mem_cons_self)
      cases k
      case other =>
        rw [if_neg (by show ¬ inV _ [V.str "BadRow", V.str "BadTurn", V.str "BadText"] = true; decide)]
        refine ⟨_, hD1, _, rfl, _, rfl, sz_le (by decide), view_tup (VW.start (H := A1)) fun t2 A2 v2 => ⟨_, v2.tu _ List.mem_cons_self, _, rfl, rfl, by simp [flatV], ?_⟩⟩
        obtain ⟨g1, g2⟩ := lst A2 v2.fr
        rw [if_neg (by show ¬ inV _ [V.str "BadPlace", V.str "BadNumber", V.str "BadWay"] = true; decide)]
        refine ⟨_, g1, _, rfl, _, rfl, rfl, ?_⟩
        rw [if_neg (by decide)]
        exact ⟨_, g1, _, rfl, _, rfl, sz_le (by decide), q1 v2.fr⟩
      case nothing =>
        rw [if_neg (by show ¬ inV _ [V.str "BadRow", V.str "BadTurn", V.str "BadText"] = true; decide)]
        refine ⟨_, hD1, _, rfl, _, rfl, sz_le (by decide), view_tup (VW.start (H := A1)) fun t2 A2 v2 => ⟨_, v2.tu _ List.mem_cons_self, _, rfl, rfl, by simp [flatV], ?_⟩⟩
        obtain ⟨g1, g2⟩ := lst A2 v2.fr
        rw [if_neg (by show ¬ inV _ [V.str "BadPlace", V.str "BadNumber", V.str "BadWay"] = true; decide)]
        refine ⟨_, g1, _, rfl, _, rfl, rfl, ?_⟩
        rw [if_neg (by decide)]
        exact ⟨_, g1, _, rfl, _, rfl, sz_le (by decide), q1 v2.fr⟩
      all_goals cases hh
end
theorem Et.any {K : PySem.W.Frag} {mg : Str → Option Value} {CF : Addr} {C : Kd → Addr} (T : Exs K mg CF C) {Q : VK} {cls : Value} {d : Option Addr} {H : Hp} (h : Et C Q cls d H) : PySem.W.exmAny K cls [.ref CF, .ref (C .great)] = some true := by
  obtain ⟨k, rfl, _⟩ := h
  exact T.any k
def tbT (f c' : Addr) (q : Str) (tl : XK → Hp → VK → Prop) : WX → TS := fun W D σ H => ∃ Ech : XK, (∀ cls d σ' H', Ech cls d H' → W cls d σ' H') ∧ σ[0]? = some (some (.ref f)) ∧ H c' = some (LamX.CodeO c' q) ∧ tl Ech H fun v H1 => D.nx (σ.set 1 (some v)) H1
/-- of a call that is told: what it returns, alone in a list, or what is told of its exception -/
def TTt (C : Kd → Addr) : (XK → Hp → VK → Prop) → Hp → VK → Prop := fun tl H Q => ∀ H1, Same H H1 → ∀ Qx : VK, (∀ v H2, Qh Q v H2 → Qx v H2) → tl (Et C Q) H1 Qx
theorem scTold : FnScope ["call", "found", "error", "e"] ["call"] (defScope sTold) := ⟨rfl, rfl, rfl, by decide +kernel, rfl, by decide +kernel, by decide +kernel⟩
theorem told_gives {X : Cx} {g CF fC : Addr} {fdC : FuncData} {cdg : Value} {q : Str} {C : Kd → Addr} (T : Exs X.K X.mg CF C) (B : Blt X.mg) (cClass : Dn X.prog X.w X.K X.mg X.base 1 "_law_class" fC fdC ["error"] (spClass C)) (hr : Room 3 X.A) :
    LamX.GivesTo X ["call", "found", "error", "e"] "_law_told" (defScope sTold) g cdg (defBody sTold) "call" q (TTt C) := by
  intro f c' s H Q tl act hc h
  refine ⟨_, (pss_cons (ps_asg (pe_tupF (pa_cons pe_non (pa_cons pe_non pa_nil))) (pg_tup (by rfl) (pgs_cons (pg_name (i := 1) scTold.nd rfl (by first | exact Or.inl rfl | exact Or.inr rfl)) (pgs_cons (pg_name (i := 2) scTold.nd rfl (by first | exact Or.inl rfl | exact Or.inr rfl)) pgs_nil))))
      (pss_cons (ps_try_two (i := 3) (n := "e") (tb := tbT f c' q tl) (ts := fun a => tAsg (tVar 3) (gName 2)) rfl rfl rfl scTold.nd rfl rfl (by rfl) T.mgF (by rfl) (T.mgc .great) (fun W pn xe tk _ => (⟨fun pins s' σ H' D I h => by
        obtain ⟨Ech, hW, h1, h2, h3⟩ := h
        exact (pss_one (ps_set (i := 1) scTold.nd rfl (Or.inl rfl) (act W pn xe Ech _ _ tk hW))).run pins s' σ H' D I ⟨h1, h2, h3⟩⟩ : PSs _ _ _)) (fun a pn => pss_one (ps_set (i := 2) scTold.nd rfl (Or.inl rfl) (pv 3))))
      (pss_one (ps_ret (pe_ifExp (pt_cmpR op_isN (pv 2) pe_non (nomark _)) (pe_lstF (pa_cons (pv 1) pa_nil)) (pe_call cClass.ok ((hr.deeper _).mono (by decide)) rfl cClass.mgf cClass.kp cClass.bi .nil pass0 (pa_cons (pv 2) pa_nil))))))), ?_⟩
  refine ⟨sz_le (by decide), view_tup VW.start fun p0 H1 v1 => ⟨p0, _, rfl, SqT.of (v1.tu _ List.mem_cons_self), rfl, _, _, rfl, _, _, rfl, rfl, ?_⟩⟩
  refine ⟨Et C Q, ?_, rfl, v1.fr _ _ hc, ?_⟩
  · rintro cls d σ' H' hE
    refine ⟨Et.any T hE, fun a ha hl => ?_⟩
    obtain ⟨a0, a1, a2, a3, rfl⟩ : ∃ a0 a1 a2 a3 : Option V, σ' = [a0, a1, a2, a3] := by
      match σ', hl with
      | [a0, a1, a2, a3], _ => exact ⟨a0, a1, a2, a3, rfl⟩
    have sa : Same H' (upd H' a (exK a cls d)) := Same.new ha
    obtain ⟨k, rfl, hE⟩ := hE
    walk_at "s"
    intro _
    refine ⟨a, k, d, rfl, upd_same, ?_⟩
    rcases hE with ⟨hh, dd, v, rfl, e, kq⟩ | ⟨hh, rfl, kq⟩
    · exact .inl ⟨hh, dd, v, rfl, sa _ _ e, fun p H'' s h => kq p H'' (Same.cp sa s) h⟩
    · exact .inr ⟨hh, rfl, fun p H'' s h => kq p H'' (Same.cp sa s) h⟩
  · refine h H1 v1.fr _ fun v H2 hv => ?_
    walk_at "s"
    exact ⟨sz_le (by decide), fun p hp => hv p _ (Same.new hp) upd_same⟩
theorem told_any {C : Kd → Addr} {Tb : List (Addr × Str)} {H : Hp} {σ : St} {t : XK → TE} {Q : VK} (hT : LamX.Tabs Tb H) (h : ∀ (H2 : Hp) (Qx : VK), LamX.ExtN H H2 → LamX.Tabs Tb H2 → (∀ v H', Qh Q v H' → Qx v H') → t (Et C Q) σ H2 Qx) : LamX.tLam Tb (TTt C) t σ H Q :=
  ⟨hT, fun H1 eN T1 H2 s2 Qx hx => h H2 Qx (eN.trans (LamX.ExtN.of s2)) (T1.ext s2) hx⟩

end Fab
set_option maxHeartbeats 4000000
namespace Fab
open PySem L2 PySem.FabX
abbrev sLaw : Stmt := top 44
abbrev sIsR : Stmt := top 39
abbrev sPairs : Stmt := top 42
abbrev sRight : Stmt := top 43
open PyProof.Rows (envOfC)
local macro_rules | `(tactic| walk_at "s") => `(tactic| simp [tPar, tSeq, tAsg, tOp, tUn, tVar, tC, gName, tCons, tNil, tCB, tCall, rI, rI0, rU, tRet, tDrop, tIfS, tNext, tIf, tTest, tNot, tOr, tAnd, tB, L2.start, CMul, CDiv, CPow, rIxF, rLenF, rIntF, sq_lst, sq_tup, tLstF, tTupF, gSub, rCatF, rCatTF, rInF, rNe, rEq, tAndV, tOrV, tNotV, tChain, rTupF, tFldF, sFldF, tRx, tMake, tSl, tPart, tNoPart, rSlTF, rSlF, tRevTF, gTup, gCons, gNil])
section
variable {P : Program} {w : World} {K : PySem.W.Frag} {mg : Str → Option Value} {base : Heap} {C : Kd → Addr} {CR CC : Addr}
def spIsR (CR : Addr) : Sp := fun vs H Q _ => ∃ (p t : Addr) (ws : List Int) (n : Nat), vs = [.ref p, .ref t] ∧ RowAt CR H p (ws.map V.int) ∧ H t = some (.tup (ws.map V.int)) ∧ Shw (.tuple (ws.map PyData.int)) ∧ n ≤ 24 ∧ Q (.bl true) H
theorem scIsR : FnScope ["told", "waggons"] ["told", "waggons"] (defScope sIsR) := ⟨rfl, rfl, rfl, by decide +kernel, rfl, by decide +kernel, by decide +kernel⟩
theorem ok_isr {f : Addr} {fd : FuncData} (F : Fun K "_law_is_row" "_law_is_row" sIsR f fd) (B : Blt mg) (R : RowC K mg CR) : FnG P w K mg base CX0 1 f fd ["told", "waggons"] (spIsR CR) := by
  refine fnG F scIsR (fun vs H Q E h => ?_) (fun cdv A outer s H vs Q E hgd0 hr h => ?_)
  · obtain ⟨p, t, ws, n, rfl, _⟩ := h
    rfl
  · obtain ⟨p, t, ws, n, rfl, hR, ht, hrow, hn, k⟩ := h
    have hgd := (guards_deeper (A := A) (env := PyProof.Rows.envOfC "_law_is_row" (defScope sIsR) s.heap.objs.size f cdv)).trans hgd0
    have hun := hr.units
    have hun : (A.deeper (PyProof.Rows.envOfC "_law_is_row" (defScope sIsR) s.heap.objs.size f cdv)).units + 64 < cLine := by omega
    refine ⟨_, (pss_one (ps_ret (pe_and (pe_callB call_isi (by rfl) B.isinstance (by decide +kernel) (pa_cons (pv 0) (pa_cons (pe_cl (by rfl) R.mgR) pa_nil))) (pe_and (pe_callB call_isi (by rfl) B.isinstance (by decide +kernel) (pa_cons (pe_fldF (pv 0)) (pa_cons (pe_bltn (v := .ty "tuple") (by rfl) B.tuple (by decide +kernel) rfl) pa_nil))) (pe_one (pe_cmpR op_eq (pe_callB (call_reprQ hgd hun) (by rfl) B.repr (by decide +kernel) (pa_cons (pe_fldF (pv 0)) pa_nil)) (pe_callB (call_reprQ hgd hun) (by rfl) B.repr (by decide +kernel) (pa_cons (pv 1) pa_nil)) (nomark _))))))), ?_⟩
    walk_at "s"
    obtain ⟨dx, tp, h1, h2⟩ := id hR
    have kt : PySem.W.kitOne K (.type "tuple") (.type "tuple") = some true := kit_ty (by decide +kernel)
    refine ⟨.ref p, .ref CR, .ref CR, .ref CR, true, rfl, .own _, .base (.ins h1 R.cl R.hc R.hn R.htk R.hm), R.ks, .inr ⟨rfl, CR, dx, _, h1, R.cl, R.nW, _, rfl, ?_⟩⟩
    refine ⟨_, .ty "tuple", _, .type "tuple", true, rfl, .ty _, .base (.tup h2), kt, .inr ⟨rfl, CR, dx, _, h1, R.cl, R.nW, _, rfl, ?_⟩⟩
    refine ⟨_, _, rfl, .of (.tup (SqT.of h2) (dp_ints ws)) hrow, _, _, rfl, .of (.tup (SqT.of ht) (dp_ints ws)) hrow, by rfl, ?_⟩
    rw [decide_eq_true rfl]
    exact k
end
theorem bears_t {C : Kd → Addr} : Bears (TTt C) := fun F tl H Q hF h H1 s1 Qx hx => ⟨hF H1 s1, h H1 s1 Qx hx⟩
def spPairs (Tb : List (Addr × Str)) : Sp := fun vs H Q _ => ∃ (m c g : Addr) (cs : List Int) (N : Nat), vs = [.ref m] ∧ DS m c g cs Tb N H ∧ N ≤ 100000 ∧
  ∀ (l : Addr) (us : List V) (ps : List (Nat × Nat)) H', l ≠ m → l ≠ g → H' l = some (.lst us) → PrL H' us ps → ps.length ≤ 11 → (∀ q ∈ ps, q.1 ≤ q.2 ∧ q.2 < 100) → DS m c g cs Tb (N + 60) H' → Kn m g H H' → Q (.ref l) H'
section
variable {P' : Program} {w : World} {K : PySem.W.Frag} {mg : Str → Option Value} {base : Heap} {C : Kd → Addr} {CR : Addr}
theorem scPairs : FnScope ["m", "found", "n", "first"] ["m"] (defScope sPairs) := ⟨rfl, rfl, rfl, by decide +kernel, rfl, by decide +kernel, by decide +kernel⟩
theorem ok_pairs {f fD : Addr} {fd fdD : FuncData} {Tb : List (Addr × Str)} (F : Fun K "_law_pairs" "_law_pairs" sPairs f fd) (B : Blt mg) (cDraw : Dn P' w K mg base 2 "_law_draw" fD fdD ["m", "limit"] spDraw) : FnOk P' w K mg base CX0 3 f fd ["m"] (spPairs Tb) := by
  refine F.ok scPairs (fun vs H Q E h => ?_) (fun cdv A outer s H vs Q E hr h => ?_)
  · obtain ⟨m, c, g, cs, N, rfl, _⟩ := h
    rfl
  · obtain ⟨m, c, g, cs, N, rfl, hD, hN, k⟩ := h
    refine ⟨_, (pss_cons (ps_set (i := 1) scPairs.nd rfl (by first | exact Or.inl rfl | exact Or.inr rfl) (pe_lstF pa_nil))
      (pss_cons (ps_for PassesOwn.never rfl (pi_range1 (by rfl) B.range (pa_cons (pe_call cDraw.ok (hr.mono (by decide)) rfl cDraw.mgf cDraw.kp cDraw.bi .nil pass0 (pa_cons (pv 0) (pa_cons pe_int pa_nil))) pa_nil)) (pg_name (i := 2) scPairs.nd rfl (by first | exact Or.inl rfl | exact Or.inr rfl)) (pss_cons (ps_set (i := 3) scPairs.nd rfl (by first | exact Or.inl rfl | exact Or.inr rfl) (pe_ix ixF (pe_lstF (pa_cons (pe_call cDraw.ok (hr.mono (by decide)) rfl cDraw.mgf cDraw.kp cDraw.bi .nil pass0 (pa_cons (pv 0) (pa_cons pe_int pa_nil))) (pa_cons (pe_call cDraw.ok (hr.mono (by decide)) rfl cDraw.mgf cDraw.kp cDraw.bi .nil pass0 (pa_cons (pv 0) (pa_cons pe_int pa_nil))) pa_nil))) (pe_call cDraw.ok (hr.mono (by decide)) rfl cDraw.mgf cDraw.kp cDraw.bi .nil pass0 (pa_cons (pv 0) (pa_cons pe_int pa_nil))) (fun _ _ => rfl)))
      (pss_one (ps_expr (pe_lm PySem.F.slot_list_append PySem.F.type_list_append appF (pv 1) (pa_cons (pe_tupF (pa_cons (pv 3) (pa_cons (pe_op op_add (pv 3) (pe_call cDraw.ok (hr.mono (by decide)) rfl cDraw.mgf cDraw.kp cDraw.bi .nil pass0 (pa_cons (pv 0) (pa_cons (pe_op op_sub pe_int (pv 3)) pa_nil)))) pa_nil))) pa_nil))))))
      (pss_one (ps_ret (pv 1))))), ?_⟩
    refine seq_nx (fun σ' H' => ∃ l : Addr, σ' = [some (.ref m), some (.ref l), none, none] ∧ H l = none ∧ H' l = some (.lst []) ∧ DS m c g cs Tb N H' ∧ Kn m g H H') (fun Z hZ => ?_) ?_
    · walk_at "s"
      exact view_new VW.start fun l A v => hZ _ _ ⟨l, rfl, v.own _ List.mem_cons_self, v.facts.1, hD.same v.fr, Kn.of v.fr⟩
    rintro σ1 H1 ⟨l, rfl, ln, hl, d1, k1⟩
    obtain ⟨n0, gs0, _, hm0, hg0, hc0, _⟩ := id hD
    have lm : l ≠ m := fun z => by rw [z, hm0] at ln; cases ln
    have lg : l ≠ g := fun z => by rw [z, hg0] at ln; cases ln
    have lc : l ≠ c := fun z => by rw [z, hc0] at ln; cases ln
    refine seq_q (fun σ' H' => ∃ (us : List V) (ps : List (Nat × Nat)) (u2 u3 : Option V), σ' = [some (.ref m), some (.ref l), u2, u3] ∧ H' l = some (.lst us) ∧ PrL H' us ps ∧ ps.length ≤ 11 ∧ (∀ q ∈ ps, q.1 ≤ q.2 ∧ q.2 < 100) ∧ DS m c g cs Tb (N + 60) H' ∧ Kn m g H H') (fun D' eD hZ => ?_) ?_
    · refine ⟨_, rfl, ?_⟩
      dsimp only [tCons, tC, tNil, List.append_nil, List.nil_append, List.cons_append]
      refine draw_ds (lim := 12) d1 (by decide) (by decide) (by omega) fun n A1 n1 n2 d2 k2 => ?_
      obtain ⟨n, rfl⟩ := Int.eq_ofNat_of_zero_le n1
      refine ⟨(n : Int), rfl, by omega, by omega, ?_⟩
      rw [Int.toNat_natCast]
      have hl2 := k2 _ _ hl lm lg rfl
      refine for_it (walk_range (lo := 0) (n := n)) (fun i σ H' => ∃ (us : List V) (ps : List (Nat × Nat)) (u2 u3 : Option V), σ = [some (.ref m), some (.ref l), u2, u3] ∧ H' l = some (.lst us) ∧ PrL H' us ps ∧ ps.length = i ∧ (∀ q ∈ ps, q.1 ≤ q.2 ∧ q.2 < 100) ∧ DS m c g cs Tb (N + 1 + 5 * i) H' ∧ Kn m g H H')
        ⟨[], [], none, none, rfl, hl2, .nil, rfl, (fun _ h => nomatch h), d2, Kn.trans k1 k2⟩ (fun _ _ _ _ _ => True.intro) ?_ ?_
      rotate_left
      · rintro σ H' ⟨us, ps, u2, u3, e, h1, h2, h3, h4, h5, h6⟩
        exact hZ _ _ ⟨us, ps, u2, u3, e, h1, h2, by omega, h4, h5.le (by omega), h6⟩
      rintro i x σ A2 A3 hi ⟨us, ps, u2, u3, rfl, hl3, hP, lp, hb, d3, k3⟩ ⟨rfl, rfl⟩
      simp only [Int.zero_add]
      refine seq_q (fun σ' H' => ∃ (q : Nat), q < 100 ∧ σ' = [some (.ref m), some (.ref l), some (.int (i : Nat)), some (.int (q : Nat))] ∧ H' l = some (.lst us) ∧ PrL H' us ps ∧ DS m c g cs Tb (N + 1 + 5 * i + 3) H' ∧ Kn m g H H') (fun D2 eD2 hZ2 => ?_) ?_
      · refine ⟨_, rfl, ?_⟩
        dsimp only [tCons, tC, tNil, List.append_nil, List.nil_append, List.cons_append]
        refine draw_ds (lim := 10) d3 (by decide) (by decide) (by omega) fun x1 B1 a0 a1 e1 f1 => ?_
        refine ⟨_, rfl, ?_⟩
        dsimp only [tCons, tC, tNil, List.append_nil, List.nil_append, List.cons_append]
        refine draw_ds (lim := 100) e1 (by decide) (by decide) (by omega) fun x2 B2 b0 b1 e2 f2 => ?_
        refine ⟨sz_le (by simp), view_new (VW.start (H := B2)) fun l2 B3 v3 => ?_⟩
        have e3 := e2.same v3.fr
        refine ⟨_, rfl, ?_⟩
        dsimp only [tCons, tC, tNil, List.append_nil, List.nil_append, List.cons_append]
        obtain ⟨n0', gs0', _, hm', hg', hc', _⟩ := id e2
        have ln2 := v3.own _ List.mem_cons_self
        have l2m : l2 ≠ m := fun z => by rw [z, hm'] at ln2; cases ln2
        have l2g : l2 ≠ g := fun z => by rw [z, hg'] at ln2; cases ln2
        refine draw_ds (lim := 2) e3 (by decide) (by decide) (by omega) fun x3 B4 c0 c1 e4 f4 => ?_
        have hl2 := f4 _ _ v3.facts.1 l2m l2g rfl
        have kk : Kn m g A3 B4 := Kn.trans f1 (Kn.trans f2 (Kn.trans (Kn.of v3.fr) f4))
        obtain ⟨q, hq, hv⟩ : ∃ q : Nat, q < 100 ∧ atI [V.int x1, V.int x2] x3 = some (.int (q : Nat)) := by
          have : x3 = 0 ∨ x3 = 1 := by omega
          rcases this with rfl | rfl
          · exact ⟨x1.toNat, by omega, by rw [show ((x1.toNat : Nat) : Int) = x1 by omega]; rfl⟩
          · exact ⟨x2.toNat, by omega, by rw [show ((x2.toNat : Nat) : Int) = x2 by omega]; rfl⟩
        exact ⟨l2, x3, rfl, rfl, _, hl2, _, rfl, _, hv, hZ2 _ _ ⟨q, hq, rfl, kk _ _ hl3 lm lg rfl, hP.kn d3 kk, e4, Kn.trans k3 kk⟩⟩
      rintro σ3 A4 ⟨q, hq, rfl, hl4, hP4, d4, k4⟩
      unfold tDrop tLM rAppF
      walk_at "s"
      refine ⟨⟨_, hl4⟩, ?_⟩
      refine draw_ds d4 (by omega) (by omega) (by omega) fun x1 B1 a0 a1 e1 f1 => ?_
      obtain ⟨x1, rfl⟩ := Int.eq_ofNat_of_zero_le a0
      refine ⟨_, rfl, sz_le (by simp), view_tup (VW.start (H := B1)) fun t B2 v2 => ?_⟩
      have hl5 := v2.fr _ _ (f1 _ _ hl4 lm lg rfl)
      have lu := hP4.len
      have ht : B2 t = some (.tup [.int (q : Nat), .int ((q + x1 : Nat) : Int)]) := by
        have := v2.tu _ List.mem_cons_self
        rw [show (((q + x1 : Nat)) : Int) = (q : Int) + (x1 : Int) by omega]
        exact this
      refine ⟨_, hl5, sz_lt (by omega), us ++ [.ref t], upd_same, ps ++ [(q, q + x1)], (((hP4.kn d4 f1).same v2.fr).snoc ht).put hl5, by rw [List.length_append, lp]; rfl, fun p1 p2 hp => ?_, ((e1.same v2.fr).put hl5 lg lc).le (by omega), fun b o h n1 n2 n3 => ?_⟩
      · rcases List.mem_append.mp hp with h | h
        · exact hb (p1, p2) h
        · rw [List.mem_singleton] at h
          cases h
          exact ⟨by omega, by omega⟩
      · rw [upd_ne (ne_of_none h ln)]
        exact v2.fr _ _ (f1 _ _ (k4 _ _ h n1 n2 n3) n1 n2 n3)
    rintro σ2 H2 ⟨us, ps, u2, u3, rfl, hl2, hP, lp, hb, d2, k2⟩
    exact ⟨_, rfl, k l us ps H2 lm lg hl2 hP lp hb d2 k2⟩
end
theorem shw_prl {ps : List (Nat × Nat)} (h : ∀ p ∈ ps, p.1 ≤ 100 ∧ p.2 ≤ 100) (hl : ps.length ≤ 10000) : Shw (.list [.tuple (prD ps)]) := by
  obtain ⟨h1, h2, h3, h4, h5⟩ := prD_all h
  refine shw_of ?_ ?_ ?_ ?_ ?_
  · simpa [PyData.showable, PyData.showableAll] using h1
  · simpa [PyData.canLay0, PyData.canLayAll0] using h2
  · simp only [PyData.depth, PyData.depthAll]; omega
  · simp only [PyData.weight, PyData.weightAll]; omega
  · simpa [PyData.intsShort, PyData.intsShortAll] using h5

theorem prl_take {H : Hp} {us : List V} {ps : List (Nat × Nat)} (h : PrL H us ps) : ∀ k, PrL H (us.take k) (ps.take k) := by
  unfold PrL at h ⊢
  induction h with
  | nil => exact fun k => by simp; exact .nil
  | cons r t ih =>
    intro k
    cases k with
    | zero => exact .nil
    | succ k => exact .cons r (ih k)
theorem shp_wt (w : Str) (hw : w = "BadTurn") (v : Nat) : PyData.canLay0 (.tuple [.str w, .int (v : Nat)]) = true ∧ SeqAt.shaped (.tuple [.str w, .int (v : Nat)]) = true := by
  have lay : PyData.canLay0 (.tuple [.str w, .int (v : Nat)]) = true := by
    subst hw
    simp [PyData.canLay0, PyData.canLayAll0]
    try decide +kernel
  refine ⟨lay, ?_⟩
  show (PyData.canLay0 _ && decide (PyData.depth _ ≤ 64)) = true
  rw [lay, Bool.true_and, decide_eq_true_eq]
  simp [PyData.depth, PyData.depthAll]
theorem prl_kn {m g : Addr} {H H' : Hp} {us : List V} {ps : List (Nat × Nat)} (h : PrL H us ps) (s : Same H H') : PrL H' us ps := h.same s
theorem rdrow_ok {K : PySem.W.Frag} {C : Kd → Addr} {CR : Addr} {H : Hp} {Q : VK} {E : XK} {z : Str} {ws : List Int} {n : Nat} (hz : z.length ≤ 900) (hR : rdR z (z.length + 1) 0 [] = .ok ws) (hrow : IsRow ws n) (hn : n ≤ 24) (k : ∀ p H', Same H H' → RowAt CR H' p (ws.map V.int) → Q (.ref p) H') : spRdRow K C CR [.str z] H Q E := by
  refine ⟨.str z, rfl, .inl ⟨z, rfl, hz, ?_⟩⟩
  rw [hR]
  exact fun _ l H' s' hl => make_at hl rfl hrow hn fun p H9 s9 hp => k p H9 (Same.tx s' s9) hp
theorem rdt_ok {K : PySem.W.Frag} {C : Kd → Addr} {H : Hp} {Q : VK} {E : XK} {z : Str} {ps : List (Nat × Nat)} (hz : z.length ≤ 900) (hR : rdT z (z.length + 1) 0 [] = .ok ps) (k : ∀ t xs H', Same H H' → H' t = some (.tup xs) → PrL H' xs ps → Q (.ref t) H') : spRdTurns K C [.str z] H Q E := by
  refine ⟨.str z, rfl, .inl ⟨z, rfl, hz, ?_⟩⟩
  rw [hR]
  exact k
theorem ttxt_ok {K : PySem.W.Frag} {C : Kd → Addr} {H : Hp} {Q : VK} {E : XK} {b : Addr} {o : HO} {us : List V} {ps : List (Nat × Nat)} (hb : H b = some o) (ho : sq o = some us) (hP : PrL H us ps) (hl : ps.length ≤ 1000) (hk : ∀ q ∈ ps, q.1 ≤ q.2 ∧ q.2 < 100) (k : ∀ H', Same H H' → Q (.str (prsTxt ps)) H') : spTurnsTxt K C [.ref b] H Q E := by
  have lu := hP.len
  exact ⟨.ref b, rfl, .inl ⟨b, o, us, us.length, ps, rfl, hb, ho, Nat.le_refl _, by omega, lu.symm, by rw [List.take_length]; exact hP, hk, .inl ⟨rfl, k⟩⟩⟩
theorem len_joinL (S : List Nat) : ∀ ys : List (List Nat), (TL.joinL S ys).length ≤ (ys.map List.length).sum + ys.length * S.length
  | [] => by simp [TL.joinL]
  | [p] => by simp [TL.joinL]
  | p :: q :: r => by
    have := len_joinL S (q :: r)
    simp only [TL.joinL, List.length_append, List.map_cons, List.sum_cons, List.length_cons] at this ⊢
    rw [Nat.add_mul]
    omega
theorem mem_joinL {S : List Nat} {c : Nat} : ∀ {ys : List (List Nat)}, c ∈ TL.joinL S ys → c ∈ S ∨ ∃ y ∈ ys, c ∈ y
  | [], h => nomatch h
  | x :: ys, h => by
    rw [joinL_cons] at h
    rcases List.mem_append.mp h with h | h
    · exact .inr ⟨x, List.mem_cons_self, h⟩
    · obtain ⟨l, hl, hc⟩ := List.mem_flatten.mp h
      obtain ⟨y, hy, rfl⟩ := List.mem_map.mp hl
      rcases List.mem_append.mp hc with h | h
      · exact .inl h
      · exact .inr ⟨y, List.mem_cons_of_mem _ hy, h⟩
theorem sok_tl {z : Str} (h : ∀ c ∈ z.cps.toList, c < 128) : PyData.strOk z = true := by
  unfold PyData.strOk
  rw [Array.all_eq_true_iff_forall_mem]
  intro c hc
  have := h c (Array.mem_toList_iff.mpr hc)
  exact decide_eq_true (by omega)
theorem dg_lt {n : Nat} (hn : n < 100) : ∀ c ∈ dg n, c < 128 := by
  intro c hc
  unfold dg at hc
  split at hc <;> simp at hc <;> omega
theorem row_lt {ws : List Int} (hb : ∀ z ∈ ws, z.natAbs ≤ 24) : ∀ c ∈ (rowTxt ws).cps.toList, c < 128 := by
  intro c hc
  unfold rowTxt at hc
  rw [tl_joinT] at hc
  rcases mem_joinL hc with h | ⟨y, hy, h⟩
  · rw [show (Str.ofString " ").cps.toList = [32] from rfl, List.mem_singleton] at h
    omega
  · obtain ⟨x, hx, rfl⟩ := List.mem_map.mp hy
    obtain ⟨w, hw, rfl⟩ := List.mem_map.mp hx
    have b := hb w hw
    rw [wg_tl w (by omega)] at h
    rcases List.mem_cons.mp h with rfl | h
    · split <;> omega
    · exact dg_lt (by omega) c h
theorem prs_lt {ps : List (Nat × Nat)} (hb : ∀ q ∈ ps, q.1 ≤ q.2 ∧ q.2 < 100) : ∀ c ∈ (prsTxt ps).cps.toList, c < 128 := by
  intro c hc
  unfold prsTxt at hc
  rw [tl_joinT] at hc
  rcases mem_joinL hc with h | ⟨y, hy, h⟩
  · rw [show (Str.ofString ", ").cps.toList = [44, 32] from rfl] at h
    simp at h
    omega
  · obtain ⟨x, hx, rfl⟩ := List.mem_map.mp hy
    obtain ⟨q, hq, rfl⟩ := List.mem_map.mp hx
    have b := hb q hq
    rw [pTxt_tl (by omega) b.2] at h
    unfold pL at h
    rcases List.mem_append.mp h with h | h
    · exact dg_lt (by omega) c h
    · rcases List.mem_cons.mp h with rfl | h
      · omega
      · exact dg_lt b.2 c h
theorem len_join1 (a : Str) {b : Nat} {ys : List Str} (hb : ∀ y ∈ ys, y.length ≤ b) : (Txt.join a ys).length ≤ (b + a.length) * ys.length := by
  have h := len_joinL (TL.tl a) (ys.map TL.tl)
  rw [TL.join_eq, ← len_cps]
  have e := TL.tl_join a ys
  rw [show (Str.join a ys).cps.toList = _ from e]
  have sm := sumLe hb
  have e2 : ∀ z : Str, (TL.tl z).length = z.length := fun z => len_cps z
  rw [e2, List.length_map, List.map_map] at h
  have e3 : (ys.map (List.length ∘ TL.tl)).sum = (ys.map fun x => x.length).sum := by
    congr 1
  rw [e3] at h
  rw [Nat.add_mul, Nat.mul_comm a.length]
  omega
theorem rowT_len {ws : List Int} (hb : ∀ z ∈ ws, z.natAbs ≤ 24) : (rowTxt ws).length ≤ 4 * ws.length := by
  have := len_join1 (Str.ofString " ") (b := 3) (ys := ws.map plusD) fun y hy => by
    obtain ⟨z, hz, rfl⟩ := List.mem_map.mp hy
    exact plusD_len (hb z hz)
  rw [List.length_map] at this
  exact this
theorem prsT_len {ps : List (Nat × Nat)} (hb : ∀ q ∈ ps, q.1 ≤ q.2 ∧ q.2 < 100) : (prsTxt ps).length ≤ 7 * ps.length := by
  have := len_join1 (Str.ofString ", ") (b := 5) (ys := ps.map pTxt) fun y hy => by
    obtain ⟨z, hz, rfl⟩ := List.mem_map.mp hy
    have := hb z hz
    exact pTxt_len (by omega) (by omega)
  rw [List.length_map] at this
  exact this
theorem shw_tx {z : Str} (h : ∀ c ∈ z.cps.toList, c < 128) (hl : z.length ≤ 10000) : Shw (.str z) := by
  refine shw_of rfl ?_ ?_ ?_ ?_
  · rw [PyData.canLay0]
    exact sok_tl h
  · simp [PyData.depth]
  · rw [PyData.weight]
    exact Nat.le_trans hl (by omega)
  · rw [PyData.intsShort]
def spRight (Tb : List (Addr × Str)) : Sp := fun vs H Q _ => ∃ (m c g : Addr) (cs : List Int) (N n : Nat), vs = [.ref m, .int (n : Nat)] ∧ n ≤ 24 ∧ DS m c g cs Tb N H ∧ N ≤ 10000 ∧ ∀ H', DS m c g cs Tb (N + 200) H' → Kn m g H H' → Q (.bl true) H'
section
variable {P' : Program} {w : World} {K : PySem.W.Frag} {mg : Str → Option Value} {base : Heap} {C : Kd → Addr} {CF CR P c f g fC fD fW fA fX fY fT fV fZ fI : Addr} {fdC fdD fdW fdA fdX fdY fdT fdV fdZ fdI : FuncData} {Tb : List (Addr × Str)}
theorem scRight : FnScope ["m", "many", "waggons", "pairs", "due", "one", "pair", "told", "k", "odd"] ["m", "many"] (defScope sRight) := ⟨rfl, rfl, rfl, by decide +kernel, rfl, by decide +kernel, by decide +kernel⟩
theorem ok_right {oc kV doc pm ct oc2 kV2 doc2 pm2 ct2 cdv2 : Value} {an od an2 od2 : Option Addr} {osl osl2 : Array (Option Value)} (B : Blt mg) (R : RowC K mg CR) (XE : Exs K mg CF C) (TB : LamX.TabB base mg c P) (hTb : (P, (("_law_right" : Str) ++ ".<locals>.") ++ "<lambda>") ∈ Tb) (huT : ∀ p ∈ Tb, p.1 = P → p.2 = (("_law_right" : Str) ++ ".<locals>.") ++ "<lambda>")
    (HD : DL K mg "_law_told" sTold g cdv2 ["call"] oc2 kV2 doc2 pm2 ct2 an2 od2 osl2) (cClass : Dn P' w K mg base 1 "_law_class" fC fdC ["error"] (spClass C)) (cDraw : Dn P' w K mg base 2 "_law_draw" fD fdD ["m", "limit"] spDraw) (cRow : Dn P' w K mg base 3 "_law_row" fW fdW ["m", "many"] (spRowT Tb)) (cPairs : Dn P' w K mg base 3 "_law_pairs" fA fdA ["m"] (spPairs Tb))
    (cIsR : DnG P' w K mg base 1 "_law_is_row" fX fdX ["told", "waggons"] (spIsR CR)) (cRowTxt : Dn P' w K mg base 1 "row_text" fY fdY ["row"] (spRowTxt CR)) (cTT : DnX P' w K mg base 4 "turns_text" fT fdT ["turnings"] (spTurnsTxt K C)) (cRdRow : DnX P' w K mg base 6 "read_row" fV fdV ["text"] (spRdRow K C CR)) (cRdT : DnX P' w K mg base 6 "read_turns" fZ fdZ ["text"] (spRdTurns K C))
    (RM : Mk K CR fI) (RI : FnOk P' w K mg base (L2.CX P' w) 3 fI fdI ["self", "waggons"] (spRI K C CR)) (rb : Binds K fdI ["self", "waggons"] [])
    (D : DL K mg "_law_right" sRight f (.ref c) ["m", "many"] oc kV doc pm ct an od osl) :
    FnG P' w K mg base CX0 12 f (PySem.W.fnOf "_law_right" "_law_right" (defArgs sRight) (defBody sRight) (defScope sRight) .none kV doc pm an (.ref c) ct) ["m", "many"] (spRight Tb) := by
  refine fnL D.lk D.cd scRight (fun vs H Q E h => ?_) (fun A outer s H vs Q E hgd0 hr h => ?_)
  · obtain ⟨m, c', g', cs, N, n, rfl, _⟩ := h
    rfl
  · obtain ⟨m, c', g', cs, N, n, rfl, hn, hD, hN, k⟩ := h
    have hgd := (guards_deeper (A := A) (env := envOfC "_law_right" (defScope sRight) s.heap.objs.size f (.ref c))).trans hgd0
    have hu := hu_of hr
    have hun := hr.units
    have hun : (A.deeper (envOfC "_law_right" (defScope sRight) s.heap.objs.size f (.ref c))).units + 64 < cLine := by omega
    refine ⟨_, (pss_cons (ps_asg (pe_tupF (pa_cons (pe_call cRow.ok (hr.mono (by decide)) rfl cRow.mgf cRow.kp cRow.bi .nil pass0 (pa_cons (pv 0) (pa_cons (pv 1) pa_nil))) (pa_cons (pe_call cPairs.ok (hr.mono (by decide)) rfl cPairs.mgf cPairs.kp cPairs.bi .nil pass0 (pa_cons (pv 0) pa_nil)) pa_nil))) (pg_tup (by rfl) (pgs_cons (pg_name (i := 2) scRight.nd rfl (by first | exact Or.inl rfl | exact Or.inr rfl)) (pgs_cons (pg_name (i := 3) scRight.nd rfl (by first | exact Or.inl rfl | exact Or.inr rfl)) pgs_nil))))
      (pss_cons (ps_set (i := 4) scRight.nd rfl (by first | exact Or.inl rfl | exact Or.inr rfl) (pe_join pe_str (pe_lc (own := [("one", 5)]) (tt := tYes) rfl scRight.nd (pi_tup (pv 2)) (blkOk_by (own := [("one", 5)]) (N := ["m", "many", "waggons", "pairs", "due", "one", "pair", "told", "k", "odd"]) (sc := defScope sRight) (by decide +kernel)) (fun _ _ _ _ _ => (pg_name (i := 5) scRight.nd rfl (by first | exact Or.inl rfl | exact Or.inr rfl))) (fun _ _ _ _ _ => pts_nil) (fun _ _ _ _ _ => (pe_op op_add_str (pe_ifExp (pt_cmpR op_gt (pv 5) pe_int (nomark _)) pe_str pe_str) (pe_callTy call_str_int (by rfl) B.str (by decide +kernel) (pa_cons (pe_callB call_abs (by rfl) B.abs (by decide +kernel) (pa_cons (pv 5) pa_nil)) pa_nil)))))))
      (pss_cons (ps_if (PW.pt (pw_or (pt_cmpR op_ne (pe_callB (call_reprQ hgd hun) (by rfl) B.repr (by decide +kernel) (pa_cons (pe_call cRowTxt.ok (hr.mono (by decide)) rfl cRowTxt.mgf cRowTxt.kp cRowTxt.bi .nil pass0 (pa_cons (pe_make (E := fun _ _ _ => False) RM RI (hr.mono (by decide)) (by rfl) R.mgR rb .nil (passes_call LamX.takes0 (fun _ _ _ _ h => h)) (pa_cons (pv 2) pa_nil)) pa_nil)) pa_nil)) (pe_callB (call_reprQ hgd hun) (by rfl) B.repr (by decide +kernel) (pa_cons (pv 4) pa_nil)) (nomark _)) (pw_or1 (pt_not (pt_val (pe_callG cIsR.ok hgd (hr.mono (by decide)) (by rfl) cIsR.mgf cIsR.kp cIsR.bi .nil pass0 (pa_cons (pe_call (E := fun _ _ _ => False) cRdRow.ok (hr.mono (by decide)) rfl cRdRow.mgf cRdRow.kp cRdRow.bi .nil (passes_call LamX.takes0 (fun _ _ _ _ h => h)) (pa_cons (pv 4) pa_nil)) (pa_cons (pv 2) pa_nil)))))))) (pss_one (ps_ret pe_bl)) pss_nil)
      (pss_cons (ps_set (i := 4) scRight.nd rfl (by first | exact Or.inl rfl | exact Or.inr rfl) (pe_join pe_str (pe_lc (own := [("pair", 6)]) (tt := tYes) rfl scRight.nd (pi_list (pv 3)) (blkOk_by (own := [("pair", 6)]) (N := ["m", "many", "waggons", "pairs", "due", "one", "pair", "told", "k", "odd"]) (sc := defScope sRight) (by decide +kernel)) (fun _ _ _ _ _ => (pg_name (i := 6) scRight.nd rfl (by first | exact Or.inl rfl | exact Or.inr rfl))) (fun _ _ _ _ _ => pts_nil) (fun _ _ _ _ _ => (pe_op op_add_str (pe_op op_add_str (pe_callTy call_str_int (by rfl) B.str (by decide +kernel) (pa_cons (pe_ix ixF (pv 6) pe_int (fun _ _ => rfl)) pa_nil)) pe_str) (pe_callTy call_str_int (by rfl) B.str (by decide +kernel) (pa_cons (pe_ix ixF (pv 6) pe_int (fun _ _ => rfl)) pa_nil)))))))
      (pss_cons (ps_set (i := 7) scRight.nd rfl (by first | exact Or.inl rfl | exact Or.inr rfl) (pe_lstF (pa_cons (pe_call (E := fun _ _ _ => False) cTT.ok (hr.mono (by decide)) rfl cTT.mgf cTT.kp cTT.bi .nil (passes_call LamX.takes0 (fun _ _ _ _ h => h)) (pa_cons (pv 3) pa_nil)) (pa_cons (pe_call (E := fun _ _ _ => False) cTT.ok (hr.mono (by decide)) rfl cTT.mgf cTT.kp cTT.bi .nil (passes_call LamX.takes0 (fun _ _ _ _ h => h)) (pa_cons (pe_callTy tupF (by rfl) B.tuple (by decide +kernel) (pa_cons (pv 3) pa_nil)) pa_nil)) (pa_cons (pe_call (E := fun _ _ _ => False) cRdT.ok (hr.mono (by decide)) rfl cRdT.mgf cRdT.kp cRdT.bi .nil (passes_call LamX.takes0 (fun _ _ _ _ h => h)) (pa_cons (pv 4) pa_nil)) pa_nil)))))
      (pss_cons (ps_if (pt_cmpR op_ne (pe_callB (call_reprQ hgd hun) (by rfl) B.repr (by decide +kernel) (pa_cons (pv 7) pa_nil)) (pe_callB (call_reprQ hgd hun) (by rfl) B.repr (by decide +kernel) (pa_cons (pe_lstF (pa_cons (pv 4) (pa_cons (pv 4) (pa_cons (pe_callTy tupF (by rfl) B.tuple (by decide +kernel) (pa_cons (pv 3) pa_nil)) pa_nil)))) pa_nil)) (nomark _)) (pss_one (ps_ret pe_bl)) pss_nil)
      (pss_cons (ps_set (i := 8) scRight.nd rfl (by first | exact Or.inl rfl | exact Or.inr rfl) (pe_call cDraw.ok (hr.mono (by decide)) rfl cDraw.mgf cDraw.kp cDraw.bi .nil pass0 (pa_cons (pv 0) (pa_cons (pe_op op_add (pe_callB lenF (by rfl) B.len (by decide +kernel) (pa_cons (pv 3) pa_nil)) pe_int) pa_nil))))
      (pss_cons (ps_for (passes_of rfl) rfl (pi_tup (pe_tupF (pa_cons pe_non (pa_cons (pe_tupF (pa_cons pe_int (pa_cons pe_int pa_nil))) (pa_cons (pe_tupF (pa_cons pe_int pa_nil)) (pa_cons (pe_tupF (pa_cons pe_int (pa_cons pe_int pa_nil))) (pa_cons (pe_tupF (pa_cons (pe_op op_sub pe_int pe_int) (pa_cons pe_int pa_nil))) (pa_cons (pe_lstF (pa_cons pe_int (pa_cons pe_int pa_nil))) (pa_cons (pe_tupF (pa_cons pe_bl (pa_cons pe_int pa_nil))) (pa_cons (pe_tupF (pa_cons pe_str (pa_cons pe_int pa_nil))) (pa_cons (pe_tupF (pa_cons pe_int (pa_cons pe_int (pa_cons pe_int pa_nil)))) (pa_cons pe_str pa_nil)))))))))))) (pg_name (i := 9) scRight.nd rfl (by first | exact Or.inl rfl | exact Or.inr rfl)) (pss_one (ps_if (pt_cmpR (op_neD hr.units) (LamX.pe_lamcall (k := 9) (T := Tb) (TT := TTt C) (t := fun E => (tCall (spTurnsTxt K C) [] E (tCons (tOp rCatF (tOp rCatF (tSl rSlF (tVar 3) tNoPart (tPart (tVar 8))) (tLstF (tCons (tVar 9) (tCons (tC .non) tNil)))) (tSl rSlF (tVar 3) (tPart (tVar 8)) tNoPart)) tNil))) (by rfl) HD.mgf HD.kp HD.lk HD.cd HD.bi scTold rfl (by first | exact .inl rfl | exact .inr rfl | rfl) (told_gives XE B cClass (hr.mono (by decide))) TB rfl hTb huT (hr.mono (by decide)) (LamX.lamS_by (sc := defScope sRight) (by decide +kernel)) rfl (fun _ _ _ _ _ => rfl) (fun A' outer' s' H' E' f' c' hr' => (pe_call cTT.ok (hr'.mono (by decide)) rfl cTT.mgf cTT.kp cTT.bi .nil (passes_call (takes_of rfl rfl rfl rfl) (fun _ _ _ _ h => h)) (pa_cons (pe_op catF (pe_op catF (pe_slice slF (pv 3) po_none (po_some (pv 8))) (pe_lstF (pa_cons (pv 9) (pa_cons pe_non pa_nil)))) (pe_slice slF (pv 3) (po_some (pv 8)) po_none)) pa_nil)))) (pe_tupF (pa_cons pe_str (pa_cons (pv 8) pa_nil))) (nomark _)) (pss_one (ps_ret pe_bl)) pss_nil)))
      (pss_one (ps_ret pe_bl)))))))))), ?_⟩
    refine seq_q (fun σ' H' => ∃ (p l : Addr) (ws : List Int) (us : List V) (ps : List (Nat × Nat)), σ' = [some (.ref m), some (.int (n : Nat)), some (.ref p), some (.ref l), none, none, none, none, none, none] ∧ IsRow ws n ∧ H' p = some (.tup (ws.map V.int)) ∧ H' l = some (.lst us) ∧ PrL H' us ps ∧ ps.length ≤ 11 ∧ (∀ q ∈ ps, q.1 ≤ q.2 ∧ q.2 < 100) ∧ l ≠ m ∧ l ≠ g' ∧ DS m c' g' cs Tb (N + 160) H' ∧ Kn m g' H H') (fun D2 eD2 hZ2 => ?_) ?_
    · refine ⟨_, rfl, _, rfl, ⟨m, c', g', cs, N, n, rfl, hn, hD, by omega, fun p ws H1 hrow hp d1 k1 => ?_⟩⟩
      refine ⟨_, rfl, m, c', g', cs, N + 100, rfl, d1, by omega, fun l us ps H2 lm lg hl hP lp hb d2 k2 => ?_⟩
      refine ⟨sz_le (by simp), view_tup (VW.start (H := H2)) fun t A v => ?_⟩
      have hp2 := k2.at d1 hp rfl
      refine ⟨t, _, rfl, SqT.of (v.tu _ List.mem_cons_self), rfl, _, _, rfl, _, _, rfl, rfl, hZ2 _ _ ⟨p, l, ws, us, ps, rfl, hrow, v.fr _ _ hp2, v.fr _ _ hl, hP.same v.fr, lp, hb, lm, lg, (d2.same v.fr).le (by omega), Kn.trans k1 (Kn.trans k2 (Kn.of v.fr))⟩⟩
    rintro σ1 H1 ⟨p, l, ws, us, ps, rfl, hrow, hp, hl, hP, lp, hb, lm, lg, hD1, kn1⟩
    have lw := hrow.len
    have wb : ∀ z ∈ ws, z ≠ 0 ∧ z.natAbs ≤ 24 := fun z hz => by
      have a := row_mem hrow z hz
      exact ⟨a.1, by omega⟩
    refine seq_q (fun σ' H' => σ' = [some (.ref m), some (.int (n : Nat)), some (.ref p), some (.ref l), some (.str (rowTxt ws)), none, none, none, none, none] ∧ Same H1 H') (fun D2 eD2 hZ2 => ?_) ?_
    · refine ⟨⟨_, rfl⟩, _, rfl, p, rfl, ⟨_, SqT.of hp⟩, fun D hD => ?_⟩
      refine lc_it (walk_tup (K := K) (a := p) (xs := ws.map V.int)) (fun i H' => VW H1 H' [(D, .lst (((ws.map plusD).take i).map V.str))] []) (VW.start.push hD) (fun i H' _ v' => SqT.of (v'.fr _ _ hp)) ?_ ?_
      · rintro i x A1 A2 hi v1 ⟨rfl, hx⟩
        rw [List.getElem?_map] at hx
        obtain ⟨z, hz, rfl⟩ := Option.map_eq_some_iff.mp hx
        have zb := wb z (List.mem_of_getElem? hz)
        refine ⟨rfl, yes_if ?_⟩
        have nx : ((ws.map plusD).take (i + 1)).map V.str = ((ws.map plusD).take i).map V.str ++ [V.str (plusD z)] := by
          rw [List.take_succ, List.getElem?_map, hz]
          simp
        have v2 := v1.put (o := .lst (((ws.map plusD).take i).map V.str ++ [V.str (plusD z)])) 0 rfl rfl
        have ab : (if z < 0 then -z else z) = ((z.natAbs : Nat) : Int) := by split <;> omega
        have go : ∀ t : Str, t.length = 1 → t ++ Str.ofString (toString ((z.natAbs : Nat) : Int)) = plusD z → t.length + (Str.ofString (toString ((z.natAbs : Nat) : Int))).length ≤ sizeLine ∧ ∃ acc, A2 D = some (HO.lst acc) ∧ acc.length < sizeLine ∧ VW H1 (upd A2 D (.lst (acc ++ [V.str (t ++ Str.ofString (toString ((z.natAbs : Nat) : Int)))]))) [(D, .lst (((ws.map plusD).take (i + 1)).map V.str))] [] := fun t ht e => by
          have := num_len z.natAbs (by omega)
          refine ⟨sz_le (by omega), _, v1.facts.1, sz_lt (by rw [List.length_map, List.length_take, List.length_map]; omega), ?_⟩
          rw [e, nx]
          exact v2
        simp only [tOp, tIf, tTest, tVar, tC, tCB, tCons, tNil, rI0]
        refine ⟨_, rfl, z, 0, rfl, rfl, _, rfl, ?_⟩
        by_cases hz0 : 0 < z
        · rw [if_pos (decide_eq_true hz0)]
          refine ⟨_, rfl, _, rfl, _, rfl, ?_⟩
          rw [ab]
          obtain ⟨g1, g2⟩ := go (Str.ofString "+") rfl (by unfold plusD; rw [if_neg (by omega)])
          exact ⟨small_log _ (by omega), _, _, rfl, rfl, g1, g2⟩
        · rw [if_neg (by simpa using hz0)]
          refine ⟨_, rfl, _, rfl, _, rfl, ?_⟩
          rw [ab]
          obtain ⟨g1, g2⟩ := go (Str.ofString "-") rfl (by unfold plusD; rw [if_pos (by omega)])
          exact ⟨small_log _ (by omega), _, _, rfl, rfl, g1, g2⟩
      · intro A1 v1
        rw [List.length_map, List.take_of_length_le (by rw [List.length_map]; omega)] at v1
        have sm := sumLe (b := 3) (ys := ws.map plusD) fun y hy => by
          obtain ⟨z, hz, rfl⟩ := List.mem_map.mp hy
          exact plusD_len (wb z hz).2
        rw [List.length_map] at sm
        exact ⟨_, D, ws.map plusD, rfl, rfl, .inl (SqL.of v1.facts.1), by rw [List.length_map, show (Str.ofString " ").length = 1 from rfl]; omega, hZ2 _ _ ⟨rfl, v1.fr⟩⟩
    rintro σ2 H2 ⟨rfl, s2⟩
    have hD2 := hD1.same s2
    have hp2 := s2 _ _ hp
    have hl2 := s2 _ _ hl
    have hP2 := hP.same s2
    have rl := rowT_len (ws := ws) fun z hz => (wb z hz).2
    have rs := shw_tx (z := rowTxt ws) (row_lt fun z hz => (wb z hz).2) (by omega)
    refine seq_q (fun σ' H' => σ' = [some (.ref m), some (.int (n : Nat)), some (.ref p), some (.ref l), some (.str (rowTxt ws)), none, none, none, none, none] ∧ Same H2 H') (fun D2 eD2 hZ2 => ?_) ?_
    · walk_at "s"
      refine make_at hp2 rfl hrow hn fun r A1 e1 hr => ?_
      refine ⟨r, ws, rfl, hr, fun z hz => (wb z hz).2, by omega, fun A2 e2 => ?_⟩
      refine ⟨_, .str (rowTxt ws), rfl, .of (.str _) rs, _, .str (rowTxt ws), rfl, .of (.str _) rs, ?_⟩
      have s3 : Same H2 A2 := Same.tx e1 e2
      have rd := rd_rowTxt (ws := ws) fun z hz => ⟨(wb z hz).1, by have := (wb z hz).2; omega⟩
      refine ⟨rfl, .inl ⟨rfl, rdrow_ok (by omega) rd hrow hn fun q A3 e3 hq => ?_⟩⟩
      have s4 : Same H2 A3 := Same.tx s3 e3
      exact ⟨q, p, ws, n, rfl, hq, s4 _ _ hp2, shw_row hrow hn, hn, .inr ⟨rfl, hZ2 _ _ ⟨rfl, s4⟩⟩⟩
    rintro σ3 H3 ⟨rfl, s3⟩
    have hD3 := hD2.same s3
    have hl3 := s3 _ _ hl2
    have hP3 := hP2.same s3
    have lu := hP3.len
    have pl := prsT_len (ps := ps) hb
    have pss := shw_tx (z := prsTxt ps) (prs_lt hb) (by omega)
    refine seq_q (fun σ' H' => σ' = [some (.ref m), some (.int (n : Nat)), some (.ref p), some (.ref l), some (.str (prsTxt ps)), none, none, none, none, none] ∧ Same H3 H') (fun D2 eD2 hZ2 => ?_) ?_
    · refine ⟨⟨_, rfl⟩, _, rfl, l, rfl, ⟨_, SqL.of hl3⟩, fun D hD => ?_⟩
      refine lc_it (walk_list (K := K) (a := l) (xs := us)) (fun i H' => VW H3 H' [(D, .lst (((ps.map pTxt).take i).map V.str))] []) (VW.start.push hD) (fun i H' _ v' => SqL.of (v'.fr _ _ hl3)) ?_ ?_
      · rintro i x A1 A2 hi v1 ⟨rfl, hx⟩
        obtain ⟨q, t, hq, rfl, ht⟩ := hP3.get hx
        have bq := hb q (List.mem_of_getElem? hq)
        have ht1 := v1.fr _ _ ht
        have l1 := num_len q.1 (by omega)
        have l2 := num_len q.2 bq.2
        have nx : ((ps.map pTxt).take (i + 1)).map V.str = ((ps.map pTxt).take i).map V.str ++ [V.str (pTxt q)] := by
          rw [List.take_succ, List.getElem?_map, hq]
          simp
        have v2 := v1.put (o := .lst (((ps.map pTxt).take i).map V.str ++ [V.str (pTxt q)])) 0 rfl rfl
        have e1 : (Str.ofString "-").length = 1 := rfl
        refine ⟨rfl, yes_if ?_⟩
        refine ⟨_, rfl, t, 0, rfl, rfl, _, ht1, _, rfl, _, rfl, _, rfl, small_log _ (by omega), _, _, rfl, rfl, sz_le (by omega), ?_⟩
        refine ⟨_, rfl, t, 1, rfl, rfl, _, ht1, _, rfl, _, rfl, _, rfl, small_log _ bq.2, _, _, rfl, rfl, sz_le (by rw [lenApp]; omega), ?_⟩
        refine ⟨_, v1.facts.1, sz_lt (by rw [List.length_map, List.length_take, List.length_map]; omega), ?_⟩
        show VW H3 _ [(D, .lst (((ps.map pTxt).take (i + 1)).map V.str))] []
        rw [nx]
        exact v2
      · intro A1 v1
        rw [List.take_of_length_le (by rw [List.length_map]; omega)] at v1
        have sm := sumLe (b := 5) (ys := ps.map pTxt) fun y hy => by
          obtain ⟨z, hz, rfl⟩ := List.mem_map.mp hy
          have := hb z hz
          exact pTxt_len (by omega) (by omega)
        rw [List.length_map] at sm
        exact ⟨_, D, ps.map pTxt, rfl, rfl, .inl (SqL.of v1.facts.1), by rw [List.length_map, show (Str.ofString ", ").length = 2 from rfl]; omega, hZ2 _ _ ⟨rfl, v1.fr⟩⟩
    rintro σ4 H4 ⟨rfl, s4⟩
    have hD4 := hD3.same s4
    have hl4 := s4 _ _ hl3
    have hP4 := hP3.same s4
    have rdp := rd_prsTxt (ps := ps) hb
    have dt : ∀ {A : Hp} {r t : Addr} {xs : List V}, A r = some (.lst [.str (prsTxt ps), .str (prsTxt ps), .ref t]) → A t = some (.tup xs) → PrL A xs ps → Dp K A (.ref r) (.list [.str (prsTxt ps), .str (prsTxt ps), .tuple (prD ps)]) := fun h1 h2 h3 => .lst (SqL.of h1) (.cons (.str _) (.cons (.str _) (.cons (.tup (SqT.of h2) h3.dp) .nil)))
    have dshw : Shw (.list [.str (prsTxt ps), .str (prsTxt ps), .tuple (prD ps)]) := by
      obtain ⟨h1, h2, h3, h4, h5⟩ := prD_all (ps := ps) fun q hq => by have := hb q hq; omega
      have so := sok_tl (prs_lt hb)
      refine shw_of ?_ ?_ ?_ ?_ ?_
      · simpa [PyData.showable, PyData.showableAll] using h1
      · simpa [PyData.canLay0, PyData.canLayAll0, so] using h2
      · simp only [PyData.depth, PyData.depthAll]; omega
      · simp only [PyData.weight, PyData.weightAll]
        have : (prsTxt ps).cps.size ≤ 77 := by
          have : (prsTxt ps).cps.size = (prsTxt ps).length := rfl
          omega
        omega
      · simpa [PyData.intsShort, PyData.intsShortAll] using h5
    refine seq_q (fun σ' H' => ∃ (r t : Addr) (xs : List V), σ' = [some (.ref m), some (.int (n : Nat)), some (.ref p), some (.ref l), some (.str (prsTxt ps)), none, none, some (.ref r), none, none] ∧ Same H4 H' ∧ H' r = some (.lst [.str (prsTxt ps), .str (prsTxt ps), .ref t]) ∧ H' t = some (.tup xs) ∧ PrL H' xs ps) (fun D2 eD2 hZ2 => ?_) ?_
    · walk_at "s"
      refine ttxt_ok hl4 rfl hP4 (by omega) hb fun A1 e1 => ?_
      refine ⟨_, e1 _ _ hl4, _, rfl, view_tup (VW.start (H := A1)) fun t1 A2 v2 => ?_⟩
      have hP5 := (hP4.same e1).same v2.fr
      refine ttxt_ok (v2.tu _ List.mem_cons_self) rfl hP5 (by omega) hb fun A3 e3 => ?_
      refine rdt_ok (by omega) rdp fun t2 xs A4 e4 ht2 hx2 => ?_
      refine ⟨sz_le (by simp), view_new (VW.start (H := A4)) fun r A5 v5 => hZ2 _ _ ⟨r, t2, xs, rfl, Same.tx e1 (Same.tx v2.fr (Same.tx e3 (Same.tx e4 v5.fr))), v5.facts.1, v5.fr _ _ ht2, hx2.same v5.fr⟩⟩
    rintro σ5 H5 ⟨r, t2, xs, rfl, s5, hr5, ht5, hx5⟩
    have hD5 := hD4.same s5
    have hl5 := s5 _ _ hl4
    have hP5 := hP4.same s5
    refine seq_q (fun σ' H' => σ' = [some (.ref m), some (.int (n : Nat)), some (.ref p), some (.ref l), some (.str (prsTxt ps)), none, none, some (.ref r), none, none] ∧ Same H5 H') (fun D2 eD2 hZ2 => ?_) ?_
    · walk_at "s"
      refine ⟨_, .list [.str (prsTxt ps), .str (prsTxt ps), .tuple (prD ps)], rfl, .of (dt hr5 ht5 hx5) dshw, ?_⟩
      refine ⟨_, hl5, _, rfl, view_tup (VW.start (H := H5)) fun t A v => ⟨sz_le (by simp), view_new v fun r2 A2 v2 => ?_⟩⟩
      exact ⟨_, .list [.str (prsTxt ps), .str (prsTxt ps), .tuple (prD ps)], rfl, .of (dt v2.facts.1 (v2.tu _ List.mem_cons_self) (hP5.same v2.fr)) dshw, rfl, .inl ⟨rfl, hZ2 _ _ ⟨rfl, v2.fr⟩⟩⟩
    rintro σ6 H6 ⟨rfl, s6⟩
    have hD6 := hD5.same s6
    have hl6 := s6 _ _ hl5
    have hP6 := hP5.same s6
    refine seq_q (fun σ' H' => ∃ k : Nat, k ≤ us.length ∧ σ' = [some (.ref m), some (.int (n : Nat)), some (.ref p), some (.ref l), some (.str (prsTxt ps)), none, none, some (.ref r), some (.int (k : Nat)), none] ∧ H' l = some (.lst us) ∧ PrL H' us ps ∧ DS m c' g' cs Tb (N + 161) H' ∧ Kn m g' H6 H') (fun D2 eD2 hZ2 => ?_) ?_
    · walk_at "s"
      refine ⟨_, hl6, _, rfl, ?_⟩
      refine draw_ds hD6 (by omega) (by omega) (by omega) fun x A1 x0 x1 d1 k1 => ?_
      obtain ⟨x, rfl⟩ := Int.eq_ofNat_of_zero_le x0
      exact hZ2 _ _ ⟨x, by omega, rfl, k1 _ _ hl6 lm lg rfl, hP6.kn hD6 k1, d1, k1⟩
    rintro σ7 H7 ⟨k0, hk0, rfl, hl7, hP7, hD7, kn7⟩
    have lu7 := hP7.len
    refine seq_q (fun σ' H' => ∃ u9 : Option V, σ' = [some (.ref m), some (.int (n : Nat)), some (.ref p), some (.ref l), some (.str (prsTxt ps)), none, none, some (.ref r), some (.int (k0 : Nat)), u9] ∧ DS m c' g' cs Tb (N + 161) H' ∧ Kn m g' H7 H') (fun D2 eD2 hZ2 => ?_) ?_
    · refine ⟨sz_le (by simp), view_tup (VW.start (H := H7)) fun a1 A1 v1 => ?_⟩
      refine ⟨sz_le (by simp), view_tup v1 fun a2 A2 v2 => ?_⟩
      refine ⟨sz_le (by simp), view_tup v2 fun a3 A3 v3 => ?_⟩
      refine ⟨0, 1, rfl, rfl, sz_le (by simp), view_tup v3 fun a4 A4 v4 => ?_⟩
      refine ⟨sz_le (by simp), view_new v4 fun a5 A5 v5 => ?_⟩
      refine ⟨sz_le (by simp), view_tup v5 fun a6 A6 v6 => ?_⟩
      refine ⟨sz_le (by simp), view_tup v6 fun a7 A7 v7 => ?_⟩
      refine ⟨sz_le (by simp), view_tup v7 fun a8 A8 v8 => ?_⟩
      refine ⟨sz_le (by simp), view_tup v8 fun T A9 v9 => ⟨T, rfl, ⟨_, SqT.of (v9.tu _ List.mem_cons_self)⟩, ?_⟩⟩
      have d9 := hD7.same v9.fr
      have hT9 : A9 T = some (.tup [V.non, V.ref a1, V.ref a2, V.ref a3, V.ref a4, V.ref a5, V.ref a6, V.ref a7, V.ref a8, V.str (Str.ofString "0-1")]) := v9.tu _ List.mem_cons_self
      have g8 : A9 a8 = some (.tup [V.int 0, V.int 1, V.int 2]) := v9.tu _ (.tail _ (.head _))
      have g7 : A9 a7 = some (.tup [V.str (Str.ofString "0"), V.int 1]) := v9.tu _ (.tail _ (.tail _ (.head _)))
      have g6 : A9 a6 = some (.tup [V.bl true, V.int 1]) := v9.tu _ (.tail _ (.tail _ (.tail _ (.head _))))
      have g4 : A9 a4 = some (.tup [V.int (-1), V.int 0]) := v9.tu _ (.tail _ (.tail _ (.tail _ (.tail _ (.head _)))))
      have g3 : A9 a3 = some (.tup [V.int 0, V.int 100]) := v9.tu _ (.tail _ (.tail _ (.tail _ (.tail _ (.tail _ (.head _))))))
      have g2 : A9 a2 = some (.tup [V.int 0]) := v9.tu _ (.tail _ (.tail _ (.tail _ (.tail _ (.tail _ (.tail _ (.head _)))))))
      have g1 : A9 a1 = some (.tup [V.int 1, V.int 0]) := v9.tu _ (.tail _ (.tail _ (.tail _ (.tail _ (.tail _ (.tail _ (.tail _ (.head _))))))))
      have g5 : A9 a5 = some (.lst [V.int 0, V.int 1]) := v9.facts.1
      have all : ∀ (i : Nat) (y : V), [V.non, V.ref a1, V.ref a2, V.ref a3, V.ref a4, V.ref a5, V.ref a6, V.ref a7, V.ref a8, V.str (Str.ofString "0-1")][i]? = some y → ∃ ov, (∀ H'', LamX.ExtN A9 H'' → StV K H'' y ov) ∧ stOk 99 ov = false := fun i y hy => by
        have hi : i < 10 := (List.getElem?_eq_some_iff.mp hy).1
        have : i = 0 ∨ i = 1 ∨ i = 2 ∨ i = 3 ∨ i = 4 ∨ i = 5 ∨ i = 6 ∨ i = 7 ∨ i = 8 ∨ i = 9 := by omega
        rcases this with rfl | rfl | rfl | rfl | rfl | rfl | rfl | rfl | rfl | rfl <;> cases hy
        · exact ⟨none, fun _ _ => .inl ⟨_, .base .non, kit_ty (by decide +kernel)⟩, rfl⟩
        · exact ⟨some (.int 1, .int 0), fun _ e => ⟨a1, rfl, e _ _ g1 (noTbl_ne rfl), .int _, .int _⟩, rfl⟩
        · exact ⟨none, fun _ e => .inr ⟨a2, _, rfl, e _ _ g2 (noTbl_ne rfl), by simp⟩, rfl⟩
        · exact ⟨some (.int 0, .int 100), fun _ e => ⟨a3, rfl, e _ _ g3 (noTbl_ne rfl), .int _, .int _⟩, rfl⟩
        · exact ⟨some (.int (-1), .int 0), fun _ e => ⟨a4, rfl, e _ _ g4 (noTbl_ne rfl), .int _, .int _⟩, rfl⟩
        · exact ⟨none, fun _ e => .inl ⟨_, .base (.lst (e _ _ g5 (noTbl_ne rfl))), kit_ty (by decide +kernel)⟩, rfl⟩
        · exact ⟨some (.bl true, .int 1), fun _ e => ⟨a6, rfl, e _ _ g6 (noTbl_ne rfl), .bl _, .int _⟩, rfl⟩
        · exact ⟨some (.str "0", .int 1), fun _ e => ⟨a7, rfl, e _ _ g7 (noTbl_ne rfl), .other (.base (.str _)) (kit_ty (by decide +kernel)) (fun i z => by cases z), .int _⟩, rfl⟩
        · exact ⟨none, fun _ e => .inr ⟨a8, _, rfl, e _ _ g8 (noTbl_ne rfl), by simp⟩, rfl⟩
        · exact ⟨none, fun _ _ => .inl ⟨_, .base (.str _), kit_ty (by decide +kernel)⟩, rfl⟩
      have hl9 := v9.fr _ _ hl7
      have hP9 := hP7.same v9.fr
      refine for_it (walk_tup (K := K) (a := T) (xs := [V.non, V.ref a1, V.ref a2, V.ref a3, V.ref a4, V.ref a5, V.ref a6, V.ref a7, V.ref a8, V.str (Str.ofString "0-1")]))
        (fun i σ H' => ∃ u9 : Option V, σ = [some (.ref m), some (.int (n : Nat)), some (.ref p), some (.ref l), some (.str (prsTxt ps)), none, none, some (.ref r), some (.int (k0 : Nat)), u9] ∧ LamX.ExtN A9 H' ∧ DS m c' g' cs Tb (N + 161) H')
        ⟨none, rfl, LamX.ExtN.of fun _ _ h => h, d9⟩ (fun i σ H' _ ⟨_, _, e, _⟩ => SqT.of (e _ _ hT9 (noTbl_ne rfl))) ?_ (fun σ H' ⟨u9, e1, eN, d⟩ => hZ2 _ _ ⟨u9, e1, d, Kn.trans (Kn.of v9.fr) (Kn.ofN eN)⟩)
      rintro i y σ B1 B2 hi ⟨u9, rfl, eN, dB⟩ ⟨rfl, hy⟩
      obtain ⟨ov, hst, hov⟩ := all i y hy
      walk_at "s"
      refine told_any dB.tabs fun H2 Qx e2 T2 hx => ?_
      have e92 := eN.trans e2
      have hlB := e92 _ _ hl9 (noTbl_ne rfl)
      have hPB : PrL H2 us ps := hP9.keep fun a xs q => e92 _ _ q (noTbl_ne rfl)
      walk_at "s"
      have w0 := VW.start (H := H2)
      refine ⟨us, hlB, view_new w0 fun s1 A1 v1 => ⟨sz_le (by simp), view_new v1 fun s2 A2 v2 => ⟨_, v2.facts.2.1, _, v2.facts.1, sz_le ?_, view_new v2 fun s3 A3 v3 => ⟨us, v3.fr _ _ hlB, view_new v3 fun s4 A4 v4 => ⟨_, v4.facts.2.1, _, v4.facts.1, sz_le ?_, view_new v4 fun s5 A5 v5 => ?_⟩⟩⟩⟩⟩
      · rw [cut_b (by omega)]
        simp
        omega
      · rw [cut_b (by omega), cut_d (by omega)]
        simp
        omega
      have h5 : A5 s5 = some (.lst ((us.take k0 ++ [y, .non]) ++ us.drop k0)) := by
        have := v5.facts.1
        rw [cut_b (by omega), cut_d (by omega)] at this
        exact this
      have P5 : PrL A5 us ps := hPB.same v5.fr
      have lt : (us.take k0).length = k0 := by rw [List.length_take]; omega
      have e52 : Same H2 A5 := v5.fr
      refine ⟨.ref s5, rfl, .inl ⟨s5, _, _, k0, ps.take k0, rfl, h5, rfl, by simp; omega, by simp; omega, by rw [List.length_take]; omega, ?_, fun q hq => hb q (List.mem_of_mem_take hq), .inr ⟨y, ov, ?_, fun H' s' => hst H' (e92.trans (LamX.ExtN.of (Same.tx e52 s'))), hov, fun d H' s' hd => ?_⟩⟩⟩
      · rw [List.append_assoc, List.take_append_of_le_length (by omega), List.take_of_length_le (by omega)]
        exact prl_take P5 k0
      · rw [List.append_assoc, List.getElem?_append_right (by omega), lt, Nat.sub_self]
        rfl
      · refine ⟨.turn, rfl, .inl ⟨rfl, d, _, rfl, hd, fun t1 H4 s4 ht1 => ?_⟩⟩
        have s24 := Same.tx e52 (Same.tx s' s4)
        refine ⟨sz_le (by simp), view_tup (VW.start (H := H4)) fun t2 H5 w5 => ?_⟩
        refine ⟨.tuple [.str "BadTurn", .int (k0 : Nat)], .tuple [.str "BadTurn", .int (k0 : Nat)], .tup (SqT.of (w5.fr _ _ ht1)) (.cons (.str _) (.cons (.int _) .nil)), .tup (SqT.of (w5.tu _ List.mem_cons_self)) (.cons (.str _) (.cons (.int _) .nil)), (shp_wt "BadTurn" rfl k0).2, (shp_wt "BadTurn" rfl k0).2, .inl ⟨?_, e92.trans (LamX.ExtN.of (Same.tx s24 w5.fr)), ((dB.extN e2 T2).same (Same.tx s24 w5.fr))⟩⟩
        rw [SeqAt.eqv_refl _ (shp_wt "BadTurn" rfl k0).1]
        rfl
    rintro σ8 H8 ⟨u9, rfl, hD8, kn8⟩
    exact k H8 (hD8.le (by omega)) (Kn.trans kn1 (Kn.trans (Kn.of (Same.tx s2 (Same.tx s3 (Same.tx s4 (Same.tx s5 s6))))) (Kn.trans kn7 kn8)))
end
def spLaw (K : PySem.W.Frag) (Tb : List (Addr × Str)) : Sp := fun vs H Q _ => ∃ (a : Addr) (ns : List Int), vs = [.ref a] ∧ SqL K H a (ns.map V.int) ∧ ns.length ≤ 63 ∧ LamX.Tabs Tb H ∧ ∀ H', Q (.bl true) H'
section
variable {P' : Program} {w : World} {K : PySem.W.Frag} {mg : Str → Option Value} {base : Heap} {C : Kd → Addr} {CF CR P c f g fC fD fB fX fY fT fV fZ fI fQ : Addr} {fdC fdD fdB fdX fdY fdT fdV fdZ fdI fdQ : FuncData} {Tb : List (Addr × Str)}
theorem scLaw : FnScope ["script", "m", "many", "odd", "pairs", "n"] ["script"] (defScope sLaw) := ⟨rfl, rfl, rfl, by decide +kernel, rfl, by decide +kernel, by decide +kernel⟩
theorem ok_law {oc kV doc pm ct oc2 kV2 doc2 pm2 ct2 cdv2 : Value} {an od an2 od2 : Option Addr} {osl osl2 : Array (Option Value)} (B : Blt mg) (R : RowC K mg CR) (XE : Exs K mg CF C) (TB : LamX.TabB base mg c P) (hTb : (P, (("law" : Str) ++ ".<locals>.") ++ "<lambda>") ∈ Tb) (huT : ∀ p ∈ Tb, p.1 = P → p.2 = (("law" : Str) ++ ".<locals>.") ++ "<lambda>")
    (HD : DL K mg "_law_told" sTold g cdv2 ["call"] oc2 kV2 doc2 pm2 ct2 an2 od2 osl2) (cClass : Dn P' w K mg base 1 "_law_class" fC fdC ["error"] (spClass C)) (cDraw : Dn P' w K mg base 2 "_law_draw" fD fdD ["m", "limit"] spDraw) (cBegun : Dn P' w K mg base 2 "_law_begun" fB fdB ["script"] (spBegun K))
    (cRight : DnG P' w K mg base 12 "_law_right" fX fdX ["m", "many"] (spRight Tb)) (cRowTxt : Dn P' w K mg base 1 "row_text" fY fdY ["row"] (spRowTxt CR)) (cTT : DnX P' w K mg base 4 "turns_text" fT fdT ["turnings"] (spTurnsTxt K C)) (cRdRow : DnX P' w K mg base 6 "read_row" fV fdV ["text"] (spRdRow K C CR)) (cRdT : DnX P' w K mg base 6 "read_turns" fZ fdZ ["text"] (spRdTurns K C))
    (RM : Mk K CR fI) (RI : FnOk P' w K mg base (L2.CX P' w) 3 fI fdI ["self", "waggons"] (spRI K C CR)) (rb : Binds K fdI ["self", "waggons"] [])
    (FEq : FnOk P' w K mg base CX0 1 fQ fdQ ["self", "other"] (spREq CR)) (REq : OpM K CR "__eq__" fQ fdQ ["self", "other"]) (hne : PySem.W.findIn K (.ref CR) "__ne__" = some (some (.builtin "object.__ne__")))
    (D : DL K mg "law" sLaw f (.ref c) ["script"] oc kV doc pm ct an od osl) :
    FnG P' w K mg base CX0 14 f (PySem.W.fnOf "law" "law" (defArgs sLaw) (defBody sLaw) (defScope sLaw) .none kV doc pm an (.ref c) ct) ["script"] (spLaw K Tb) := by
  refine fnL D.lk D.cd scLaw (fun vs H Q E h => ?_) (fun A outer s H vs Q E hgd0 hr h => ?_)
  · obtain ⟨a, ns, rfl, _⟩ := h
    rfl
  · obtain ⟨a, ns, rfl, hS, hlen, hT, k⟩ := h
    have hgd := (guards_deeper (A := A) (env := envOfC "law" (defScope sLaw) s.heap.objs.size f (.ref c))).trans hgd0
    have hu := hu_of hr
    have hun := hr.units
    have hun : (A.deeper (envOfC "law" (defScope sLaw) s.heap.objs.size f (.ref c))).units + 64 < cLine := by omega
    refine ⟨_, (pss_cons (ps_set (i := 1) scLaw.nd rfl (by first | exact Or.inl rfl | exact Or.inr rfl) (pe_call cBegun.ok (hr.mono (by decide)) rfl cBegun.mgf cBegun.kp cBegun.bi .nil pass0 (pa_cons (pv 0) pa_nil)))
      (pss_cons (ps_for (passes_of rfl) rfl (pi_tup (pe_tupF (pa_cons (pe_call cDraw.ok (hr.mono (by decide)) rfl cDraw.mgf cDraw.kp cDraw.bi .nil pass0 (pa_cons (pv 1) (pa_cons pe_int pa_nil))) (pa_cons (pe_op op_add pe_int (pe_call cDraw.ok (hr.mono (by decide)) rfl cDraw.mgf cDraw.kp cDraw.bi .nil pass0 (pa_cons (pv 1) (pa_cons pe_int pa_nil)))) (pa_cons pe_int pa_nil))))) (pg_name (i := 2) scLaw.nd rfl (by first | exact Or.inl rfl | exact Or.inr rfl)) (pss_one (ps_if (pt_not (pt_val (pe_callG cRight.ok hgd (hr.mono (by decide)) (by rfl) cRight.mgf cRight.kp cRight.bi .nil pass0 (pa_cons (pv 1) (pa_cons (pv 2) pa_nil))))) (pss_one (ps_ret pe_bl)) pss_nil)))
      (pss_cons (ps_set (i := 3) scLaw.nd rfl (by first | exact Or.inl rfl | exact Or.inr rfl) (pe_ix ixF (pe_lstF (pa_cons pe_non (pa_cons pe_int (pa_cons pe_str (pa_cons pe_dnewK (pa_cons pe_bl pa_nil)))))) (pe_call cDraw.ok (hr.mono (by decide)) rfl cDraw.mgf cDraw.kp cDraw.bi .nil pass0 (pa_cons (pv 1) (pa_cons pe_int pa_nil))) (fun _ _ => rfl)))
      (pss_cons (ps_if (pt_cmpR (op_neD hr.units) (LamX.pe_lamcall (k := 9) (T := Tb) (TT := TTt C) (t := fun E => (tCall (spTurnsTxt K C) [] E (tCons (tVar 3) tNil))) (by rfl) HD.mgf HD.kp HD.lk HD.cd HD.bi scTold rfl (by first | exact .inl rfl | exact .inr rfl | rfl) (told_gives XE B cClass (hr.mono (by decide))) TB rfl hTb huT (hr.mono (by decide)) (LamX.lamS_by (sc := defScope sLaw) (by decide +kernel)) rfl (fun _ _ _ _ _ => rfl) (fun A' outer' s' H' E' f' c' hr' => (pe_call cTT.ok (hr'.mono (by decide)) rfl cTT.mgf cTT.kp cTT.bi .nil (passes_call (takes_of rfl rfl rfl rfl) (fun _ _ _ _ h => h)) (pa_cons (pv 3) pa_nil)))) (pe_tupF (pa_cons pe_str (pa_cons pe_non pa_nil))) (nomark _)) (pss_one (ps_ret pe_bl)) pss_nil)
      (pss_cons (ps_setLc (i := 4) (own := [("n", 5)]) (tt := tYes) rfl scLaw.nd rfl rfl (sw_true rfl rfl rfl (by decide +kernel)) (pi_range1 (by rfl) B.range (pa_cons pe_int pa_nil)) (blkOk_by (own := [("n", 5)]) (N := ["script", "m", "many", "odd", "pairs", "n"]) (sc := defScope sLaw) (by decide +kernel)) (fun _ _ _ _ _ => (pg_name (i := 5) scLaw.nd rfl (by first | exact Or.inl rfl | exact Or.inr rfl))) (fun _ _ _ _ _ => pts_nil) (fun _ _ _ _ _ => (pe_tupF (pa_cons (pe_op op_mod (pe_callTy intF (by rfl) B.int (by decide +kernel) (pa_cons (pv 5) pa_nil)) pe_int) (pa_cons (pe_op op_add pe_int (pv 5)) pa_nil)))))
      (pss_cons (ps_if (pt_cmpR (op_neD hr.units) (pe_call (E := fun _ _ _ => False) cRdT.ok (hr.mono (by decide)) rfl cRdT.mgf cRdT.kp cRdT.bi .nil (passes_call LamX.takes0 (fun _ _ _ _ h => h)) (pa_cons (pe_call (E := fun _ _ _ => False) cTT.ok (hr.mono (by decide)) rfl cTT.mgf cTT.kp cTT.bi .nil (passes_call LamX.takes0 (fun _ _ _ _ h => h)) (pa_cons (pv 4) pa_nil)) pa_nil)) (pe_callTy tupF (by rfl) B.tuple (by decide +kernel) (pa_cons (pv 4) pa_nil)) (nomark _)) (pss_one (ps_ret pe_bl)) pss_nil)
      (pss_cons (ps_if (PW.pt (pw_or (pt_cmpR op_ne (pe_call cRowTxt.ok (hr.mono (by decide)) rfl cRowTxt.mgf cRowTxt.kp cRowTxt.bi .nil pass0 (pa_cons (pe_make (E := fun _ _ _ => False) RM RI (hr.mono (by decide)) (by rfl) R.mgR rb .nil (passes_call LamX.takes0 (fun _ _ _ _ h => h)) (pa_cons (pe_lstF pa_nil) pa_nil)) pa_nil)) pe_str (nomark _)) (pw_or (pt_cmpR (op_neO FEq REq.at_ REq.fn hne R.hm (hr.mono (by decide)) REq.bi pass0) (pe_call (E := fun _ _ _ => False) cRdRow.ok (hr.mono (by decide)) rfl cRdRow.mgf cRdRow.kp cRdRow.bi .nil (passes_call LamX.takes0 (fun _ _ _ _ h => h)) (pa_cons pe_str pa_nil)) (pe_make (E := fun _ _ _ => False) RM RI (hr.mono (by decide)) (by rfl) R.mgR rb .nil (passes_call LamX.takes0 (fun _ _ _ _ h => h)) (pa_cons (pe_tupF pa_nil) pa_nil)) (nomark _)) (pw_or (pt_cmpR op_ne (pe_call (E := fun _ _ _ => False) cTT.ok (hr.mono (by decide)) rfl cTT.mgf cTT.kp cTT.bi .nil (passes_call LamX.takes0 (fun _ _ _ _ h => h)) (pa_cons (pe_lstF pa_nil) pa_nil)) pe_str (nomark _)) (pw_or1 (pt_cmpR (op_neD hr.units) (pe_call (E := fun _ _ _ => False) cRdT.ok (hr.mono (by decide)) rfl cRdT.mgf cRdT.kp cRdT.bi .nil (passes_call LamX.takes0 (fun _ _ _ _ h => h)) (pa_cons pe_str pa_nil)) (pe_tupF pa_nil) (nomark _))))))) (pss_one (ps_ret pe_bl)) pss_nil)
      (pss_one (ps_ret (pe_and (pe_cmpR op_eq (pe_call cRowTxt.ok (hr.mono (by decide)) rfl cRowTxt.mgf cRowTxt.kp cRowTxt.bi .nil pass0 (pa_cons (pe_make (E := fun _ _ _ => False) RM RI (hr.mono (by decide)) (by rfl) R.mgR rb .nil (passes_call LamX.takes0 (fun _ _ _ _ h => h)) (pa_cons (pe_tupF (pa_cons pe_int (pa_cons (pe_op op_sub pe_int pe_int) (pa_cons pe_int pa_nil)))) pa_nil)) pa_nil)) pe_str (nomark _)) (pe_one (pe_cmpR op_eq (pe_call (E := fun _ _ _ => False) cTT.ok (hr.mono (by decide)) rfl cTT.mgf cTT.kp cTT.bi .nil (passes_call LamX.takes0 (fun _ _ _ _ h => h)) (pa_cons (pe_tupF (pa_cons (pe_tupF (pa_cons pe_int (pa_cons pe_int pa_nil))) (pa_cons (pe_tupF (pa_cons pe_int (pa_cons pe_int pa_nil))) pa_nil))) pa_nil)) pe_str (nomark _))))))))))))), ?_⟩
    refine seq_nx (fun σ' H' => ∃ (m c' g' : Addr) (cs : List Int), σ' = [some (.ref a), some (.ref m), none, none, none, none] ∧ DS m c' g' cs Tb 0 H') (fun Z hZ => ?_) ?_
    · walk_at "s"
      refine ⟨a, ns, rfl, hS, hlen, fun m c' g' cs gs H1 v1 hcs => ?_⟩
      have nd1 := v1.nd
      simp only [drs, List.map_cons, List.map_nil, List.nodup_cons, List.mem_cons, not_or] at nd1
      exact hZ _ _ ⟨m, c', g', cs, rfl, 0, gs, Nat.le_refl _, v1.at_ (m, dm c' g' 0) (by simp [drs]), v1.at_ (g', .lst (gs.map V.int)) (by simp [drs]), v1.at_ (c', .lst (cs.map V.int)) (by simp [drs]), hT.ext v1.fr, fun z => nd1.1.1 z.symm, nd1.2.1.1, hcs⟩
    rintro σ1 H1 ⟨m, c', g', cs, rfl, hD1⟩
    refine seq_q (fun σ' H' => ∃ u2 : Option V, σ' = [some (.ref a), some (.ref m), u2, none, none, none] ∧ DS m c' g' cs Tb 700 H') (fun D' eD hZ => ?_) ?_
    · refine ⟨_, rfl, ?_⟩
      dsimp only [tCons, tC, tNil, List.append_nil, List.nil_append, List.cons_append]
      refine draw_ds (lim := 4) hD1 (by decide) (by decide) (by omega) fun r1 A1 r10 r11 d1 k1 => ?_
      refine ⟨_, rfl, ?_⟩
      dsimp only [tCons, tC, tNil, List.append_nil, List.nil_append, List.cons_append]
      refine draw_ds (lim := 6) d1 (by decide) (by decide) (by omega) fun r2 A2 r20 r21 d2 k2 => ?_
      refine ⟨5, r2, rfl, rfl, sz_le (by simp), view_tup (VW.start (H := A2)) fun T A3 v3 => ⟨T, rfl, ⟨_, SqT.of (v3.tu _ List.mem_cons_self)⟩, ?_⟩⟩
      have hT3 : A3 T = some (.tup [V.int r1, V.int (5 + r2), V.int 24]) := v3.tu _ List.mem_cons_self
      have d3 := d2.same v3.fr
      obtain ⟨q0, gs0, _, hm0, hg0, hc0, _⟩ := id d3
      have Tm : T ≠ m := fun z => by rw [z, hm0] at hT3; cases hT3
      have Tg : T ≠ g' := fun z => by rw [z, hg0] at hT3; cases hT3
      refine for_it (walk_tup (K := K) (a := T) (xs := [V.int r1, V.int (5 + r2), V.int 24])) (fun i σ H' => ∃ u2 : Option V, σ = [some (.ref a), some (.ref m), u2, none, none, none] ∧ H' T = some (.tup [V.int r1, V.int (5 + r2), V.int 24]) ∧ DS m c' g' cs Tb (2 + 200 * i) H')
        ⟨none, rfl, hT3, d3⟩ (fun i σ H' _ ⟨_, _, h, _⟩ => SqT.of h) ?_ (fun σ H' ⟨u2, e1, _, d⟩ => hZ _ _ ⟨u2, e1, d.le (by simp)⟩)
      rintro i x σ B1 B2 hi ⟨u2, rfl, hTB, dB⟩ ⟨rfl, hx⟩
      obtain ⟨n, hn, rfl⟩ : ∃ n : Nat, n ≤ 24 ∧ x = .int (n : Nat) := by
        have : i = 0 ∨ i = 1 ∨ i = 2 := by simp at hi; omega
        rcases this with rfl | rfl | rfl <;> cases hx
        · exact ⟨r1.toNat, by omega, by rw [show ((r1.toNat : Nat) : Int) = r1 by omega]⟩
        · exact ⟨(5 + r2).toNat, by omega, by rw [show (((5 + r2).toNat : Nat) : Int) = 5 + r2 by omega]⟩
        · exact ⟨24, by omega, rfl⟩
      walk_at "s"
      exact ⟨m, c', g', cs, _, n, rfl, hn, dB, by simp at hi; omega, fun H' d' kn' => .inr ⟨rfl, kn' _ _ hTB Tm Tg rfl, d'.le (by omega)⟩⟩
    rintro σ2 H2 ⟨u2, rfl, hD2⟩
    refine seq_q (fun σ' H' => ∃ (o : V), σ' = [some (.ref a), some (.ref m), u2, some o, none, none] ∧ (∀ H'', LamX.ExtN H' H'' → ∃ t, TyX K H'' o t ∧ PySem.W.kitAny K t [.type "list", .type "tuple"] = some false) ∧ DS m c' g' cs Tb 701 H') (fun D2 eD2 hZ2 => ?_) ?_
    · walk_at "s"
      intro d0 hd0
      have w1 := (VW.start (H := H2)).push (o := .dK []) hd0
      revert w1
      generalize upd H2 d0 (.dK []) = A1
      intro w1
      refine ⟨sz_le (by decide), view_new w1 fun l A2 v2 => ?_⟩
      obtain ⟨n0, gs0, _, hm0, hg0, hc0, _⟩ := id hD2
      have ln := v2.own _ List.mem_cons_self
      have lm : l ≠ m := fun z => by rw [z, hm0] at ln; cases ln
      have lg : l ≠ g' := fun z => by rw [z, hg0] at ln; cases ln
      have dm_ : d0 ≠ m := fun z => by rw [z, hm0] at hd0; cases hd0
      have dg_ : d0 ≠ g' := fun z => by rw [z, hg0] at hd0; cases hd0
      have d2 := hD2.same v2.fr
      refine draw_ds d2 (by decide) (by decide) (by omega) fun x A3 x0 x1 d3 k3 => ?_
      have gl := k3 _ _ v2.facts.1 lm lg rfl
      have gd := k3 _ _ (v2.at_ (d0, .dK []) (by simp)) dm_ dg_ rfl
      have no2 : ∀ {H'' : Hp} {v : V} {t : String} (ty : TyX K H'' v (.type t)) (n1 : PySem.W.kitOne K (.type t) (.type "list") = some false) (n2 : PySem.W.kitOne K (.type t) (.type "tuple") = some false), ∃ t, TyX K H'' v t ∧ PySem.W.kitAny K t [.type "list", .type "tuple"] = some false := fun {H''} {v} {t} ty n1 n2 =>
        ⟨_, ty, kitAny_cons (b := false) n1 (fun _ => kitAny_cons (b := false) n2 (fun _ => rfl) (fun z => nomatch z)) (fun z => nomatch z)⟩
      obtain ⟨v, hv, hov⟩ : ∃ v, atI [V.non, V.int 5, V.str (Str.ofString "0-1"), V.ref d0, V.bl true] x = some v ∧ (∀ H'' : Hp, LamX.ExtN A3 H'' → ∃ t, TyX K H'' v t ∧ PySem.W.kitAny K t [.type "list", .type "tuple"] = some false) := by
        have : x = 0 ∨ x = 1 ∨ x = 2 ∨ x = 3 ∨ x = 4 := by omega
        rcases this with rfl | rfl | rfl | rfl | rfl
        · exact ⟨_, rfl, fun _ _ => no2 (.base .non) (kit_ty (by decide +kernel)) (kit_ty (by decide +kernel))⟩
        · exact ⟨_, rfl, fun _ _ => no2 (.base (.int _)) (kit_ty (by decide +kernel)) (kit_ty (by decide +kernel))⟩
        · exact ⟨_, rfl, fun _ _ => no2 (.base (.str _)) (kit_ty (by decide +kernel)) (kit_ty (by decide +kernel))⟩
        · exact ⟨_, rfl, fun _ e => no2 (.base (.dK (e _ _ gd (noTbl_ne rfl)))) (kit_ty (by decide +kernel)) (kit_ty (by decide +kernel))⟩
        · exact ⟨_, rfl, fun _ _ => no2 (.base (.bl _)) (kit_ty (by decide +kernel)) (kit_ty (by decide +kernel))⟩
      exact ⟨x, rfl, _, gl, _, rfl, v, hv, hZ2 _ _ ⟨v, rfl, hov, d3⟩⟩
    rintro σ3 H3 ⟨o, rfl, ho, hD3⟩
    refine seq_q (fun σ' H' => σ' = [some (.ref a), some (.ref m), u2, some o, none, none]) (fun D2 eD2 hZ2 => ?_) ?_
    · walk_at "s"
      refine told_any hD3.tabs fun H4 Qx e4 T4 hx => ?_
      refine ⟨_, rfl, ⟨o, rfl, .inr ⟨fun H' s' => ho H' (e4.trans (LamX.ExtN.of s')), fun d H' s' hd => ?_⟩⟩⟩
      refine ⟨.turn, rfl, .inl ⟨rfl, d, _, rfl, hd, fun t1 H5 s5 ht1 => ?_⟩⟩
      refine ⟨sz_le (by simp), view_tup (VW.start (H := H5)) fun t2 H6 w6 => ?_⟩
      refine ⟨.tuple [.str "BadTurn", .none], .tuple [.str "BadTurn", .none], .tup (SqT.of (w6.fr _ _ ht1)) (.cons (.str _) (.cons .non .nil)), .tup (SqT.of (w6.tu _ List.mem_cons_self)) (.cons (.str _) (.cons .non .nil)), by decide +kernel, by decide +kernel, .inl ⟨?_, hZ2 _ _ rfl⟩⟩
      rw [SeqAt.eqv_refl _ (by decide +kernel)]
      rfl
    rintro σ4 H4 rfl
    refine seq_q (fun σ' H' => ∃ (l : Addr) (us : List V) (ps : List (Nat × Nat)), σ' = [some (.ref a), some (.ref m), u2, some o, some (.ref l), none] ∧ H' l = some (.lst us) ∧ PrL H' us ps ∧ ps.length = 60 ∧ ∀ q ∈ ps, q.1 ≤ q.2 ∧ q.2 < 100) (fun D2 eD2 hZ2 => ?_) ?_
    · refine ⟨60, rfl, by decide, by decide, fun D hD => ?_⟩
      refine lc_it (walk_range (lo := 0) (n := 60)) (fun i H' => ∃ (us : List V) (ps : List (Nat × Nat)), H' D = some (.lst us) ∧ PrL H' us ps ∧ ps.length = i ∧ ∀ q ∈ ps, q.1 ≤ q.2 ∧ q.2 < 100) ⟨[], [], upd_same, .nil, rfl, fun _ h => nomatch h⟩ (fun _ _ _ _ => True.intro) ?_ ?_
      · rintro i x A1 A2 hi ⟨us, ps, hl, hP, lp, hb⟩ ⟨rfl, rfl⟩
        simp only [Int.zero_add]
        refine ⟨rfl, yes_if ?_⟩
        refine ⟨_, rfl, _, rfl, _, _, rfl, rfl, by show (0 : Int) < 37; decide, ?_⟩
        refine ⟨_, rfl, 37, _, rfl, rfl, sz_le (by simp), view_tup (VW.start (H := A2)) fun t A3 v3 => ?_⟩
        have hl3 := v3.fr _ _ hl
        have ht : A3 t = some (.tup [.int ((i % 37 : Nat) : Int), .int ((37 + i : Nat) : Int)]) := by
          have := v3.tu _ List.mem_cons_self
          rw [show ((i % 37 : Nat) : Int) = (i : Int) % 37 by omega, show ((37 + i : Nat) : Int) = 37 + (i : Int) by omega]
          exact this
        have lu := hP.len
        refine ⟨us, hl3, sz_lt (by omega), us ++ [.ref t], ps ++ [(i % 37, 37 + i)], upd_same, ((hP.same v3.fr).snoc ht).put hl3, by rw [List.length_append, lp]; rfl, fun q hq => ?_⟩
        rcases List.mem_append.mp hq with h | h
        · exact hb q h
        · rw [List.mem_singleton] at h
          subst h
          exact ⟨by show i % 37 ≤ 37 + i; omega, by show 37 + i < 100; omega⟩
      · rintro A1 ⟨us, ps, hl, hP, lp, hb⟩
        exact hZ2 _ _ ⟨D, us, ps, rfl, hl, hP, lp, hb⟩
    rintro σ5 H5 ⟨l, us, ps, rfl, hl, hP, lp, hb⟩
    have lu := hP.len
    have pl := prsT_len (ps := ps) hb
    refine seq_q (fun σ' H' => σ' = [some (.ref a), some (.ref m), u2, some o, some (.ref l), none]) (fun D2 eD2 hZ2 => ?_) ?_
    · walk_at "s"
      refine ttxt_ok hl rfl hP (by omega) hb fun A1 e1 => rdt_ok (by omega) (rd_prsTxt hb) fun t xs A2 e2 ht hx => ?_
      refine ⟨_, e2 _ _ (e1 _ _ hl), _, rfl, view_tup (VW.start (H := A2)) fun t2 A3 v3 => ?_⟩
      have hPA := hP.same (Same.tx e1 (Same.tx e2 v3.fr))
      obtain ⟨h1, h2, h3, h4, h5⟩ := prD_all (ps := ps) fun q hq => by have := hb q hq; omega
      have lay : PyData.canLay0 (.tuple (prD ps)) = true := by simpa [PyData.canLay0] using h2
      have shp : SeqAt.shaped (.tuple (prD ps)) = true := by
        show (PyData.canLay0 _ && decide (PyData.depth _ ≤ 64)) = true
        rw [lay, Bool.true_and, decide_eq_true_eq]
        simp only [PyData.depth]
        omega
      refine ⟨.tuple (prD ps), .tuple (prD ps), .tup (SqT.of (v3.fr _ _ ht)) (hx.same v3.fr).dp, .tup (SqT.of (v3.tu _ List.mem_cons_self)) hPA.dp, shp, shp, .inl ⟨?_, hZ2 _ _ rfl⟩⟩
      rw [SeqAt.eqv_refl _ lay]
      rfl
    rintro σ6 H6 rfl
    have r0 : IsRow [] 0 := by unfold IsRow; decide
    refine seq_q (fun σ' H' => σ' = [some (.ref a), some (.ref m), u2, some o, some (.ref l), none]) (fun D2 eD2 hZ2 => ?_) ?_
    · walk_at "s"
      refine view_new (VW.start (H := H6)) fun b1 A1 v1 => ?_
      refine make_at (ws := []) v1.facts.1 rfl r0 (by omega) fun r1 A2 e2 hr1 => ?_
      refine ⟨r1, [], rfl, hr1, (fun _ h => nomatch h), by simp, fun A3 e3 => ⟨by rfl, .inl ⟨by rfl, ?_⟩⟩⟩
      refine rdrow_ok (ws := []) (by decide) rfl r0 (by omega) fun r2 A4 e4 hr2 => ?_
      refine view_tup (VW.start (H := A4)) fun b2 A5 v5 => ?_
      refine make_at (ws := []) (v5.tu _ List.mem_cons_self) rfl r0 (by omega) fun r3 A6 e6 hr3 => ?_
      have hr2' := (hr2.same v5.fr).same e6
      obtain ⟨dx2, tp2, i1, i2⟩ := id hr2'
      obtain ⟨dx3, tp3, i3, i4⟩ := id hr3
      refine ⟨r2, r3, dx2, dx3, _, _, rfl, rfl, i1, i3, ⟨r2, r3, [], [], rfl, hr2', hr3, ⟨true, by rfl, .inl ⟨rfl, ?_⟩⟩⟩⟩
      refine view_new (VW.start (H := A6)) fun b3 A7 v7 => ?_
      refine ttxt_ok (ps := []) v7.facts.1 rfl .nil (by simp) (fun _ h => nomatch h) fun A8 e8 => ⟨by rfl, .inl ⟨by rfl, ?_⟩⟩
      refine rdt_ok (ps := []) (by decide) rfl fun t xs A9 e9 ht hx => ?_
      refine view_tup (VW.start (H := A9)) fun b4 A10 v10 => ?_
      have ex : xs = [] := by
        have := hx.len
        cases xs <;> first | rfl | simp at this
      subst ex
      refine ⟨.tuple [], .tuple [], .tup (SqT.of (v10.fr _ _ ht)) .nil, .tup (SqT.of (v10.tu _ List.mem_cons_self)) .nil, by decide +kernel, by decide +kernel, .inl ⟨by rfl, hZ2 _ _ rfl⟩⟩
    rintro σ7 H7 rfl
    have r3 : IsRow [1, -3, 2] 3 := by unfold IsRow; decide
    walk_at "s"
    refine ⟨sz_le (by decide), view_tup (VW.start (H := H7)) fun b1 A1 v1 => ?_⟩
    refine make_at (ws := [1, -3, 2]) (v1.tu _ List.mem_cons_self) rfl r3 (by omega) fun r1 A2 e2 hr1 => ?_
    refine ⟨r1, [1, -3, 2], rfl, hr1, by decide, by decide, fun A3 e3 => ⟨by rfl, ?_⟩⟩
    rw [if_pos (by rw [show rowTxt [1, -3, 2] = Str.ofString "+1 -3 +2" by decide +kernel])]
    refine ⟨sz_le (by decide), view_tup (VW.start (H := A3)) fun b2 A4 v4 => ⟨sz_le (by decide), view_tup v4 fun b3 A5 v5 => ⟨sz_le (by decide), view_tup v5 fun b4 A6 v6 => ?_⟩⟩⟩
    refine ttxt_ok (ps := [(0, 2), (1, 1)]) (v6.tu _ List.mem_cons_self) rfl (.cons ⟨b2, rfl, v6.tu _ (.tail _ (.tail _ (.head _)))⟩ (.cons ⟨b3, rfl, v6.tu _ (.tail _ (.head _))⟩ .nil)) (by decide) (by decide) fun A7 e7 => ⟨by rfl, ?_⟩
    rw [show prsTxt [(0, 2), (1, 1)] = Str.ofString "0-2, 1-1" by decide +kernel]
    simpa using k A7
end

end Fab
set_option maxHeartbeats 2000000
namespace Fab
open PySem L2 PySem.FabX
def kdC (c1 c2 c3 c4 c5 c6 c7 c8 c9 : Addr) : Kd → Addr
  | .row => c1 | .turn => c2 | .place => c3 | .number => c4 | .other => c5 | .great => c6 | .text => c7 | .way => c8 | .nothing => c9
theorem all_mk {l : PySem.W.OpenLaw} {w : World} {K : PySem.W.Frag} {h : Heap} {mg : Str → Option Value} {fa : Addr} (X : K.In h) (G : h.Ns mainGlobals mg) (hfa : mg "law" = some (.ref fa))
    {CR : Addr} {tM : Tok} {CF c1 c2 c3 c4 c5 c6 c7 c8 c9 : Addr} {nmX1I qX1I : Str} {NX1I : Addr} {bsX1I bmX1I subX1I : List Value} {snX1I : List Str} {abX1I : Bool} {colX1I : Option Bool} {ddX1I : Option Addr} {m0X1I m1X1I m2X1I m3X1I m5X1I : Option Value} {fX1I : Addr} {odX1I anX1I : Option Addr} {slX1I : Array (Option Value)} {ocX1I kVX1I dcX1I pmX1I cdX1I ctX1I : Value} {nmX2I qX2I : Str} {NX2I : Addr} {bsX2I bmX2I subX2I : List Value} {snX2I : List Str} {abX2I : Bool} {colX2I : Option Bool} {ddX2I : Option Addr} {m0X2I m1X2I m2X2I m3X2I m5X2I : Option Value} {fX2I : Addr} {odX2I anX2I : Option Addr} {slX2I : Array (Option Value)} {ocX2I kVX2I dcX2I pmX2I cdX2I ctX2I : Value} {nmX3I qX3I : Str} {NX3I : Addr} {bsX3I bmX3I subX3I : List Value} {snX3I : List Str} {abX3I : Bool} {colX3I : Option Bool} {ddX3I : Option Addr} {m0X3I m1X3I m2X3I m3X3I m5X3I : Option Value} {fX3I : Addr} {odX3I anX3I : Option Addr} {slX3I : Array (Option Value)} {ocX3I kVX3I dcX3I pmX3I cdX3I ctX3I : Value} {nmX4I qX4I : Str} {NX4I : Addr} {bsX4I bmX4I subX4I : List Value} {snX4I : List Str} {abX4I : Bool} {colX4I : Option Bool} {ddX4I : Option Addr} {m0X4I m1X4I m2X4I m3X4I m5X4I : Option Value} {fX4I : Addr} {odX4I anX4I : Option Addr} {slX4I : Array (Option Value)} {ocX4I kVX4I dcX4I pmX4I cdX4I ctX4I : Value} {nmX6I qX6I : Str} {NX6I : Addr} {bsX6I bmX6I subX6I : List Value} {snX6I : List Str} {abX6I : Bool} {colX6I : Option Bool} {ddX6I : Option Addr} {m0X6I m1X6I m2X6I m3X6I m5X6I : Option Value} {fX6I : Addr} {odX6I anX6I : Option Addr} {slX6I : Array (Option Value)} {ocX6I kVX6I dcX6I pmX6I cdX6I ctX6I : Value} {nmX7I qX7I : Str} {NX7I : Addr} {bsX7I bmX7I subX7I : List Value} {snX7I : List Str} {abX7I : Bool} {colX7I : Option Bool} {ddX7I : Option Addr} {m0X7I m1X7I m2X7I m3X7I m5X7I : Option Value} {fX7I : Addr} {odX7I anX7I : Option Addr} {slX7I : Array (Option Value)} {ocX7I kVX7I dcX7I pmX7I cdX7I ctX7I : Value} {nmX8I qX8I : Str} {NX8I : Addr} {bsX8I bmX8I subX8I : List Value} {snX8I : List Str} {abX8I : Bool} {colX8I : Option Bool} {ddX8I : Option Addr} {m0X8I m1X8I m2X8I m3X8I m5X8I : Option Value} {fX8I : Addr} {odX8I anX8I : Option Addr} {slX8I : Array (Option Value)} {ocX8I kVX8I dcX8I pmX8I cdX8I ctX8I : Value} {tF : Tok} {tW : Tok} {fMixed : Addr} {odMixed anMixed : Option Addr} {slMixed : Array (Option Value)} {ocMixed kVMixed dcMixed pmMixed ctMixed cdMixed : Value} {fFolded : Addr} {odFolded anFolded : Option Addr} {slFolded : Array (Option Value)} {ocFolded kVFolded dcFolded pmFolded ctFolded cdFolded : Value} {fDraw : Addr} {odDraw anDraw : Option Addr} {slDraw : Array (Option Value)} {ocDraw kVDraw dcDraw pmDraw ctDraw cdDraw : Value} {fBegun : Addr} {odBegun anBegun : Option Addr} {slBegun : Array (Option Value)} {ocBegun kVBegun dcBegun pmBegun ctBegun cdBegun : Value} {fLTurn : Addr} {odLTurn anLTurn : Option Addr} {slLTurn : Array (Option Value)} {ocLTurn kVLTurn dcLTurn pmLTurn ctLTurn cdLTurn : Value} {fRow : Addr} {odRow anRow : Option Addr} {slRow : Array (Option Value)} {ocRow kVRow dcRow pmRow ctRow cdRow : Value} {fIsR : Addr} {odIsR anIsR : Option Addr} {slIsR : Array (Option Value)} {ocIsR kVIsR dcIsR pmIsR ctIsR cdIsR : Value} {fClass : Addr} {odClass anClass : Option Addr} {slClass : Array (Option Value)} {ocClass kVClass dcClass pmClass ctClass cdClass : Value} {fTold : Addr} {odTold anTold : Option Addr} {slTold : Array (Option Value)} {ocTold kVTold dcTold pmTold ctTold cdTold : Value} {fPairs : Addr} {odPairs anPairs : Option Addr} {slPairs : Array (Option Value)} {ocPairs kVPairs dcPairs pmPairs ctPairs cdPairs : Value} {fRight cRight : Addr} {odRight anRight : Option Addr} {slRight : Array (Option Value)} {ocRight kVRight dcRight pmRight ctRight : Value} {fLaw cLaw : Addr} {odLaw anLaw : Option Addr} {slLaw : Array (Option Value)} {ocLaw kVLaw dcLaw pmLaw ctLaw : Value} {fWhole : Addr} {odWhole anWhole : Option Addr} {slWhole : Array (Option Value)} {ocWhole kVWhole dcWhole pmWhole ctWhole cdWhole : Value} {fFault : Addr} {odFault anFault : Option Addr} {slFault : Array (Option Value)} {ocFault kVFault dcFault pmFault ctFault cdFault : Value} {fPair : Addr} {odPair anPair : Option Addr} {slPair : Array (Option Value)} {ocPair kVPair dcPair pmPair ctPair cdPair : Value} {fStretch : Addr} {odStretch anStretch : Option Addr} {slStretch : Array (Option Value)} {ocStretch kVStretch dcStretch pmStretch ctStretch cdStretch : Value} {fRowTxt : Addr} {odRowTxt anRowTxt : Option Addr} {slRowTxt : Array (Option Value)} {ocRowTxt kVRowTxt dcRowTxt pmRowTxt ctRowTxt cdRowTxt : Value} {fTT : Addr} {odTT anTT : Option Addr} {slTT : Array (Option Value)} {ocTT kVTT dcTT pmTT ctTT cdTT : Value} {fIsFig : Addr} {odIsFig anIsFig : Option Addr} {slIsFig : Array (Option Value)} {ocIsFig kVIsFig dcIsFig pmIsFig ctIsFig cdIsFig : Value} {fBSign : Addr} {odBSign anBSign : Option Addr} {slBSign : Array (Option Value)} {ocBSign kVBSign dcBSign pmBSign ctBSign cdBSign : Value} {fBNum : Addr} {odBNum anBNum : Option Addr} {slBNum : Array (Option Value)} {ocBNum kVBNum dcBNum pmBNum ctBNum cdBNum : Value} {fBPl : Addr} {odBPl anBPl : Option Addr} {slBPl : Array (Option Value)} {ocBPl kVBPl dcBPl pmBPl ctBPl cdBPl : Value} {fTFrom : Addr} {odTFrom anTFrom : Option Addr} {slTFrom : Array (Option Value)} {ocTFrom kVTFrom dcTFrom pmTFrom ctTFrom cdTFrom : Value} {fRdRow : Addr} {odRdRow anRdRow : Option Addr} {slRdRow : Array (Option Value)} {ocRdRow kVRdRow dcRdRow pmRdRow ctRdRow cdRdRow : Value} {fRdTurns : Addr} {odRdTurns anRdTurns : Option Addr} {slRdTurns : Array (Option Value)} {ocRdTurns kVRdTurns dcRdTurns pmRdTurns ctRdTurns cdRdTurns : Value} {fRI : Addr} {odRI anRI : Option Addr} {slRI : Array (Option Value)} {ocRI kVRI dcRI pmRI cdRI ctRI : Value} {fREq : Addr} {odREq anREq : Option Addr} {slREq : Array (Option Value)} {ocREq kVREq dcREq pmREq cdREq ctREq : Value} {pLaw : Addr} {pRight : Addr}
    (aCR : PySem.W.nsIn K mainGlobals "Row" = some (some (.ref CR)))
    (rpg : PySem.W.plainGet K CR Str.empty = true)
    (rhd : PySem.W.hasDictIn K CR = true)
    (rpo : PySem.W.plainOver K CR = true)
    (rsa : PySem.W.findIn K (.ref CR) "__setattr__" = some (some (.builtin "object.__setattr__")))
    (rmk : PySem.W.makesIn K CR = true)
    (rkc : PySem.W.keepIn K (.ref CR) = true)
    (rnw : PySem.W.findIn K (.ref CR) "waggons" = some none)
    (rhc : PySem.W.findIn K (.ref CR) "__class__" = some (some (.builtin "object.__class__")))
    (rhm : PySem.W.mroIn K CR (.type "object") = some true)
    (rks : PySem.W.kitOne K (.ref CR) (.ref CR) = some true)
    (ohn : PySem.W.specialIn K (.builtin "object.__class__") "__get__" = some (some (.builtin "getset_descriptor.__get__")))
    (oht : PySem.W.takesIn K (.builtin "object.__class__") = some true)
    (aMost : PySem.W.nsIn K mainGlobals "MOST_WAGGONS" = some (some (.int 24 tM)))
    (aCF : PySem.W.nsIn K mainGlobals "FaceError" = some (some (.ref CF)))
    (aX1 : PySem.W.nsIn K mainGlobals "BadRow" = some (some (.ref c1)))
    (aX2 : PySem.W.nsIn K mainGlobals "BadTurn" = some (some (.ref c2)))
    (aX3 : PySem.W.nsIn K mainGlobals "BadPlace" = some (some (.ref c3)))
    (aX4 : PySem.W.nsIn K mainGlobals "BadNumber" = some (some (.ref c4)))
    (aX5 : PySem.W.nsIn K mainGlobals "OtherLength" = some (some (.ref c5)))
    (aX6 : PySem.W.nsIn K mainGlobals "TooGreat" = some (some (.ref c6)))
    (aX7 : PySem.W.nsIn K mainGlobals "BadText" = some (some (.ref c7)))
    (aX8 : PySem.W.nsIn K mainGlobals "BadWay" = some (some (.ref c8)))
    (aX9 : PySem.W.nsIn K mainGlobals "NothingLeft" = some (some (.ref c9)))
    (fgi : PySem.W.specialIn K (.ref CF) "__getattribute__" = some (some (.builtin "type.__getattribute__")))
    (frd : PySem.W.readsIn K CF (.type "type") = true)
    (ffi : PySem.W.findCls K (.ref CF) (.type "type") "__init__" = some (.val (.builtin "ValueError.__init__")))
    (ofi : PySem.W.findCls K (.type "OverflowError") (.type "type") "__init__" = some (.val (.builtin "OverflowError.__init__")))
    (xno : ∀ k : Kd, PySem.W.findIn K (.ref (kdC c1 c2 c3 c4 c5 c6 c7 c8 c9 k)) k.fld = some none)
    (xexc : ∀ k, ExcC K (kdC c1 c2 c3 c4 c5 c6 c7 c8 c9 k))
    (xkit : ∀ k j, PySem.W.kitOne K (.ref (kdC c1 c2 c3 c4 c5 c6 c7 c8 c9 k)) (.ref (kdC c1 c2 c3 c4 c5 c6 c7 c8 c9 j)) = some (decide (k = j)))
    (xkve : ∀ k, PySem.W.kitOne K (.ref (kdC c1 c2 c3 c4 c5 c6 c7 c8 c9 k)) (.type "ValueError") = some (!decide (k = .great)))
    (xxf : ∀ k, XfC K (kdC c1 c2 c3 c4 c5 c6 c7 c8 c9 k))
    (xany : ∀ k, PySem.W.exmAny K (.ref (kdC c1 c2 c3 c4 c5 c6 c7 c8 c9 k)) [.ref CF, .ref c6] = some true)
    (xlX1I : K.lookup c1 = some (excClassObj nmX1I qX1I c1 NX1I bsX1I bmX1I true snX1I subX1I abX1I colX1I ddX1I m0X1I m1X1I m2X1I m3X1I m5X1I "ValueError.__new__"))
    (xtX1I : PySem.W.excTail bmV bmX1I = true)
    (xsX1I : PySem.W.findIn K (.ref c1) "__setattr__" = some (some (.builtin "object.__setattr__")))
    (xbX1I : PySem.W.subIn K (.ref c1) (.type "BaseException") = some true)
    (xyX1I : PySem.W.typeIn K (.ref c1) = some (.type "type"))
    (xkX1I : PySem.W.keepIn K (.ref c1) = true)
    (aX1I : PySem.W.findIn K (.ref c1) "__init__" = some (some (.ref fX1I)))
    (iX1I : PySem.W.isFn K (.ref fX1I) = true)
    (lX1I : K.lookup fX1I = some ⟨ocX1I, odX1I, .func (PySem.W.fnOf "__init__" "BadRow.__init__" (defArgs sXRow) (defBody sXRow) (defScope sXRow) .none kVX1I dcX1I pmX1I anX1I cdX1I ctX1I), slX1I⟩)
    (cX1I : PySem.W.codeIn K cdX1I "BadRow.__init__" = true)
    (kX1I : PySem.W.keepIn K (.ref fX1I) = true)
    (xfX1I : PySem.W.typeIn K (.ref fX1I) = some (.type "function"))
    (xlX2I : K.lookup c2 = some (excClassObj nmX2I qX2I c2 NX2I bsX2I bmX2I true snX2I subX2I abX2I colX2I ddX2I m0X2I m1X2I m2X2I m3X2I m5X2I "ValueError.__new__"))
    (xtX2I : PySem.W.excTail bmV bmX2I = true)
    (xsX2I : PySem.W.findIn K (.ref c2) "__setattr__" = some (some (.builtin "object.__setattr__")))
    (xbX2I : PySem.W.subIn K (.ref c2) (.type "BaseException") = some true)
    (xyX2I : PySem.W.typeIn K (.ref c2) = some (.type "type"))
    (xkX2I : PySem.W.keepIn K (.ref c2) = true)
    (aX2I : PySem.W.findIn K (.ref c2) "__init__" = some (some (.ref fX2I)))
    (iX2I : PySem.W.isFn K (.ref fX2I) = true)
    (lX2I : K.lookup fX2I = some ⟨ocX2I, odX2I, .func (PySem.W.fnOf "__init__" "BadTurn.__init__" (defArgs sXTurn) (defBody sXTurn) (defScope sXTurn) .none kVX2I dcX2I pmX2I anX2I cdX2I ctX2I), slX2I⟩)
    (cX2I : PySem.W.codeIn K cdX2I "BadTurn.__init__" = true)
    (kX2I : PySem.W.keepIn K (.ref fX2I) = true)
    (xfX2I : PySem.W.typeIn K (.ref fX2I) = some (.type "function"))
    (xlX3I : K.lookup c3 = some (excClassObj nmX3I qX3I c3 NX3I bsX3I bmX3I true snX3I subX3I abX3I colX3I ddX3I m0X3I m1X3I m2X3I m3X3I m5X3I "ValueError.__new__"))
    (xtX3I : PySem.W.excTail bmV bmX3I = true)
    (xsX3I : PySem.W.findIn K (.ref c3) "__setattr__" = some (some (.builtin "object.__setattr__")))
    (xbX3I : PySem.W.subIn K (.ref c3) (.type "BaseException") = some true)
    (xyX3I : PySem.W.typeIn K (.ref c3) = some (.type "type"))
    (xkX3I : PySem.W.keepIn K (.ref c3) = true)
    (aX3I : PySem.W.findIn K (.ref c3) "__init__" = some (some (.ref fX3I)))
    (iX3I : PySem.W.isFn K (.ref fX3I) = true)
    (lX3I : K.lookup fX3I = some ⟨ocX3I, odX3I, .func (PySem.W.fnOf "__init__" "BadPlace.__init__" (defArgs sXPlace) (defBody sXPlace) (defScope sXPlace) .none kVX3I dcX3I pmX3I anX3I cdX3I ctX3I), slX3I⟩)
    (cX3I : PySem.W.codeIn K cdX3I "BadPlace.__init__" = true)
    (kX3I : PySem.W.keepIn K (.ref fX3I) = true)
    (xfX3I : PySem.W.typeIn K (.ref fX3I) = some (.type "function"))
    (xlX4I : K.lookup c4 = some (excClassObj nmX4I qX4I c4 NX4I bsX4I bmX4I true snX4I subX4I abX4I colX4I ddX4I m0X4I m1X4I m2X4I m3X4I m5X4I "ValueError.__new__"))
    (xtX4I : PySem.W.excTail bmV bmX4I = true)
    (xsX4I : PySem.W.findIn K (.ref c4) "__setattr__" = some (some (.builtin "object.__setattr__")))
    (xbX4I : PySem.W.subIn K (.ref c4) (.type "BaseException") = some true)
    (xyX4I : PySem.W.typeIn K (.ref c4) = some (.type "type"))
    (xkX4I : PySem.W.keepIn K (.ref c4) = true)
    (aX4I : PySem.W.findIn K (.ref c4) "__init__" = some (some (.ref fX4I)))
    (iX4I : PySem.W.isFn K (.ref fX4I) = true)
    (lX4I : K.lookup fX4I = some ⟨ocX4I, odX4I, .func (PySem.W.fnOf "__init__" "BadNumber.__init__" (defArgs sXNumber) (defBody sXNumber) (defScope sXNumber) .none kVX4I dcX4I pmX4I anX4I cdX4I ctX4I), slX4I⟩)
    (cX4I : PySem.W.codeIn K cdX4I "BadNumber.__init__" = true)
    (kX4I : PySem.W.keepIn K (.ref fX4I) = true)
    (xfX4I : PySem.W.typeIn K (.ref fX4I) = some (.type "function"))
    (xlX6I : K.lookup c6 = some (excClassObj nmX6I qX6I c6 NX6I bsX6I bmX6I true snX6I subX6I abX6I colX6I ddX6I m0X6I m1X6I m2X6I m3X6I m5X6I "OverflowError.__new__"))
    (xtX6I : PySem.W.excTail bmO bmX6I = true)
    (xsX6I : PySem.W.findIn K (.ref c6) "__setattr__" = some (some (.builtin "object.__setattr__")))
    (xbX6I : PySem.W.subIn K (.ref c6) (.type "BaseException") = some true)
    (xyX6I : PySem.W.typeIn K (.ref c6) = some (.type "type"))
    (xkX6I : PySem.W.keepIn K (.ref c6) = true)
    (aX6I : PySem.W.findIn K (.ref c6) "__init__" = some (some (.ref fX6I)))
    (iX6I : PySem.W.isFn K (.ref fX6I) = true)
    (lX6I : K.lookup fX6I = some ⟨ocX6I, odX6I, .func (PySem.W.fnOf "__init__" "TooGreat.__init__" (defArgs sXGreat) (defBody sXGreat) (defScope sXGreat) .none kVX6I dcX6I pmX6I anX6I cdX6I ctX6I), slX6I⟩)
    (cX6I : PySem.W.codeIn K cdX6I "TooGreat.__init__" = true)
    (kX6I : PySem.W.keepIn K (.ref fX6I) = true)
    (xfX6I : PySem.W.typeIn K (.ref fX6I) = some (.type "function"))
    (xlX7I : K.lookup c7 = some (excClassObj nmX7I qX7I c7 NX7I bsX7I bmX7I true snX7I subX7I abX7I colX7I ddX7I m0X7I m1X7I m2X7I m3X7I m5X7I "ValueError.__new__"))
    (xtX7I : PySem.W.excTail bmV bmX7I = true)
    (xsX7I : PySem.W.findIn K (.ref c7) "__setattr__" = some (some (.builtin "object.__setattr__")))
    (xbX7I : PySem.W.subIn K (.ref c7) (.type "BaseException") = some true)
    (xyX7I : PySem.W.typeIn K (.ref c7) = some (.type "type"))
    (xkX7I : PySem.W.keepIn K (.ref c7) = true)
    (aX7I : PySem.W.findIn K (.ref c7) "__init__" = some (some (.ref fX7I)))
    (iX7I : PySem.W.isFn K (.ref fX7I) = true)
    (lX7I : K.lookup fX7I = some ⟨ocX7I, odX7I, .func (PySem.W.fnOf "__init__" "BadText.__init__" (defArgs sXText) (defBody sXText) (defScope sXText) .none kVX7I dcX7I pmX7I anX7I cdX7I ctX7I), slX7I⟩)
    (cX7I : PySem.W.codeIn K cdX7I "BadText.__init__" = true)
    (kX7I : PySem.W.keepIn K (.ref fX7I) = true)
    (xfX7I : PySem.W.typeIn K (.ref fX7I) = some (.type "function"))
    (xlX8I : K.lookup c8 = some (excClassObj nmX8I qX8I c8 NX8I bsX8I bmX8I true snX8I subX8I abX8I colX8I ddX8I m0X8I m1X8I m2X8I m3X8I m5X8I "ValueError.__new__"))
    (xtX8I : PySem.W.excTail bmV bmX8I = true)
    (xsX8I : PySem.W.findIn K (.ref c8) "__setattr__" = some (some (.builtin "object.__setattr__")))
    (xbX8I : PySem.W.subIn K (.ref c8) (.type "BaseException") = some true)
    (xyX8I : PySem.W.typeIn K (.ref c8) = some (.type "type"))
    (xkX8I : PySem.W.keepIn K (.ref c8) = true)
    (aX8I : PySem.W.findIn K (.ref c8) "__init__" = some (some (.ref fX8I)))
    (iX8I : PySem.W.isFn K (.ref fX8I) = true)
    (lX8I : K.lookup fX8I = some ⟨ocX8I, odX8I, .func (PySem.W.fnOf "__init__" "BadWay.__init__" (defArgs sXWay) (defBody sXWay) (defScope sXWay) .none kVX8I dcX8I pmX8I anX8I cdX8I ctX8I), slX8I⟩)
    (cX8I : PySem.W.codeIn K cdX8I "BadWay.__init__" = true)
    (kX8I : PySem.W.keepIn K (.ref fX8I) = true)
    (xfX8I : PySem.W.typeIn K (.ref fX8I) = some (.type "function"))
    (z_int : PySem.W.nsIn K mainGlobals "int" = some none)
    (z_len : PySem.W.nsIn K mainGlobals "len" = some none)
    (z_range : PySem.W.nsIn K mainGlobals "range" = some none)
    (z_enumerate : PySem.W.nsIn K mainGlobals "enumerate" = some none)
    (z_list : PySem.W.nsIn K mainGlobals "list" = some none)
    (z_tuple : PySem.W.nsIn K mainGlobals "tuple" = some none)
    (z_isinstance : PySem.W.nsIn K mainGlobals "isinstance" = some none)
    (z_ValueError : PySem.W.nsIn K mainGlobals "ValueError" = some none)
    (z_zip : PySem.W.nsIn K mainGlobals "zip" = some none)
    (z_abs : PySem.W.nsIn K mainGlobals "abs" = some none)
    (z_repr : PySem.W.nsIn K mainGlobals "repr" = some none)
    (z_set : PySem.W.nsIn K mainGlobals "set" = some none)
    (z_max : PySem.W.nsIn K mainGlobals "max" = some none)
    (z_bool : PySem.W.nsIn K mainGlobals "bool" = some none)
    (z_OverflowError : PySem.W.nsIn K mainGlobals "OverflowError" = some none)
    (z_all : PySem.W.nsIn K mainGlobals "all" = some none)
    (z_str : PySem.W.nsIn K mainGlobals "str" = some none)
    (z_sorted : PySem.W.nsIn K mainGlobals "sorted" = some none)
    (z_sum : PySem.W.nsIn K mainGlobals "sum" = some none)
    (z_min : PySem.W.nsIn K mainGlobals "min" = some none)
    (aFig : PySem.W.nsIn K mainGlobals "FIGURES" = some (some (.str "0123456789" tF)))
    (aMW : PySem.W.nsIn K mainGlobals "MOST_WRITTEN" = some (some (.int 99 tW)))
    (rne : PySem.W.findIn K (.ref CR) "__ne__" = some (some (.builtin "object.__ne__")))
    (aMixed : PySem.W.nsIn K mainGlobals "_law_mixed" = some (some (.ref fMixed)))
    (lMixed : K.lookup fMixed = some ⟨ocMixed, odMixed, .func (PySem.W.fnOf "_law_mixed" "_law_mixed" (defArgs sMixed) (defBody sMixed) (defScope sMixed) .none kVMixed dcMixed pmMixed anMixed cdMixed ctMixed), slMixed⟩)
    (cMixed : PySem.W.codeIn K cdMixed "_law_mixed" = true)
    (kMixed : PySem.W.keepIn K (.ref fMixed) = true)
    (aFolded : PySem.W.nsIn K mainGlobals "_law_folded" = some (some (.ref fFolded)))
    (lFolded : K.lookup fFolded = some ⟨ocFolded, odFolded, .func (PySem.W.fnOf "_law_folded" "_law_folded" (defArgs sFolded) (defBody sFolded) (defScope sFolded) .none kVFolded dcFolded pmFolded anFolded cdFolded ctFolded), slFolded⟩)
    (cFolded : PySem.W.codeIn K cdFolded "_law_folded" = true)
    (kFolded : PySem.W.keepIn K (.ref fFolded) = true)
    (aDraw : PySem.W.nsIn K mainGlobals "_law_draw" = some (some (.ref fDraw)))
    (lDraw : K.lookup fDraw = some ⟨ocDraw, odDraw, .func (PySem.W.fnOf "_law_draw" "_law_draw" (defArgs sDraw) (defBody sDraw) (defScope sDraw) .none kVDraw dcDraw pmDraw anDraw cdDraw ctDraw), slDraw⟩)
    (cDraw : PySem.W.codeIn K cdDraw "_law_draw" = true)
    (kDraw : PySem.W.keepIn K (.ref fDraw) = true)
    (aBegun : PySem.W.nsIn K mainGlobals "_law_begun" = some (some (.ref fBegun)))
    (lBegun : K.lookup fBegun = some ⟨ocBegun, odBegun, .func (PySem.W.fnOf "_law_begun" "_law_begun" (defArgs sBegun) (defBody sBegun) (defScope sBegun) .none kVBegun dcBegun pmBegun anBegun cdBegun ctBegun), slBegun⟩)
    (cBegun : PySem.W.codeIn K cdBegun "_law_begun" = true)
    (kBegun : PySem.W.keepIn K (.ref fBegun) = true)
    (aLTurn : PySem.W.nsIn K mainGlobals "_law_turn" = some (some (.ref fLTurn)))
    (lLTurn : K.lookup fLTurn = some ⟨ocLTurn, odLTurn, .func (PySem.W.fnOf "_law_turn" "_law_turn" (defArgs sLTurn) (defBody sLTurn) (defScope sLTurn) .none kVLTurn dcLTurn pmLTurn anLTurn cdLTurn ctLTurn), slLTurn⟩)
    (cLTurn : PySem.W.codeIn K cdLTurn "_law_turn" = true)
    (kLTurn : PySem.W.keepIn K (.ref fLTurn) = true)
    (aRow : PySem.W.nsIn K mainGlobals "_law_row" = some (some (.ref fRow)))
    (lRow : K.lookup fRow = some ⟨ocRow, odRow, .func (PySem.W.fnOf "_law_row" "_law_row" (defArgs sRow) (defBody sRow) (defScope sRow) .none kVRow dcRow pmRow anRow cdRow ctRow), slRow⟩)
    (cRow : PySem.W.codeIn K cdRow "_law_row" = true)
    (kRow : PySem.W.keepIn K (.ref fRow) = true)
    (aIsR : PySem.W.nsIn K mainGlobals "_law_is_row" = some (some (.ref fIsR)))
    (lIsR : K.lookup fIsR = some ⟨ocIsR, odIsR, .func (PySem.W.fnOf "_law_is_row" "_law_is_row" (defArgs sIsR) (defBody sIsR) (defScope sIsR) .none kVIsR dcIsR pmIsR anIsR cdIsR ctIsR), slIsR⟩)
    (cIsR : PySem.W.codeIn K cdIsR "_law_is_row" = true)
    (kIsR : PySem.W.keepIn K (.ref fIsR) = true)
    (aClass : PySem.W.nsIn K mainGlobals "_law_class" = some (some (.ref fClass)))
    (lClass : K.lookup fClass = some ⟨ocClass, odClass, .func (PySem.W.fnOf "_law_class" "_law_class" (defArgs sClass) (defBody sClass) (defScope sClass) .none kVClass dcClass pmClass anClass cdClass ctClass), slClass⟩)
    (cClass : PySem.W.codeIn K cdClass "_law_class" = true)
    (kClass : PySem.W.keepIn K (.ref fClass) = true)
    (aTold : PySem.W.nsIn K mainGlobals "_law_told" = some (some (.ref fTold)))
    (lTold : K.lookup fTold = some ⟨ocTold, odTold, .func (PySem.W.fnOf "_law_told" "_law_told" (defArgs sTold) (defBody sTold) (defScope sTold) .none kVTold dcTold pmTold anTold cdTold ctTold), slTold⟩)
    (cTold : PySem.W.codeIn K cdTold "_law_told" = true)
    (kTold : PySem.W.keepIn K (.ref fTold) = true)
    (aPairs : PySem.W.nsIn K mainGlobals "_law_pairs" = some (some (.ref fPairs)))
    (lPairs : K.lookup fPairs = some ⟨ocPairs, odPairs, .func (PySem.W.fnOf "_law_pairs" "_law_pairs" (defArgs sPairs) (defBody sPairs) (defScope sPairs) .none kVPairs dcPairs pmPairs anPairs cdPairs ctPairs), slPairs⟩)
    (cPairs : PySem.W.codeIn K cdPairs "_law_pairs" = true)
    (kPairs : PySem.W.keepIn K (.ref fPairs) = true)
    (aRight : PySem.W.nsIn K mainGlobals "_law_right" = some (some (.ref fRight)))
    (lRight : K.lookup fRight = some ⟨ocRight, odRight, .func (PySem.W.fnOf "_law_right" "_law_right" (defArgs sRight) (defBody sRight) (defScope sRight) .none kVRight dcRight pmRight anRight (.ref cRight) ctRight), slRight⟩)
    (cRight_ : PySem.W.codeIn K (.ref cRight) "_law_right" = true)
    (kRight : PySem.W.keepIn K (.ref fRight) = true)
    (aLaw : PySem.W.nsIn K mainGlobals "law" = some (some (.ref fLaw)))
    (lLaw : K.lookup fLaw = some ⟨ocLaw, odLaw, .func (PySem.W.fnOf "law" "law" (defArgs sLaw) (defBody sLaw) (defScope sLaw) .none kVLaw dcLaw pmLaw anLaw (.ref cLaw) ctLaw), slLaw⟩)
    (cLaw_ : PySem.W.codeIn K (.ref cLaw) "law" = true)
    (kLaw : PySem.W.keepIn K (.ref fLaw) = true)
    (aWhole : PySem.W.nsIn K mainGlobals "is_whole" = some (some (.ref fWhole)))
    (lWhole : K.lookup fWhole = some ⟨ocWhole, odWhole, .func (PySem.W.fnOf "is_whole" "is_whole" (defArgs sWhole) (defBody sWhole) (defScope sWhole) .none kVWhole dcWhole pmWhole anWhole cdWhole ctWhole), slWhole⟩)
    (cWhole : PySem.W.codeIn K cdWhole "is_whole" = true)
    (kWhole : PySem.W.keepIn K (.ref fWhole) = true)
    (aFault : PySem.W.nsIn K mainGlobals "first_fault" = some (some (.ref fFault)))
    (lFault : K.lookup fFault = some ⟨ocFault, odFault, .func (PySem.W.fnOf "first_fault" "first_fault" (defArgs sFault) (defBody sFault) (defScope sFault) .none kVFault dcFault pmFault anFault cdFault ctFault), slFault⟩)
    (cFault : PySem.W.codeIn K cdFault "first_fault" = true)
    (kFault : PySem.W.keepIn K (.ref fFault) = true)
    (aPair : PySem.W.nsIn K mainGlobals "is_pair" = some (some (.ref fPair)))
    (lPair : K.lookup fPair = some ⟨ocPair, odPair, .func (PySem.W.fnOf "is_pair" "is_pair" (defArgs sPair) (defBody sPair) (defScope sPair) .none kVPair dcPair pmPair anPair cdPair ctPair), slPair⟩)
    (cPair : PySem.W.codeIn K cdPair "is_pair" = true)
    (kPair : PySem.W.keepIn K (.ref fPair) = true)
    (aStretch : PySem.W.nsIn K mainGlobals "is_stretch" = some (some (.ref fStretch)))
    (lStretch : K.lookup fStretch = some ⟨ocStretch, odStretch, .func (PySem.W.fnOf "is_stretch" "is_stretch" (defArgs sStretch) (defBody sStretch) (defScope sStretch) .none kVStretch dcStretch pmStretch anStretch cdStretch ctStretch), slStretch⟩)
    (cStretch : PySem.W.codeIn K cdStretch "is_stretch" = true)
    (kStretch : PySem.W.keepIn K (.ref fStretch) = true)
    (aRowTxt : PySem.W.nsIn K mainGlobals "row_text" = some (some (.ref fRowTxt)))
    (lRowTxt : K.lookup fRowTxt = some ⟨ocRowTxt, odRowTxt, .func (PySem.W.fnOf "row_text" "row_text" (defArgs sRowTxt) (defBody sRowTxt) (defScope sRowTxt) .none kVRowTxt dcRowTxt pmRowTxt anRowTxt cdRowTxt ctRowTxt), slRowTxt⟩)
    (cRowTxt : PySem.W.codeIn K cdRowTxt "row_text" = true)
    (kRowTxt : PySem.W.keepIn K (.ref fRowTxt) = true)
    (aTT : PySem.W.nsIn K mainGlobals "turns_text" = some (some (.ref fTT)))
    (lTT : K.lookup fTT = some ⟨ocTT, odTT, .func (PySem.W.fnOf "turns_text" "turns_text" (defArgs sTurnsTxt) (defBody sTurnsTxt) (defScope sTurnsTxt) .none kVTT dcTT pmTT anTT cdTT ctTT), slTT⟩)
    (cTT : PySem.W.codeIn K cdTT "turns_text" = true)
    (kTT : PySem.W.keepIn K (.ref fTT) = true)
    (aIsFig : PySem.W.nsIn K mainGlobals "is_figure" = some (some (.ref fIsFig)))
    (lIsFig : K.lookup fIsFig = some ⟨ocIsFig, odIsFig, .func (PySem.W.fnOf "is_figure" "is_figure" (defArgs sIsFig) (defBody sIsFig) (defScope sIsFig) .none kVIsFig dcIsFig pmIsFig anIsFig cdIsFig ctIsFig), slIsFig⟩)
    (cIsFig : PySem.W.codeIn K cdIsFig "is_figure" = true)
    (kIsFig : PySem.W.keepIn K (.ref fIsFig) = true)
    (aBSign : PySem.W.nsIn K mainGlobals "behind_sign" = some (some (.ref fBSign)))
    (lBSign : K.lookup fBSign = some ⟨ocBSign, odBSign, .func (PySem.W.fnOf "behind_sign" "behind_sign" (defArgs sBSign) (defBody sBSign) (defScope sBSign) .none kVBSign dcBSign pmBSign anBSign cdBSign ctBSign), slBSign⟩)
    (cBSign : PySem.W.codeIn K cdBSign "behind_sign" = true)
    (kBSign : PySem.W.keepIn K (.ref fBSign) = true)
    (aBNum : PySem.W.nsIn K mainGlobals "behind_number" = some (some (.ref fBNum)))
    (lBNum : K.lookup fBNum = some ⟨ocBNum, odBNum, .func (PySem.W.fnOf "behind_number" "behind_number" (defArgs sBNum) (defBody sBNum) (defScope sBNum) .none kVBNum dcBNum pmBNum anBNum cdBNum ctBNum), slBNum⟩)
    (cBNum : PySem.W.codeIn K cdBNum "behind_number" = true)
    (kBNum : PySem.W.keepIn K (.ref fBNum) = true)
    (aBPl : PySem.W.nsIn K mainGlobals "behind_place" = some (some (.ref fBPl)))
    (lBPl : K.lookup fBPl = some ⟨ocBPl, odBPl, .func (PySem.W.fnOf "behind_place" "behind_place" (defArgs sBPl) (defBody sBPl) (defScope sBPl) .none kVBPl dcBPl pmBPl anBPl cdBPl ctBPl), slBPl⟩)
    (cBPl : PySem.W.codeIn K cdBPl "behind_place" = true)
    (kBPl : PySem.W.keepIn K (.ref fBPl) = true)
    (aTFrom : PySem.W.nsIn K mainGlobals "turning_from" = some (some (.ref fTFrom)))
    (lTFrom : K.lookup fTFrom = some ⟨ocTFrom, odTFrom, .func (PySem.W.fnOf "turning_from" "turning_from" (defArgs sTFrom) (defBody sTFrom) (defScope sTFrom) .none kVTFrom dcTFrom pmTFrom anTFrom cdTFrom ctTFrom), slTFrom⟩)
    (cTFrom : PySem.W.codeIn K cdTFrom "turning_from" = true)
    (kTFrom : PySem.W.keepIn K (.ref fTFrom) = true)
    (aRdRow : PySem.W.nsIn K mainGlobals "read_row" = some (some (.ref fRdRow)))
    (lRdRow : K.lookup fRdRow = some ⟨ocRdRow, odRdRow, .func (PySem.W.fnOf "read_row" "read_row" (defArgs sRdRow) (defBody sRdRow) (defScope sRdRow) .none kVRdRow dcRdRow pmRdRow anRdRow cdRdRow ctRdRow), slRdRow⟩)
    (cRdRow : PySem.W.codeIn K cdRdRow "read_row" = true)
    (kRdRow : PySem.W.keepIn K (.ref fRdRow) = true)
    (aRdTurns : PySem.W.nsIn K mainGlobals "read_turns" = some (some (.ref fRdTurns)))
    (lRdTurns : K.lookup fRdTurns = some ⟨ocRdTurns, odRdTurns, .func (PySem.W.fnOf "read_turns" "read_turns" (defArgs sRdTurns) (defBody sRdTurns) (defScope sRdTurns) .none kVRdTurns dcRdTurns pmRdTurns anRdTurns cdRdTurns ctRdTurns), slRdTurns⟩)
    (cRdTurns : PySem.W.codeIn K cdRdTurns "read_turns" = true)
    (kRdTurns : PySem.W.keepIn K (.ref fRdTurns) = true)
    (aRI : PySem.W.findIn K (.ref CR) "__init__" = some (some (.ref fRI)))
    (iRI : PySem.W.isFn K (.ref fRI) = true)
    (lRI : K.lookup fRI = some ⟨ocRI, odRI, .func (PySem.W.fnOf "__init__" "Row.__init__" (defArgs sRI) (defBody sRI) (defScope sRI) .none kVRI dcRI pmRI anRI cdRI ctRI), slRI⟩)
    (cRI : PySem.W.codeIn K cdRI "Row.__init__" = true)
    (kRI : PySem.W.keepIn K (.ref fRI) = true)
    (aREq : PySem.W.findIn K (.ref CR) "__eq__" = some (some (.ref fREq)))
    (iREq : PySem.W.isFn K (.ref fREq) = true)
    (lREq : K.lookup fREq = some ⟨ocREq, odREq, .func (PySem.W.fnOf "__eq__" "Row.__eq__" (defArgs sREq) (defBody sREq) (defScope sREq) .none kVREq dcREq pmREq anREq cdREq ctREq), slREq⟩)
    (cREq : PySem.W.codeIn K cdREq "Row.__eq__" = true)
    (kREq : PySem.W.keepIn K (.ref fREq) = true)
    (upLaw : PySem.W.tabIn K "law" = some (cLaw, pLaw))
    (npLaw : K.lookup pLaw = none)
    (tpLaw : PySem.W.CodeHd h cLaw pLaw ∧ h.get? pLaw = some oTab)
    (upRight : PySem.W.tabIn K "_law_right" = some (cRight, pRight))
    (npRight : K.lookup pRight = none)
    (tpRight : PySem.W.CodeHd h cRight pRight ∧ h.get? pRight = some oTab)
    (d01 : pLaw ≠ pRight) :
    LawG l w K CX0 14 63 "script" mg fa h := by
  have e := hfa.symm.trans (PySem.W.mg_of X G aLaw)
  cases e
  have gCR := PySem.W.mg_of X G aCR
  have gMost := PySem.W.mg_of X G aMost
  have R : RowC K mg CR := ⟨⟨rpg, rhd, rpo, rsa⟩, rnw, gCR, ⟨_, gMost⟩, rhc, ohn, oht, rhm, rks⟩
  have gCF := PySem.W.mg_of X G aCF
  have gX1 := PySem.W.mg_of X G aX1
  have gX2 := PySem.W.mg_of X G aX2
  have gX3 := PySem.W.mg_of X G aX3
  have gX4 := PySem.W.mg_of X G aX4
  have gX5 := PySem.W.mg_of X G aX5
  have gX6 := PySem.W.mg_of X G aX6
  have gX7 := PySem.W.mg_of X G aX7
  have gX8 := PySem.W.mg_of X G aX8
  have gX9 := PySem.W.mg_of X G aX9
  have mgc : ∀ k : Kd, mg k.name = some (.ref (kdC c1 c2 c3 c4 c5 c6 c7 c8 c9 k)) := fun k => match k with | .row => gX1 | .turn => gX2 | .place => gX3 | .number => gX4 | .other => gX5 | .great => gX6 | .text => gX7 | .way => gX8 | .nothing => gX9
  have XE : Exs K mg CF (kdC c1 c2 c3 c4 c5 c6 c7 c8 c9) := ⟨gCF, mgc, xexc, xkit, xkve, xxf, xno, xany⟩
  have FC : FaceC K mg CF := ⟨gCF, fgi, frd, ffi⟩
  have FX1I := fun_mk (st := sXRow) lX1I cX1I kX1I
  have bX1I := FX1I.binds (ps := ["self", "place"]) fun _ _ _ _ _ _ us hl => match us, hl with | [_, _], _ => rfl
  have TX1I : XCls "ValueError.__new__" bmV K c1 := ⟨⟨_, _, _, _, _, _, _, _, _, _, _, _, _, _, _, xlX1I, xtX1I⟩, xsX1I, xbX1I, xyX1I, xkX1I⟩
  have FX2I := fun_mk (st := sXTurn) lX2I cX2I kX2I
  have bX2I := FX2I.binds (ps := ["self", "place"]) fun _ _ _ _ _ _ us hl => match us, hl with | [_, _], _ => rfl
  have TX2I : XCls "ValueError.__new__" bmV K c2 := ⟨⟨_, _, _, _, _, _, _, _, _, _, _, _, _, _, _, xlX2I, xtX2I⟩, xsX2I, xbX2I, xyX2I, xkX2I⟩
  have FX3I := fun_mk (st := sXPlace) lX3I cX3I kX3I
  have bX3I := FX3I.binds (ps := ["self", "value"]) fun _ _ _ _ _ _ us hl => match us, hl with | [_, _], _ => rfl
  have TX3I : XCls "ValueError.__new__" bmV K c3 := ⟨⟨_, _, _, _, _, _, _, _, _, _, _, _, _, _, _, xlX3I, xtX3I⟩, xsX3I, xbX3I, xyX3I, xkX3I⟩
  have FX4I := fun_mk (st := sXNumber) lX4I cX4I kX4I
  have bX4I := FX4I.binds (ps := ["self", "value"]) fun _ _ _ _ _ _ us hl => match us, hl with | [_, _], _ => rfl
  have TX4I : XCls "ValueError.__new__" bmV K c4 := ⟨⟨_, _, _, _, _, _, _, _, _, _, _, _, _, _, _, xlX4I, xtX4I⟩, xsX4I, xbX4I, xyX4I, xkX4I⟩
  have FX6I := fun_mk (st := sXGreat) lX6I cX6I kX6I
  have bX6I := FX6I.binds (ps := ["self", "most"]) fun _ _ _ _ _ _ us hl => match us, hl with | [_, _], _ => rfl
  have TX6I : XCls "OverflowError.__new__" bmO K c6 := ⟨⟨_, _, _, _, _, _, _, _, _, _, _, _, _, _, _, xlX6I, xtX6I⟩, xsX6I, xbX6I, xyX6I, xkX6I⟩
  have FX7I := fun_mk (st := sXText) lX7I cX7I kX7I
  have bX7I := FX7I.binds (ps := ["self", "place"]) fun _ _ _ _ _ _ us hl => match us, hl with | [_, _], _ => rfl
  have TX7I : XCls "ValueError.__new__" bmV K c7 := ⟨⟨_, _, _, _, _, _, _, _, _, _, _, _, _, _, _, xlX7I, xtX7I⟩, xsX7I, xbX7I, xyX7I, xkX7I⟩
  have FX8I := fun_mk (st := sXWay) lX8I cX8I kX8I
  have bX8I := FX8I.binds (ps := ["self", "value"]) fun _ _ _ _ _ _ us hl => match us, hl with | [_, _], _ => rfl
  have TX8I : XCls "ValueError.__new__" bmV K c8 := ⟨⟨_, _, _, _, _, _, _, _, _, _, _, _, _, _, _, xlX8I, xtX8I⟩, xsX8I, xbX8I, xyX8I, xkX8I⟩
  have B : Blt mg := ⟨PySem.W.mg_none_of X G z_int, PySem.W.mg_none_of X G z_len, PySem.W.mg_none_of X G z_range, PySem.W.mg_none_of X G z_enumerate, PySem.W.mg_none_of X G z_list, PySem.W.mg_none_of X G z_tuple, PySem.W.mg_none_of X G z_isinstance, PySem.W.mg_none_of X G z_ValueError, PySem.W.mg_none_of X G z_zip, PySem.W.mg_none_of X G z_abs, PySem.W.mg_none_of X G z_repr, PySem.W.mg_none_of X G z_set, PySem.W.mg_none_of X G z_max, PySem.W.mg_none_of X G z_bool, PySem.W.mg_none_of X G z_OverflowError, PySem.W.mg_none_of X G z_all, PySem.W.mg_none_of X G z_str, PySem.W.mg_none_of X G z_sorted, PySem.W.mg_none_of X G z_sum, PySem.W.mg_none_of X G z_min⟩
  have gFig := PySem.W.mg_of X G aFig
  have gMW := PySem.W.mg_of X G aMW
  have FMixed := fun_mk (st := sMixed) lMixed cMixed kMixed
  have bMixed := FMixed.binds (ps := ["cell", "n"]) fun _ _ _ _ _ _ us hl => match us, hl with | [_, _], _ => rfl
  have gMixed := PySem.W.mg_of X G aMixed
  have FFolded := fun_mk (st := sFolded) lFolded cFolded kFolded
  have bFolded := FFolded.binds (ps := ["script"]) fun _ _ _ _ _ _ us hl => match us, hl with | [_], _ => rfl
  have gFolded := PySem.W.mg_of X G aFolded
  have FDraw := fun_mk (st := sDraw) lDraw cDraw kDraw
  have bDraw := FDraw.binds (ps := ["m", "limit"]) fun _ _ _ _ _ _ us hl => match us, hl with | [_, _], _ => rfl
  have gDraw := PySem.W.mg_of X G aDraw
  have FBegun := fun_mk (st := sBegun) lBegun cBegun kBegun
  have bBegun := FBegun.binds (ps := ["script"]) fun _ _ _ _ _ _ us hl => match us, hl with | [_], _ => rfl
  have gBegun := PySem.W.mg_of X G aBegun
  have FLTurn := fun_mk (st := sLTurn) lLTurn cLTurn kLTurn
  have bLTurn := FLTurn.binds (ps := ["waggons", "first", "last"]) fun _ _ _ _ _ _ us hl => match us, hl with | [_, _, _], _ => rfl
  have gLTurn := PySem.W.mg_of X G aLTurn
  have FRow := fun_mk (st := sRow) lRow cRow kRow
  have bRow := FRow.binds (ps := ["m", "many"]) fun _ _ _ _ _ _ us hl => match us, hl with | [_, _], _ => rfl
  have gRow := PySem.W.mg_of X G aRow
  have FIsR := fun_mk (st := sIsR) lIsR cIsR kIsR
  have bIsR := FIsR.binds (ps := ["told", "waggons"]) fun _ _ _ _ _ _ us hl => match us, hl with | [_, _], _ => rfl
  have gIsR := PySem.W.mg_of X G aIsR
  have FClass := fun_mk (st := sClass) lClass cClass kClass
  have bClass := FClass.binds (ps := ["error"]) fun _ _ _ _ _ _ us hl => match us, hl with | [_], _ => rfl
  have gClass := PySem.W.mg_of X G aClass
  have FTold := fun_mk (st := sTold) lTold cTold kTold
  have bTold := FTold.binds (ps := ["call"]) fun _ _ _ _ _ _ us hl => match us, hl with | [_], _ => rfl
  have gTold := PySem.W.mg_of X G aTold
  have FPairs := fun_mk (st := sPairs) lPairs cPairs kPairs
  have bPairs := FPairs.binds (ps := ["m"]) fun _ _ _ _ _ _ us hl => match us, hl with | [_], _ => rfl
  have gPairs := PySem.W.mg_of X G aPairs
  have FRight := fun_mk (st := sRight) lRight cRight_ kRight
  have bRight := FRight.binds (ps := ["m", "many"]) fun _ _ _ _ _ _ us hl => match us, hl with | [_, _], _ => rfl
  have gRight := PySem.W.mg_of X G aRight
  have FLaw := fun_mk (st := sLaw) lLaw cLaw_ kLaw
  have bLaw := FLaw.binds (ps := ["script"]) fun _ _ _ _ _ _ us hl => match us, hl with | [_], _ => rfl
  have gLaw := PySem.W.mg_of X G aLaw
  have FWhole := fun_mk (st := sWhole) lWhole cWhole kWhole
  have bWhole := FWhole.binds (ps := ["value", "least", "most"]) fun _ _ _ _ _ _ us hl => match us, hl with | [_, _, _], _ => rfl
  have gWhole := PySem.W.mg_of X G aWhole
  have FFault := fun_mk (st := sFault) lFault cFault kFault
  have bFault := FFault.binds (ps := ["waggons"]) fun _ _ _ _ _ _ us hl => match us, hl with | [_], _ => rfl
  have gFault := PySem.W.mg_of X G aFault
  have FPair := fun_mk (st := sPair) lPair cPair kPair
  have bPair := FPair.binds (ps := ["value", "most"]) fun _ _ _ _ _ _ us hl => match us, hl with | [_, _], _ => rfl
  have gPair := PySem.W.mg_of X G aPair
  have FStretch := fun_mk (st := sStretch) lStretch cStretch kStretch
  have bStretch := FStretch.binds (ps := ["value", "most"]) fun _ _ _ _ _ _ us hl => match us, hl with | [_, _], _ => rfl
  have gStretch := PySem.W.mg_of X G aStretch
  have FRowTxt := fun_mk (st := sRowTxt) lRowTxt cRowTxt kRowTxt
  have bRowTxt := FRowTxt.binds (ps := ["row"]) fun _ _ _ _ _ _ us hl => match us, hl with | [_], _ => rfl
  have gRowTxt := PySem.W.mg_of X G aRowTxt
  have FTT := fun_mk (st := sTurnsTxt) lTT cTT kTT
  have bTT := FTT.binds (ps := ["turnings"]) fun _ _ _ _ _ _ us hl => match us, hl with | [_], _ => rfl
  have gTT := PySem.W.mg_of X G aTT
  have FIsFig := fun_mk (st := sIsFig) lIsFig cIsFig kIsFig
  have bIsFig := FIsFig.binds (ps := ["text", "place", "figures"]) fun _ _ _ _ _ _ us hl => match us, hl with | [_, _, _], _ => rfl
  have gIsFig := PySem.W.mg_of X G aIsFig
  have FBSign := fun_mk (st := sBSign) lBSign cBSign kBSign
  have bBSign := FBSign.binds (ps := ["text", "place", "signs"]) fun _ _ _ _ _ _ us hl => match us, hl with | [_, _, _], _ => rfl
  have gBSign := PySem.W.mg_of X G aBSign
  have FBNum := fun_mk (st := sBNum) lBNum cBNum kBNum
  have bBNum := FBNum.binds (ps := ["text", "place"]) fun _ _ _ _ _ _ us hl => match us, hl with | [_, _], _ => rfl
  have gBNum := PySem.W.mg_of X G aBNum
  have FBPl := fun_mk (st := sBPl) lBPl cBPl kBPl
  have bBPl := FBPl.binds (ps := ["text", "place"]) fun _ _ _ _ _ _ us hl => match us, hl with | [_, _], _ => rfl
  have gBPl := PySem.W.mg_of X G aBPl
  have FTFrom := fun_mk (st := sTFrom) lTFrom cTFrom kTFrom
  have bTFrom := FTFrom.binds (ps := ["text", "place"]) fun _ _ _ _ _ _ us hl => match us, hl with | [_, _], _ => rfl
  have gTFrom := PySem.W.mg_of X G aTFrom
  have FRdRow := fun_mk (st := sRdRow) lRdRow cRdRow kRdRow
  have bRdRow := FRdRow.binds (ps := ["text"]) fun _ _ _ _ _ _ us hl => match us, hl with | [_], _ => rfl
  have gRdRow := PySem.W.mg_of X G aRdRow
  have FRdTurns := fun_mk (st := sRdTurns) lRdTurns cRdTurns kRdTurns
  have bRdTurns := FRdTurns.binds (ps := ["text"]) fun _ _ _ _ _ _ us hl => match us, hl with | [_], _ => rfl
  have gRdTurns := PySem.W.mg_of X G aRdTurns
  have FRI := fun_mk (st := sRI) lRI cRI kRI
  have bRI := FRI.binds (ps := ["self", "waggons"]) fun _ _ _ _ _ _ us hl => match us, hl with | [_, _], _ => rfl
  have FREq := fun_mk (st := sREq) lREq cREq kREq
  have bREq := FREq.binds (ps := ["self", "other"]) fun _ _ _ _ _ _ us hl => match us, hl with | [_, _], _ => rfl
  refine ⟨PySem.W.fnOf "law" "law" (defArgs sLaw) (defBody sLaw) (defScope sLaw) .none kVLaw dcLaw pmLaw anLaw (.ref cLaw) ctLaw, [(cLaw, pLaw), (cRight, pRight)], spLaw K [(pLaw, (("law" : Str) ++ ".<locals>.") ++ "<lambda>"), (pRight, (("_law_right" : Str) ++ ".<locals>.") ++ "<lambda>")], ?_, ?_, ?_, fun s u => .of_eq rfl, ?_, fun base _ _ hTab => ?_⟩
  · intro p hp
    simp only [List.mem_cons, List.not_mem_nil, or_false] at hp
    rcases hp with rfl | rfl
    · exact tpLaw.2
    · exact tpRight.2
  · intro p hp
    simp only [List.mem_cons, List.not_mem_nil, or_false] at hp
    rcases hp with rfl | rfl
    · exact npLaw
    · exact npRight
  · intro p hp
    simp only [List.mem_cons, List.not_mem_nil, or_false] at hp
    rcases hp with rfl | rfl
    · exact tpLaw.1
    · exact tpRight.1
  · intro H a ns hl hH hS
    refine ⟨a, ns, rfl, hS, hl, fun p hp => ?_, fun _ => rfl⟩
    simp only [List.mem_cons, List.not_mem_nil, or_false] at hp
    rcases hp with rfl | rfl
    · exact .nil (hH (cLaw, pLaw) (by simp))
    · exact .nil (hH (cRight, pRight) (by simp))
  have TBpLaw := hTab (cLaw, pLaw) (by simp)
  have hmpLaw : (pLaw, (("law" : Str) ++ ".<locals>.") ++ "<lambda>") ∈ ([(pLaw, (("law" : Str) ++ ".<locals>.") ++ "<lambda>"), (pRight, (("_law_right" : Str) ++ ".<locals>.") ++ "<lambda>")] : List (Addr × Str)) := by simp
  have hupLaw : ∀ p ∈ ([(pLaw, (("law" : Str) ++ ".<locals>.") ++ "<lambda>"), (pRight, (("_law_right" : Str) ++ ".<locals>.") ++ "<lambda>")] : List (Addr × Str)), p.1 = pLaw → p.2 = (("law" : Str) ++ ".<locals>.") ++ "<lambda>" := fun p hp e => by
    simp only [List.mem_cons, List.not_mem_nil, or_false] at hp
    rcases hp with rfl | rfl
    · rfl
    · exact absurd e (Ne.symm d01)
  have TBpRight := hTab (cRight, pRight) (by simp)
  have hmpRight : (pRight, (("_law_right" : Str) ++ ".<locals>.") ++ "<lambda>") ∈ ([(pLaw, (("law" : Str) ++ ".<locals>.") ++ "<lambda>"), (pRight, (("_law_right" : Str) ++ ".<locals>.") ++ "<lambda>")] : List (Addr × Str)) := by simp
  have hupRight : ∀ p ∈ ([(pLaw, (("law" : Str) ++ ".<locals>.") ++ "<lambda>"), (pRight, (("_law_right" : Str) ++ ".<locals>.") ++ "<lambda>")] : List (Addr × Str)), p.1 = pRight → p.2 = (("_law_right" : Str) ++ ".<locals>.") ++ "<lambda>" := fun p hp e => by
    simp only [List.mem_cons, List.not_mem_nil, or_false] at hp
    rcases hp with rfl | rfl
    · exact absurd e d01
    · rfl
  have DX1I : XDs l.prog w K mg base (kdC c1 c2 c3 c4 c5 c6 c7 c8 c9) .row := ⟨_, _, _, _, _, _, eb_value, TX1I, aX1I, xfX1I, (ok_xRow FX1I FC), bX1I, xno .row, gX1⟩
  have DX2I : XDs l.prog w K mg base (kdC c1 c2 c3 c4 c5 c6 c7 c8 c9) .turn := ⟨_, _, _, _, _, _, eb_value, TX2I, aX2I, xfX2I, (ok_xTurn FX2I FC), bX2I, xno .turn, gX2⟩
  have DX3I : XDs l.prog w K mg base (kdC c1 c2 c3 c4 c5 c6 c7 c8 c9) .place := ⟨_, _, _, _, _, _, eb_value, TX3I, aX3I, xfX3I, (ok_xPlace FX3I FC), bX3I, xno .place, gX3⟩
  have DX4I : XDs l.prog w K mg base (kdC c1 c2 c3 c4 c5 c6 c7 c8 c9) .number := ⟨_, _, _, _, _, _, eb_value, TX4I, aX4I, xfX4I, (ok_xNumber FX4I FC), bX4I, xno .number, gX4⟩
  have DX6I : XDs l.prog w K mg base (kdC c1 c2 c3 c4 c5 c6 c7 c8 c9) .great := ⟨_, _, _, _, _, _, eb_over, TX6I, aX6I, xfX6I, (ok_xGreat FX6I B ofi), bX6I, xno .great, gX6⟩
  have DX7I : XDs l.prog w K mg base (kdC c1 c2 c3 c4 c5 c6 c7 c8 c9) .text := ⟨_, _, _, _, _, _, eb_value, TX7I, aX7I, xfX7I, (ok_xText FX7I FC), bX7I, xno .text, gX7⟩
  have DX8I : XDs l.prog w K mg base (kdC c1 c2 c3 c4 c5 c6 c7 c8 c9) .way := ⟨_, _, _, _, _, _, eb_value, TX8I, aX8I, xfX8I, (ok_xWay FX8I FC), bX8I, xno .way, gX8⟩
  have XB : ∀ k, hasK k = true → XDs l.prog w K mg base (kdC c1 c2 c3 c4 c5 c6 c7 c8 c9) k := fun k h => by
    cases k
    · exact DX1I
    · exact DX2I
    · exact DX3I
    · exact DX4I
    · exact absurd h (by decide)
    · exact DX6I
    · exact DX7I
    · exact DX8I
    · exact absurd h (by decide)
  have dMixed : Dn l.prog w K mg base 1 "_law_mixed" fMixed _ ["cell", "n"] spMixed := ⟨ok_mixed FMixed B, gMixed, kMixed, bMixed⟩
  have dDraw : Dn l.prog w K mg base 2 "_law_draw" fDraw _ ["m", "limit"] spDraw := ⟨ok_draw FDraw B dMixed, gDraw, kDraw, bDraw⟩
  have dFolded : Dn l.prog w K mg base 1 "_law_folded" fFolded _ ["script"] (spFolded K) := ⟨ok_folded FFolded B, gFolded, kFolded, bFolded⟩
  have dBegun : Dn l.prog w K mg base 2 "_law_begun" fBegun _ ["script"] (spBegun K) := ⟨ok_begun FBegun B dFolded, gBegun, kBegun, bBegun⟩
  have dLTurn : Dn l.prog w K mg base 1 "_law_turn" fLTurn _ ["waggons", "first", "last"] spLTurn := ⟨ok_lturn FLTurn B, gLTurn, kLTurn, bLTurn⟩
  have dRow : Dn l.prog w K mg base 3 "_law_row" fRow _ ["m", "many"] (spRowT [(pLaw, (("law" : Str) ++ ".<locals>.") ++ "<lambda>"), (pRight, (("_law_right" : Str) ++ ".<locals>.") ++ "<lambda>")]) := ⟨ok_rowT FRow B dDraw dLTurn, gRow, kRow, bRow⟩
  have dWhole : Dn l.prog w K mg base 1 "is_whole" fWhole _ ["value", "least", "most"] (spWhole K) := ⟨ok_whole FWhole B, gWhole, kWhole, bWhole⟩
  have dFault : Dn l.prog w K mg base 2 "first_fault" fFault _ ["waggons"] (spFault K) := ⟨ok_fault FFault B dWhole, gFault, kFault, bFault⟩
  have oRI := ok_ri FRI B R XB dFault
  have RM : Mk K CR fRI := ⟨rmk, aRI, iRI, rkc⟩
  have dIsFig : Dn l.prog w K mg base 1 "is_figure" fIsFig _ ["text", "place", "figures"] spIsFig := ⟨ok_isfig FIsFig B, gIsFig, kIsFig, bIsFig⟩
  have dBSign : DnX l.prog w K mg base 3 "behind_sign" fBSign _ ["text", "place", "signs"] (spBSign (kdC c1 c2 c3 c4 c5 c6 c7 c8 c9)) := ⟨ok_bsign FBSign B XB, gBSign, kBSign, bBSign⟩
  have dBNum : DnX l.prog w K mg base 3 "behind_number" fBNum _ ["text", "place"] (spBNum (kdC c1 c2 c3 c4 c5 c6 c7 c8 c9)) := ⟨ok_bnum FBNum B XB gFig dIsFig, gBNum, kBNum, bBNum⟩
  have dBPl : DnX l.prog w K mg base 4 "behind_place" fBPl _ ["text", "place"] (spBPl (kdC c1 c2 c3 c4 c5 c6 c7 c8 c9)) := ⟨ok_bpl FBPl B dBNum, gBPl, kBPl, bBPl⟩
  have dTFrom : DnX l.prog w K mg base 5 "turning_from" fTFrom _ ["text", "place"] (spTFrom (kdC c1 c2 c3 c4 c5 c6 c7 c8 c9)) := ⟨ok_tfrom FTFrom B XB dBPl dBSign, gTFrom, kTFrom, bTFrom⟩
  have dRdT : DnX l.prog w K mg base 6 "read_turns" fRdTurns _ ["text"] (spRdTurns K (kdC c1 c2 c3 c4 c5 c6 c7 c8 c9)) := ⟨ok_rdturns FRdTurns B XB dTFrom dBSign, gRdTurns, kRdTurns, bRdTurns⟩
  have dRdRow : DnX l.prog w K mg base 6 "read_row" fRdRow _ ["text"] (spRdRow K (kdC c1 c2 c3 c4 c5 c6 c7 c8 c9) CR) := ⟨ok_rdrow FRdRow B R XB dBNum dBSign RM oRI bRI, gRdRow, kRdRow, bRdRow⟩
  have dPair : Dn l.prog w K mg base 2 "is_pair" fPair _ ["value", "most"] (spPair K) := ⟨ok_pair FPair B dWhole, gPair, kPair, bPair⟩
  have dStretch : Dn l.prog w K mg base 3 "is_stretch" fStretch _ ["value", "most"] (spStretch K) := ⟨ok_stretch FStretch B dPair, gStretch, kStretch, bStretch⟩
  have dRowTxt : Dn l.prog w K mg base 1 "row_text" fRowTxt _ ["row"] (spRowTxt CR) := ⟨ok_rowtxt FRowTxt B R, gRowTxt, kRowTxt, bRowTxt⟩
  have dTT : DnX l.prog w K mg base 4 "turns_text" fTT _ ["turnings"] (spTurnsTxt K (kdC c1 c2 c3 c4 c5 c6 c7 c8 c9)) := ⟨ok_turnstxt FTT B XB gMW dStretch, gTT, kTT, bTT⟩
  have dPairs : Dn l.prog w K mg base 3 "_law_pairs" fPairs _ ["m"] (spPairs [(pLaw, (("law" : Str) ++ ".<locals>.") ++ "<lambda>"), (pRight, (("_law_right" : Str) ++ ".<locals>.") ++ "<lambda>")]) := ⟨ok_pairs FPairs B dDraw, gPairs, kPairs, bPairs⟩
  have dIsR : DnG l.prog w K mg base 1 "_law_is_row" fIsR _ ["told", "waggons"] (spIsR CR) := ⟨ok_isr FIsR B R, gIsR, kIsR, bIsR⟩
  have dClass : Dn l.prog w K mg base 1 "_law_class" fClass _ ["error"] (spClass (kdC c1 c2 c3 c4 c5 c6 c7 c8 c9)) := ⟨ok_class FClass B XE, gClass, kClass, bClass⟩
  have DT : DL K mg "_law_told" sTold fTold _ ["call"] _ _ _ _ _ _ _ _ := ⟨gTold, kTold, lTold, cTold, bTold⟩
  have dRight : DnG l.prog w K mg base 12 "_law_right" fRight _ ["m", "many"] (spRight [(pLaw, (("law" : Str) ++ ".<locals>.") ++ "<lambda>"), (pRight, (("_law_right" : Str) ++ ".<locals>.") ++ "<lambda>")]) := ⟨ok_right B R XE TBpRight hmpRight hupRight DT dClass dDraw dRow dPairs dIsR dRowTxt dTT dRdRow dRdT RM oRI bRI ⟨gRight, kRight, lRight, cRight_, bRight⟩, gRight, kRight, bRight⟩
  exact ok_law B R XE TBpLaw hmpLaw hupLaw DT dClass dDraw dBegun dRight dRowTxt dTT dRdRow dRdT RM oRI bRI (ok_req FREq B R) ⟨aREq, iREq, bREq⟩ rne ⟨hfa, kLaw, lLaw, cLaw_, bLaw⟩
end Fab
open PySem PySem.W PyProof.Rows in
set_option maxRecDepth 100000 in
set_option maxHeartbeats 0 in
theorem PySem.Challenge.cw_faceabout_k70_texts_written_and_read_holds : PySem.Challenge.rw_faceabout_k70_texts_written_and_read.Holds := by
  w_on; o_law; k_head; (case hw => w_witness2)
  k_fill
  refine Fab.walkG (l := PySem.Challenge.rw_faceabout_k70_texts_written_and_read) (n := 63) (k := 14) (x := "script") (CX := fun _ => L2.CX0) rfl (by decide) rfl ⟨rfl, by decide, by decide⟩ (fun w h Y => PySem.W.km_in_of Y) ?F (fun _ _ _ _ _ z => z)
  case F =>
    intro w mg fa h Y KX TO G hmg
    refine' Fab.all_mk KX G hmg ?aCR ?rpg ?rhd ?rpo ?rsa ?rmk ?rkc ?rnw ?rhc ?rhm ?rks ?ohn ?oht ?aMost ?aCF ?aX1 ?aX2 ?aX3 ?aX4 ?aX5 ?aX6 ?aX7 ?aX8 ?aX9 ?fgi ?frd ?ffi ?ofi ?xno ?xexc ?xkit ?xkve ?xxf ?xany ?xlX1I ?xtX1I ?xsX1I ?xbX1I ?xyX1I ?xkX1I ?aX1I ?iX1I ?lX1I ?cX1I ?kX1I ?xfX1I ?xlX2I ?xtX2I ?xsX2I ?xbX2I ?xyX2I ?xkX2I ?aX2I ?iX2I ?lX2I ?cX2I ?kX2I ?xfX2I ?xlX3I ?xtX3I ?xsX3I ?xbX3I ?xyX3I ?xkX3I ?aX3I ?iX3I ?lX3I ?cX3I ?kX3I ?xfX3I ?xlX4I ?xtX4I ?xsX4I ?xbX4I ?xyX4I ?xkX4I ?aX4I ?iX4I ?lX4I ?cX4I ?kX4I ?xfX4I ?xlX6I ?xtX6I ?xsX6I ?xbX6I ?xyX6I ?xkX6I ?aX6I ?iX6I ?lX6I ?cX6I ?kX6I ?xfX6I ?xlX7I ?xtX7I ?xsX7I ?xbX7I ?xyX7I ?xkX7I ?aX7I ?iX7I ?lX7I ?cX7I ?kX7I ?xfX7I ?xlX8I ?xtX8I ?xsX8I ?xbX8I ?xyX8I ?xkX8I ?aX8I ?iX8I ?lX8I ?cX8I ?kX8I ?xfX8I ?z_int ?z_len ?z_range ?z_enumerate ?z_list ?z_tuple ?z_isinstance ?z_ValueError ?z_zip ?z_abs ?z_repr ?z_set ?z_max ?z_bool ?z_OverflowError ?z_all ?z_str ?z_sorted ?z_sum ?z_min ?aFig ?aMW ?rne ?aMixed ?lMixed ?cMixed ?kMixed ?aFolded ?lFolded ?cFolded ?kFolded ?aDraw ?lDraw ?cDraw ?kDraw ?aBegun ?lBegun ?cBegun ?kBegun ?aLTurn ?lLTurn ?cLTurn ?kLTurn ?aRow ?lRow ?cRow ?kRow ?aIsR ?lIsR ?cIsR ?kIsR ?aClass ?lClass ?cClass ?kClass ?aTold ?lTold ?cTold ?kTold ?aPairs ?lPairs ?cPairs ?kPairs ?aRight ?lRight ?cRight_ ?kRight ?aLaw ?lLaw ?cLaw_ ?kLaw ?aWhole ?lWhole ?cWhole ?kWhole ?aFault ?lFault ?cFault ?kFault ?aPair ?lPair ?cPair ?kPair ?aStretch ?lStretch ?cStretch ?kStretch ?aRowTxt ?lRowTxt ?cRowTxt ?kRowTxt ?aTT ?lTT ?cTT ?kTT ?aIsFig ?lIsFig ?cIsFig ?kIsFig ?aBSign ?lBSign ?cBSign ?kBSign ?aBNum ?lBNum ?cBNum ?kBNum ?aBPl ?lBPl ?cBPl ?kBPl ?aTFrom ?lTFrom ?cTFrom ?kTFrom ?aRdRow ?lRdRow ?cRdRow ?kRdRow ?aRdTurns ?lRdTurns ?cRdTurns ?kRdTurns ?aRI ?iRI ?lRI ?cRI ?kRI ?aREq ?iREq ?lREq ?cREq ?kREq ?upLaw ?npLaw ?tpLaw ?upRight ?npRight ?tpRight ?d01
    (case aCR => first | k_is | rfl | kernel_rfl)
    (case rpg => first | k_is | rfl | kernel_rfl)
    (case rhd => first | k_is | rfl | kernel_rfl)
    (case rpo => first | k_is | rfl | kernel_rfl)
    (case rsa => first | k_is | rfl | kernel_rfl)
    (case rmk => first | k_is | rfl | kernel_rfl)
    (case rkc => first | k_is | rfl | kernel_rfl)
    (case rnw => first | k_is | rfl | kernel_rfl)
    (case rhc => first | k_is | rfl | kernel_rfl)
    (case rhm => first | k_is | rfl | kernel_rfl)
    (case rks => first | k_is | rfl | kernel_rfl)
    (case ohn => first | k_is | rfl | kernel_rfl)
    (case oht => first | k_is | rfl | kernel_rfl)
    (case aMost => first | k_is | rfl | kernel_rfl)
    (case aCF => first | k_is | rfl | kernel_rfl)
    (case aX1 => first | k_is | rfl | kernel_rfl)
    (case aX2 => first | k_is | rfl | kernel_rfl)
    (case aX3 => first | k_is | rfl | kernel_rfl)
    (case aX4 => first | k_is | rfl | kernel_rfl)
    (case aX5 => first | k_is | rfl | kernel_rfl)
    (case aX6 => first | k_is | rfl | kernel_rfl)
    (case aX7 => first | k_is | rfl | kernel_rfl)
    (case aX8 => first | k_is | rfl | kernel_rfl)
    (case aX9 => first | k_is | rfl | kernel_rfl)
    (case fgi => first | k_is | rfl | kernel_rfl)
    (case frd => first | k_is | rfl | kernel_rfl)
    (case ffi => first | k_is | rfl | kernel_rfl)
    (case ofi => first | k_is | rfl | kernel_rfl)
    (case xno => intro k; cases k <;> (try dsimp only [Fab.kdC, Fab.Kd.fld]) <;> first | kernel_rfl | k_is | rfl)
    (case xexc => intro k; cases k <;> refine ⟨?_, ?_, ?_, ?_, ?_, ?_, ?_, ?_⟩ <;> (try dsimp only [Fab.kdC]) <;> first | k_is | rfl | kernel_rfl)
    (case xkit => intro k j; cases k <;> cases j <;> (try dsimp only [Fab.kdC]) <;> first | kernel_rfl | k_is | rfl)
    (case xkve => intro k; cases k <;> (try dsimp only [Fab.kdC, Fab.Kd.fld]) <;> first | kernel_rfl | k_is | rfl)
    (case xxf => intro k; cases k <;> refine ⟨?_, ?_, ?_, ?_⟩ <;> (try dsimp only [Fab.kdC]) <;> first | k_is | rfl | kernel_rfl)
    (case xany => intro k; cases k <;> (try dsimp only [Fab.kdC, Fab.Kd.fld]) <;> first | kernel_rfl | k_is | rfl)
    (case xlX1I => first | k_is | rfl | kernel_rfl)
    (case xtX1I => first | kernel_rfl | rfl | k_is)
    (case xsX1I => first | k_is | rfl | kernel_rfl)
    (case xbX1I => first | k_is | rfl | kernel_rfl)
    (case xyX1I => first | k_is | rfl | kernel_rfl)
    (case xkX1I => first | k_is | rfl | kernel_rfl)
    (case aX1I => first | k_is | rfl | kernel_rfl)
    (case iX1I => first | k_is | rfl | kernel_rfl)
    (case lX1I => first | k_is | rfl | kernel_rfl)
    (case cX1I => first | k_is | rfl | kernel_rfl)
    (case kX1I => first | k_is | rfl | kernel_rfl)
    (case xfX1I => first | k_is | rfl | kernel_rfl)
    (case xlX2I => first | k_is | rfl | kernel_rfl)
    (case xtX2I => first | kernel_rfl | rfl | k_is)
    (case xsX2I => first | k_is | rfl | kernel_rfl)
    (case xbX2I => first | k_is | rfl | kernel_rfl)
    (case xyX2I => first | k_is | rfl | kernel_rfl)
    (case xkX2I => first | k_is | rfl | kernel_rfl)
    (case aX2I => first | k_is | rfl | kernel_rfl)
    (case iX2I => first | k_is | rfl | kernel_rfl)
    (case lX2I => first | k_is | rfl | kernel_rfl)
    (case cX2I => first | k_is | rfl | kernel_rfl)
    (case kX2I => first | k_is | rfl | kernel_rfl)
    (case xfX2I => first | k_is | rfl | kernel_rfl)
    (case xlX3I => first | k_is | rfl | kernel_rfl)
    (case xtX3I => first | kernel_rfl | rfl | k_is)
    (case xsX3I => first | k_is | rfl | kernel_rfl)
    (case xbX3I => first | k_is | rfl | kernel_rfl)
    (case xyX3I => first | k_is | rfl | kernel_rfl)
    (case xkX3I => first | k_is | rfl | kernel_rfl)
    (case aX3I => first | k_is | rfl | kernel_rfl)
    (case iX3I => first | k_is | rfl | kernel_rfl)
    (case lX3I => first | k_is | rfl | kernel_rfl)
    (case cX3I => first | k_is | rfl | kernel_rfl)
    (case kX3I => first | k_is | rfl | kernel_rfl)
    (case xfX3I => first | k_is | rfl | kernel_rfl)
    (case xlX4I => first | k_is | rfl | kernel_rfl)
    (case xtX4I => first | kernel_rfl | rfl | k_is)
    (case xsX4I => first | k_is | rfl | kernel_rfl)
    (case xbX4I => first | k_is | rfl | kernel_rfl)
    (case xyX4I => first | k_is | rfl | kernel_rfl)
    (case xkX4I => first | k_is | rfl | kernel_rfl)
    (case aX4I => first | k_is | rfl | kernel_rfl)
    (case iX4I => first | k_is | rfl | kernel_rfl)
    (case lX4I => first | k_is | rfl | kernel_rfl)
    (case cX4I => first | k_is | rfl | kernel_rfl)
    (case kX4I => first | k_is | rfl | kernel_rfl)
    (case xfX4I => first | k_is | rfl | kernel_rfl)
    (case xlX6I => first | k_is | rfl | kernel_rfl)
    (case xtX6I => first | kernel_rfl | rfl | k_is)
    (case xsX6I => first | k_is | rfl | kernel_rfl)
    (case xbX6I => first | k_is | rfl | kernel_rfl)
    (case xyX6I => first | k_is | rfl | kernel_rfl)
    (case xkX6I => first | k_is | rfl | kernel_rfl)
    (case aX6I => first | k_is | rfl | kernel_rfl)
    (case iX6I => first | k_is | rfl | kernel_rfl)
    (case lX6I => first | k_is | rfl | kernel_rfl)
    (case cX6I => first | k_is | rfl | kernel_rfl)
    (case kX6I => first | k_is | rfl | kernel_rfl)
    (case xfX6I => first | k_is | rfl | kernel_rfl)
    (case xlX7I => first | k_is | rfl | kernel_rfl)
    (case xtX7I => first | kernel_rfl | rfl | k_is)
    (case xsX7I => first | k_is | rfl | kernel_rfl)
    (case xbX7I => first | k_is | rfl | kernel_rfl)
    (case xyX7I => first | k_is | rfl | kernel_rfl)
    (case xkX7I => first | k_is | rfl | kernel_rfl)
    (case aX7I => first | k_is | rfl | kernel_rfl)
    (case iX7I => first | k_is | rfl | kernel_rfl)
    (case lX7I => first | k_is | rfl | kernel_rfl)
    (case cX7I => first | k_is | rfl | kernel_rfl)
    (case kX7I => first | k_is | rfl | kernel_rfl)
    (case xfX7I => first | k_is | rfl | kernel_rfl)
    (case xlX8I => first | k_is | rfl | kernel_rfl)
    (case xtX8I => first | kernel_rfl | rfl | k_is)
    (case xsX8I => first | k_is | rfl | kernel_rfl)
    (case xbX8I => first | k_is | rfl | kernel_rfl)
    (case xyX8I => first | k_is | rfl | kernel_rfl)
    (case xkX8I => first | k_is | rfl | kernel_rfl)
    (case aX8I => first | k_is | rfl | kernel_rfl)
    (case iX8I => first | k_is | rfl | kernel_rfl)
    (case lX8I => first | k_is | rfl | kernel_rfl)
    (case cX8I => first | k_is | rfl | kernel_rfl)
    (case kX8I => first | k_is | rfl | kernel_rfl)
    (case xfX8I => first | k_is | rfl | kernel_rfl)
    (case z_int => first | k_is | rfl | kernel_rfl)
    (case z_len => first | k_is | rfl | kernel_rfl)
    (case z_range => first | k_is | rfl | kernel_rfl)
    (case z_enumerate => first | k_is | rfl | kernel_rfl)
    (case z_list => first | k_is | rfl | kernel_rfl)
    (case z_tuple => first | k_is | rfl | kernel_rfl)
    (case z_isinstance => first | k_is | rfl | kernel_rfl)
    (case z_ValueError => first | k_is | rfl | kernel_rfl)
    (case z_zip => first | k_is | rfl | kernel_rfl)
    (case z_abs => first | k_is | rfl | kernel_rfl)
    (case z_repr => first | k_is | rfl | kernel_rfl)
    (case z_set => first | k_is | rfl | kernel_rfl)
    (case z_max => first | k_is | rfl | kernel_rfl)
    (case z_bool => first | k_is | rfl | kernel_rfl)
    (case z_OverflowError => first | k_is | rfl | kernel_rfl)
    (case z_all => first | k_is | rfl | kernel_rfl)
    (case z_str => first | k_is | rfl | kernel_rfl)
    (case z_sorted => first | k_is | rfl | kernel_rfl)
    (case z_sum => first | k_is | rfl | kernel_rfl)
    (case z_min => first | k_is | rfl | kernel_rfl)
    (case aFig => first | k_is | rfl | kernel_rfl)
    (case aMW => first | k_is | rfl | kernel_rfl)
    (case rne => first | k_is | rfl | kernel_rfl)
    (case aMixed => first | k_is | rfl | kernel_rfl)
    (case lMixed => first | k_is | rfl | kernel_rfl)
    (case cMixed => first | k_is | rfl | kernel_rfl)
    (case kMixed => first | k_is | rfl | kernel_rfl)
    (case aFolded => first | k_is | rfl | kernel_rfl)
    (case lFolded => first | k_is | rfl | kernel_rfl)
    (case cFolded => first | k_is | rfl | kernel_rfl)
    (case kFolded => first | k_is | rfl | kernel_rfl)
    (case aDraw => first | k_is | rfl | kernel_rfl)
    (case lDraw => first | k_is | rfl | kernel_rfl)
    (case cDraw => first | k_is | rfl | kernel_rfl)
    (case kDraw => first | k_is | rfl | kernel_rfl)
    (case aBegun => first | k_is | rfl | kernel_rfl)
    (case lBegun => first | k_is | rfl | kernel_rfl)
    (case cBegun => first | k_is | rfl | kernel_rfl)
    (case kBegun => first | k_is | rfl | kernel_rfl)
    (case aLTurn => first | k_is | rfl | kernel_rfl)
    (case lLTurn => first | k_is | rfl | kernel_rfl)
    (case cLTurn => first | k_is | rfl | kernel_rfl)
    (case kLTurn => first | k_is | rfl | kernel_rfl)
    (case aRow => first | k_is | rfl | kernel_rfl)
    (case lRow => first | k_is | rfl | kernel_rfl)
    (case cRow => first | k_is | rfl | kernel_rfl)
    (case kRow => first | k_is | rfl | kernel_rfl)
    (case aIsR => first | k_is | rfl | kernel_rfl)
    (case lIsR => first | k_is | rfl | kernel_rfl)
    (case cIsR => first | k_is | rfl | kernel_rfl)
    (case kIsR => first | k_is | rfl | kernel_rfl)
    (case aClass => first | k_is | rfl | kernel_rfl)
    (case lClass => first | k_is | rfl | kernel_rfl)
    (case cClass => first | k_is | rfl | kernel_rfl)
    (case kClass => first | k_is | rfl | kernel_rfl)
    (case aTold => first | k_is | rfl | kernel_rfl)
    (case lTold => first | k_is | rfl | kernel_rfl)
    (case cTold => first | k_is | rfl | kernel_rfl)
    (case kTold => first | k_is | rfl | kernel_rfl)
    (case aPairs => first | k_is | rfl | kernel_rfl)
    (case lPairs => first | k_is | rfl | kernel_rfl)
    (case cPairs => first | k_is | rfl | kernel_rfl)
    (case kPairs => first | k_is | rfl | kernel_rfl)
    (case aRight => first | k_is | rfl | kernel_rfl)
    (case lRight => first | k_is | rfl | kernel_rfl)
    (case cRight_ => first | k_is | rfl | kernel_rfl)
    (case kRight => first | k_is | rfl | kernel_rfl)
    (case aLaw => first | k_is | rfl | kernel_rfl)
    (case lLaw => first | k_is | rfl | kernel_rfl)
    (case cLaw_ => first | k_is | rfl | kernel_rfl)
    (case kLaw => first | k_is | rfl | kernel_rfl)
    (case aWhole => first | k_is | rfl | kernel_rfl)
    (case lWhole => first | k_is | rfl | kernel_rfl)
    (case cWhole => first | k_is | rfl | kernel_rfl)
    (case kWhole => first | k_is | rfl | kernel_rfl)
    (case aFault => first | k_is | rfl | kernel_rfl)
    (case lFault => first | k_is | rfl | kernel_rfl)
    (case cFault => first | k_is | rfl | kernel_rfl)
    (case kFault => first | k_is | rfl | kernel_rfl)
    (case aPair => first | k_is | rfl | kernel_rfl)
    (case lPair => first | k_is | rfl | kernel_rfl)
    (case cPair => first | k_is | rfl | kernel_rfl)
    (case kPair => first | k_is | rfl | kernel_rfl)
    (case aStretch => first | k_is | rfl | kernel_rfl)
    (case lStretch => first | k_is | rfl | kernel_rfl)
    (case cStretch => first | k_is | rfl | kernel_rfl)
    (case kStretch => first | k_is | rfl | kernel_rfl)
    (case aRowTxt => first | k_is | rfl | kernel_rfl)
    (case lRowTxt => first | k_is | rfl | kernel_rfl)
    (case cRowTxt => first | k_is | rfl | kernel_rfl)
    (case kRowTxt => first | k_is | rfl | kernel_rfl)
    (case aTT => first | k_is | rfl | kernel_rfl)
    (case lTT => first | k_is | rfl | kernel_rfl)
    (case cTT => first | k_is | rfl | kernel_rfl)
    (case kTT => first | k_is | rfl | kernel_rfl)
    (case aIsFig => first | k_is | rfl | kernel_rfl)
    (case lIsFig => first | k_is | rfl | kernel_rfl)
    (case cIsFig => first | k_is | rfl | kernel_rfl)
    (case kIsFig => first | k_is | rfl | kernel_rfl)
    (case aBSign => first | k_is | rfl | kernel_rfl)
    (case lBSign => first | k_is | rfl | kernel_rfl)
    (case cBSign => first | k_is | rfl | kernel_rfl)
    (case kBSign => first | k_is | rfl | kernel_rfl)
    (case aBNum => first | k_is | rfl | kernel_rfl)
    (case lBNum => first | k_is | rfl | kernel_rfl)
    (case cBNum => first | k_is | rfl | kernel_rfl)
    (case kBNum => first | k_is | rfl | kernel_rfl)
    (case aBPl => first | k_is | rfl | kernel_rfl)
    (case lBPl => first | k_is | rfl | kernel_rfl)
    (case cBPl => first | k_is | rfl | kernel_rfl)
    (case kBPl => first | k_is | rfl | kernel_rfl)
    (case aTFrom => first | k_is | rfl | kernel_rfl)
    (case lTFrom => first | k_is | rfl | kernel_rfl)
    (case cTFrom => first | k_is | rfl | kernel_rfl)
    (case kTFrom => first | k_is | rfl | kernel_rfl)
    (case aRdRow => first | k_is | rfl | kernel_rfl)
    (case lRdRow => first | k_is | rfl | kernel_rfl)
    (case cRdRow => first | k_is | rfl | kernel_rfl)
    (case kRdRow => first | k_is | rfl | kernel_rfl)
    (case aRdTurns => first | k_is | rfl | kernel_rfl)
    (case lRdTurns => first | k_is | rfl | kernel_rfl)
    (case cRdTurns => first | k_is | rfl | kernel_rfl)
    (case kRdTurns => first | k_is | rfl | kernel_rfl)
    (case aRI => first | k_is | rfl | kernel_rfl)
    (case iRI => first | k_is | rfl | kernel_rfl)
    (case lRI => first | k_is | rfl | kernel_rfl)
    (case cRI => first | k_is | rfl | kernel_rfl)
    (case kRI => first | k_is | rfl | kernel_rfl)
    (case aREq => first | k_is | rfl | kernel_rfl)
    (case iREq => first | k_is | rfl | kernel_rfl)
    (case lREq => first | k_is | rfl | kernel_rfl)
    (case cREq => first | k_is | rfl | kernel_rfl)
    (case kREq => first | k_is | rfl | kernel_rfl)
    (case upLaw => exact rfl)
    (case npLaw => first | rfl | kernel_rfl)
    (case tpLaw => exact TO _ "law" _ _ rfl (by kernel_rfl))
    (case upRight => exact rfl)
    (case npRight => first | rfl | kernel_rfl)
    (case tpRight => exact TO _ "_law_right" _ _ rfl (by kernel_rfl))
    (case d01 => decide)
#print axioms PySem.Challenge.cw_faceabout_k70_texts_written_and_read_holds
