import PyProof.Rows.All
import Wide.All
import OpenK.AllK
import Wide.FinOn
import HandS.ForMost
import HandS.Evl
import HandS.TupAny
import HandS.Style
import HandS.Conv
import HandS.Walk
import HandS.Lambda
import HandS.EndTab
import HandS.ExcInit
import KE.KExcInit
import KE.KTryMore
import HandS.TryOnly
import HandS.ExcIs
import HandS.ExcField
import HandS.IsInst
import KE.GoesEnum
import KE.GoesMore
import HandS.OwnEq
import HandS.Strs
import HandS.WordsExc
import HandS.ExcValue
import KE.KDflt
import PyProof.CodeObjX
import HandS.Finally
import HandS.HotCalls
import HandS.Words
import HandS.ExcOwn
import HandS.TupMul
import KE.KeyNested
import HandS.Flow
import HandS.DictComp
import HandS.Deep
import HandS.Property
import HandS.Zip
import PyProof.EqAt
import PyProof.EqKinds
import PyProof.NeKinds
import HandS.FStr
import PySem.Challenge.RW_faceabout_k75_turnings_all_or_none_and_t
set_option Elab.async false
set_option linter.all false
set_option maxRecDepth 100000
set_option maxHeartbeats 4000000
namespace Fab
open PySem L2
theorem peI {X : Cx} {e : Expr} {t t' : TE} (he : PE X e t) (h : ∀ σ H Q, t' σ H Q → t σ H Q) : PE X e t' := ⟨fun pins s σ H Q I q => he.run pins s σ H Q I (h σ H Q q)⟩
theorem psI {X : Cx} {e : Stmt} {t t' : TS} (he : PS X e t) (h : ∀ D σ H, t' D σ H → t D σ H) : PS X e t' := ⟨fun pins s σ H D I q => he.run pins s σ H D I (h D σ H q)⟩
theorem opI' {X : Cx} {f : Value → Value → Sem Value} {r r' : R2} (ho : OpR X f r) (h : ∀ x y H Q, r' x y H Q → r x y H Q) : OpR X f r' := fun pins s σ H x y v u Q I rx ry q => ho pins s σ H x y v u Q I rx ry (h x y H Q q)
theorem clI {X : Cx} {f : Value} {r r' : List V → Hp → VK → Prop} (ho : CallR X f r) (h : ∀ xs H Q, r' xs H Q → r xs H Q) : CallR X f r' := fun pins s σ H xs us Q I rx q => ho pins s σ H xs us Q I rx (h xs H Q q)
theorem ixI {X : Cx} {r r' : R2} (ho : IxR X r) (h : ∀ x y H Q, r' x y H Q → r x y H Q) : IxR X r' := fun value slice pins s σ H x y v u Q I rx ry q => ho value slice pins s σ H x y v u Q I rx ry (h x y H Q q)
theorem slI {X : Cx} {r r' : V → Option Int → Option Int → Hp → VK → Prop} (ho : SlR X r) (h : ∀ x lo hi H Q, r' x lo hi H Q → r x lo hi H Q) : SlR X r' := fun pins s σ H x v vl vu lo hi sl Q I rx hs pl pu q => ho pins s σ H x v vl vu lo hi sl Q I rx hs pl pu (h x lo hi H Q q)
def newAt (H : Hp) (o : HO) (k : Addr → Hp → Prop) : Prop := ∀ p, H p = none → k p (upd H p o)
def setAt (H : Hp) (a : Addr) (o : HO) (k : Hp → Prop) : Prop := k (upd H a o)
/-- a tuple, new or one that stands -/
def newTup (H : Hp) (xs : List V) (k : Addr → Hp → Prop) : Prop := ∀ p H', (H' = H ∨ (H p = none ∧ H' = upd H p (.tup xs))) → H' p = some (.tup xs) → k p H'
theorem newTup.mk {H : Hp} {xs : List V} {k : Addr → Hp → Prop} (h : newTup H xs k) : ∀ p, H p = none → k p (upd H p (.tup xs)) := fun p hp => h p _ (.inr ⟨hp, rfl⟩) upd_same
theorem newTup.old {H : Hp} {xs : List V} {k : Addr → Hp → Prop} (h : newTup H xs k) {p : Addr} (hp : H p = some (.tup xs)) : k p H := h p _ (.inl rfl) hp
/-- the items of a list, of a tuple -/
def sq : HO → Option (List V)
  | .lst xs => some xs
  | .tup xs => some xs
  | .frz _ (.lst xs) => some xs
  | _ => none
theorem sq_or {K : PySem.W.Frag} {H : Hp} {p : Addr} {o : HO} {xs : List V} (h : H p = some o) (hs : sq o = some xs) : SqL K H p xs ∨ SqT K H p xs := by
  cases o with
  | lst ys =>
    cases hs
    exact .inl (SqL.of h)
  | tup ys =>
    cases hs
    exact .inr (SqT.of h)
  | frz ob u =>
    cases u with
    | lst ys =>
      cases hs
      exact .inl (.inl (.inr ⟨_, h⟩))
    | _ => cases hs
  | _ => cases hs
structure VW (H0 H : Hp) (L : List (Addr × HO)) (T : List (Addr × List V)) : Prop where
  at_ : ∀ p ∈ L, H p.1 = some p.2
  nd : (L.map (·.1)).Nodup
  own : ∀ p ∈ L, H0 p.1 = none
  fr : ∀ a o, H0 a = some o → H a = some o
  tu : ∀ p ∈ T, H p.1 = some (.tup p.2)
section
variable {H0 H H' : Hp} {L : List (Addr × HO)} {T : List (Addr × List V)} {o : HO} {a : Addr} {xs : List V}
theorem VW.start : VW H H [] [] := ⟨(fun _ h => nomatch h), List.nodup_nil, (fun _ h => nomatch h), (fun _ _ h => h), (fun _ h => nomatch h)⟩
theorem VW.push (v : VW H0 H L T) {p : Addr} (hp : H p = none) : VW H0 (upd H p o) ((p, o) :: L) T := by
  have n0 : H0 p = none := by
    cases e : H0 p with
    | none => rfl
    | some u =>
      have := v.fr p u e
      rw [hp] at this
      cases this
  have nl : ∀ q ∈ L, q.1 ≠ p := fun q hq z => by
    have := v.at_ q hq
    rw [z, hp] at this
    cases this
  refine ⟨fun q hq => ?_, ?_, fun q hq => ?_, fun b u hb => ?_, fun q hq => ?_⟩
  · rcases List.mem_cons.mp hq with rfl | hq
    · exact upd_same
    · rw [upd_ne (nl q hq)]
      exact v.at_ q hq
  · rw [List.map_cons, List.nodup_cons]
    refine ⟨fun hm => ?_, v.nd⟩
    obtain ⟨q, hq, e⟩ := List.mem_map.mp hm
    exact nl q hq e
  · rcases List.mem_cons.mp hq with rfl | hq
    · exact n0
    · exact v.own q hq
  · rw [upd_ne (ne_of_none hb n0)]
    exact v.fr b u hb
  · have h := v.tu q hq
    rw [upd_ne (ne_of_none h hp)]
    exact h
theorem VW.tuple (v : VW H0 H L T) {p : Addr} (h : H' = H ∨ (H p = none ∧ H' = upd H p (.tup xs))) (hp : H' p = some (.tup xs)) : VW H0 H' L ((p, xs) :: T) := by
  rcases h with rfl | ⟨hn, rfl⟩
  · exact ⟨v.at_, v.nd, v.own, v.fr, fun q hq => by
      rcases List.mem_cons.mp hq with rfl | hq
      · exact hp
      · exact v.tu q hq⟩
  · have w := v.push (o := .tup xs) hn
    exact ⟨fun q hq => w.at_ q (List.mem_cons_of_mem _ hq), v.nd, v.own, w.fr, fun q hq => by
      rcases List.mem_cons.mp hq with rfl | hq
      · exact hp
      · exact w.tu q hq⟩
def noTup : HO → Bool
  | .tup _ => false
  | _ => true
theorem VW.put (v : VW H0 H L T) (i : Nat) {o0 : HO} (hi : L[i]? = some (a, o0)) (hn : noTup o0 = true) : VW H0 (upd H a o) (L.set i (a, o)) T := by
  have hm : (a, o0) ∈ L := List.mem_of_getElem? hi
  have h0 := v.at_ _ hm
  have hlt : i < L.length := (List.getElem?_eq_some_iff.mp hi).1
  have hmap : (L.set i (a, o)).map (·.1) = L.map (·.1) := by
    apply List.ext_getElem?
    intro j
    rw [List.map_set]
    by_cases hj : i = j
    · subst hj
      rw [List.getElem?_set_self (by simpa using hlt), List.getElem?_map, hi]
      rfl
    · rw [List.getElem?_set_ne hj]
  have hnd : ((L.set i (a, o)).map (·.1)).Nodup := by rw [hmap]; exact v.nd
  refine ⟨fun q hq => ?_, hnd, fun q hq => ?_, fun b u hb => ?_, fun q hq => ?_⟩
  · obtain ⟨j, hj⟩ := List.getElem?_of_mem hq
    by_cases e : i = j
    · subst e
      rw [List.getElem?_set_self hlt] at hj
      cases hj
      exact upd_same
    · rw [List.getElem?_set_ne e] at hj
      have hq' := List.mem_of_getElem? hj
      have ne : q.1 ≠ a := fun z => by
        have n1 : (L.map (·.1))[i]? = some a := by rw [List.getElem?_map, hi]; rfl
        have n2 : (L.map (·.1))[j]? = some a := by rw [List.getElem?_map, hj, ← z]; rfl
        obtain ⟨l1, e1⟩ := List.getElem?_eq_some_iff.mp n1
        obtain ⟨l2, e2⟩ := List.getElem?_eq_some_iff.mp n2
        exact e ((List.getElem_inj v.nd).mp (e1.trans e2.symm))
      rw [upd_ne ne]
      exact v.at_ q hq'
  · have : q.1 ∈ (L.set i (a, o)).map (·.1) := List.mem_map_of_mem hq
    rw [hmap] at this
    obtain ⟨r, hr, e⟩ := List.mem_map.mp this
    rw [← e]
    exact v.own r hr
  · rw [upd_ne (ne_of_none hb (v.own _ hm))]
    exact v.fr b u hb
  · have h := v.tu q hq
    have ne : q.1 ≠ a := fun z => by
      rw [z, h0] at h
      have := Option.some.inj h
      subst this
      cases hn
    rw [upd_ne ne]
    exact h
theorem VW.drop (v : VW H0 H L T) {L' : List (Addr × HO)} {T' : List (Addr × List V)} (hL : L'.Sublist L) (hT : ∀ p ∈ T', p ∈ T) : VW H0 H L' T' :=
  ⟨fun p hp => v.at_ p (hL.subset hp), (hL.map _).nodup v.nd, fun p hp => v.own p (hL.subset hp), v.fr, fun p hp => v.tu p (hT p hp)⟩
/-- what is known, in one row -/
def factsT (H : Hp) : List (Addr × List V) → Prop
  | [] => True
  | p :: T => H p.1 = some (.tup p.2) ∧ factsT H T
def facts (H : Hp) (T : List (Addr × List V)) : List (Addr × HO) → Prop
  | [] => factsT H T
  | p :: L => H p.1 = some p.2 ∧ facts H T L
theorem factsT_of (H : Hp) : ∀ (T : List (Addr × List V)), (∀ p ∈ T, H p.1 = some (.tup p.2)) → factsT H T
  | [], _ => True.intro
  | p :: T, h => ⟨h p List.mem_cons_self, factsT_of H T (fun q hq => h q (List.mem_cons_of_mem _ hq))⟩
theorem facts_of (H : Hp) (T : List (Addr × List V)) (hT : ∀ p ∈ T, H p.1 = some (.tup p.2)) : ∀ (L : List (Addr × HO)), (∀ p ∈ L, H p.1 = some p.2) → facts H T L
  | [], _ => factsT_of H T hT
  | p :: L, h => ⟨h p List.mem_cons_self, facts_of H T hT L (fun q hq => h q (List.mem_cons_of_mem _ hq))⟩
theorem VW.facts (v : VW H0 H L T) : facts H T L := facts_of H T v.tu L v.at_
theorem view_new {k : Addr → Hp → Prop} (v : VW H0 H L T) (h : ∀ p H', VW H0 H' ((p, o) :: L) T → k p H') : newAt H o k := fun p hp => h p _ (v.push hp)
theorem view_set {k : Hp → Prop} (v : VW H0 H L T) (i : Nat) {o0 : HO} (hi : L[i]? = some (a, o0)) (hn : noTup o0 = true) (h : ∀ H', VW H0 H' (L.set i (a, o)) T → k H') : setAt H a o k := h _ (v.put i hi hn)
theorem view_tup {k : Addr → Hp → Prop} (v : VW H0 H L T) (h : ∀ p H', VW H0 H' L ((p, xs) :: T) → k p H') : newTup H xs k := fun p _ e hp => h p _ (v.tuple e hp)
end
section
variable {X : Cx}
def rIxF : R2 := fun x y H Q => ∃ p i, x = .ref p ∧ y = .int i ∧ ∃ o, H p = some o ∧ ∃ xs, sq o = some xs ∧ ∃ v, atI xs i = some v ∧ Q v H
theorem ixF : IxR X rIxF := ixI ix_seq fun x y H Q ⟨p, i, hx, hy, o, ho, xs, hs, v, hv, q⟩ => by
  rcases sq_or (K := X.K) ho hs with h | h
  · exact .inl ⟨p, xs, i, v, hx, hy, h, hv, q⟩
  · exact .inr (.inl ⟨p, xs, i, v, hx, hy, h, hv, q⟩)
def rLenF : List V → Hp → VK → Prop := fun vs H Q => ∃ p, vs = [.ref p] ∧ ∃ o, H p = some o ∧ ∃ xs, sq o = some xs ∧ Q (.int (xs.length : Int)) H
theorem lenF : CallR X (.builtin "len") rLenF := clI call_len_seq fun vs H Q ⟨p, e, o, ho, xs, hs, q⟩ => ⟨p, xs, e, sq_or ho hs, q⟩
def rIntF : List V → Hp → VK → Prop := fun vs H Q => ∃ i, vs = [.int i] ∧ Q (.int i) H
theorem intF : CallR X (.type "int") rIntF := clI call_int1 fun vs H Q ⟨i, e, q⟩ => .inl ⟨i, e, q⟩
def rListF : List V → Hp → VK → Prop := fun vs H Q => ∃ p, vs = [.ref p] ∧ ∃ o, H p = some o ∧ ∃ xs, sq o = some xs ∧ newAt H (.lst xs) fun l H' => Q (.ref l) H'
theorem listF : CallR X (.type "list") rListF := clI call_list_of fun vs H Q ⟨p, e, o, ho, xs, hs, q⟩ => ⟨p, xs, e, sq_or ho hs, q⟩
def rTupF : List V → Hp → VK → Prop := fun vs H Q => ∃ p, vs = [.ref p] ∧ ∃ o, H p = some o ∧ ∃ xs, sq o = some xs ∧ newTup H xs fun l H' => Q (.ref l) H'
theorem tupF : CallR X (.type "tuple") rTupF := clI call_tuple_of fun vs H Q ⟨p, e, o, ho, xs, hs, q⟩ => by
  refine ⟨p, xs, e, ?_⟩
  cases o with
  | lst ys =>
    cases hs
    exact .inl ⟨SqL.of ho, q.mk⟩
  | tup ys =>
    cases hs
    exact .inr ⟨SqT.of ho, q.old ho⟩
  | frz ob u =>
    cases u with
    | lst ys =>
      cases hs
      exact .inl ⟨.inl (.inr ⟨_, ho⟩), q.mk⟩
    | _ => cases hs
  | _ => cases hs
def rSlF : V → Option Int → Option Int → Hp → VK → Prop := fun x lo hi H Q => ∃ a, x = .ref a ∧ ∃ xs, H a = some (.lst xs) ∧ newAt H (.lst (cutV xs lo hi)) fun p H' => Q (.ref p) H'
theorem slF : SlR X rSlF := slI sl_list fun x lo hi H Q ⟨a, e, xs, h, q⟩ => ⟨a, xs, e, SqL.of h, q⟩
theorem cut_whole {xs : List V} {lo hi : Option Int} (h : HT.sIx xs.length 0 lo = 0 ∧ HT.sIx xs.length xs.length hi = xs.length) : cutV xs lo hi = xs := by
  unfold cutV
  rw [h.1, h.2]
  simp
def rSlTF : V → Option Int → Option Int → Hp → VK → Prop := fun x lo hi H Q => ∃ a, x = .ref a ∧ ∃ xs, H a = some (.tup xs) ∧ newTup H (cutV xs lo hi) fun p H' => Q (.ref p) H'
theorem slTF : SlR X rSlTF := slI sl_tupA fun x lo hi H Q ⟨a, e, xs, h, q⟩ => ⟨a, xs, e, SqT.of h, fun hw => q.old (by rw [cut_whole hw]; exact h), fun _ => q.mk⟩
def rCatF : R2 := fun x y H Q => ∃ l b, x = .ref l ∧ y = .ref b ∧ ∃ xs, H l = some (.lst xs) ∧ ∃ zs, H b = some (.lst zs) ∧ xs.length + zs.length ≤ sizeLine ∧ newAt H (.lst (xs ++ zs)) fun p H' => Q (.ref p) H'
theorem catF : OpR X (binaryOp .Add) rCatF := opI' op_cat fun x y H Q ⟨l, b, e1, e2, xs, h1, zs, h2, hz, q⟩ => ⟨l, b, xs, zs, e1, e2, h1, h2, hz, q⟩
def rCatTF : R2 := fun x y H Q => ∃ l b, x = .ref l ∧ y = .ref b ∧ ∃ xs, H l = some (.tup xs) ∧ ∃ zs, H b = some (.tup zs) ∧ xs.length + zs.length ≤ sizeLine ∧ newTup H (xs ++ zs) fun p H' => Q (.ref p) H'
theorem catTF : OpR X (binaryOp .Add) rCatTF := opI' op_catA fun x y H Q ⟨l, b, e1, e2, xs, h1, zs, h2, hz, q⟩ => ⟨l, b, xs, zs, e1, e2, SqT.of h1, SqT.of h2, hz,
  fun e => q.old (by rw [e]; exact h2), fun _ e => q.old (by rw [e, List.append_nil]; exact h1), fun _ _ => q.mk⟩
def rInF : R2 := fun x y H Q => ∃ p, y = .ref p ∧ ∃ o, H p = some o ∧ ∃ xs, sq o = some xs ∧ flatV x = true ∧ xs.all flatV = true ∧ Q (.bl (inV x xs)) H
theorem inF : OpR X (compareOp .In) rInF := opI' op_in_seq fun x y H Q ⟨p, e, o, ho, xs, hs, h1, h2, q⟩ => ⟨p, xs, e, sq_or ho hs, h1, h2, q⟩
/-- a reading, what is wanted behind it weakened -/
def mon (t : TE) : TE := fun σ H Q => ∃ Q0 : VK, t σ H Q0 ∧ ∀ v H', Q0 v H' → Q v H'
theorem pe_mon {e : Expr} {t : TE} (h : PE X e t) : PE X e (mon t) := ⟨fun pins s σ H Q I ⟨Q0, q, k⟩ => thn (h.run pins s σ H Q0 I q) fun _ _ ⟨v, H', I', r, q'⟩ => ⟨v, H', I', r, k v H' q'⟩⟩
def monA (t : TA) : TA := fun σ H Q => ∃ Q0 : List V → Hp → Prop, t σ H Q0 ∧ ∀ v H', Q0 v H' → Q v H'
theorem pa_mon {es : List Expr} {t : TA} (h : PA X es t) : PA X es (monA t) := ⟨fun pos pins s σ H Q I ⟨Q0, q, k⟩ => thn (h.run pos pins s σ H Q0 I q) fun _ _ ⟨v, H', I', r, q'⟩ => ⟨v, H', I', r, k v H' q'⟩⟩
theorem mon_of {t : TE} {σ : St} {H : Hp} {Q Q' : VK} (q : t σ H Q) (k : ∀ v H', Q v H' → Q' v H') : mon t σ H Q' := ⟨Q, q, k⟩
theorem monA_of {t : TA} {σ : St} {H : Hp} {Q Q' : List V → Hp → Prop} (q : t σ H Q) (k : ∀ v H', Q v H' → Q' v H') : monA t σ H Q' := ⟨Q, q, k⟩
def tTupF (t : TA) : TE := fun σ H Q => t σ H fun xs H1 => xs.length ≤ sizeLine ∧ newTup H1 xs fun p H' => Q (.ref p) H'
def tLstF (t : TA) : TE := fun σ H Q => t σ H fun xs H1 => xs.length ≤ sizeLine ∧ newAt H1 (.lst xs) fun p H' => Q (.ref p) H'
theorem pe_lstF {es : List Expr} {pos : Pos} {t : TA} (h : PA X es t) : PE X (.List es pos) (tLstF t) := peI (pe_lst (pa_mon h)) fun _ _ _ q => monA_of q fun _ _ q => q
theorem pe_tupF {es : List Expr} {x1} {pos : Pos} {t : TA} (h : PA X es t) : PE X (.Tuple es x1 pos) (tTupF t) := peI (pe_tup (pa_mon h)) fun _ _ _ q => monA_of q fun _ _ ⟨z, q⟩ => ⟨z, q.mk⟩
def tRevF (te : TE) : TE := fun σ H Q => te σ H fun x H1 => ∃ a, x = .ref a ∧ ∃ xs, H1 a = some (.lst xs) ∧ newAt H1 (.lst xs.reverse) fun p H' => Q (.ref p) H'
theorem pe_revF {e : Expr} {te : TE} {k : Nat} {p1 p2 p3 pos : Pos} (he : PE X e te) : PE X (.Subscript e (.Slice none none (some (.UnaryOp .USub (.Constant (.int 1) k p1) p2)) p3) pos) (tRevF te) :=
  peI (pe_revL (pe_mon he)) fun _ _ _ q => mon_of q fun _ _ ⟨a, e, xs, h, q⟩ => ⟨a, xs, e, SqL.of h, q⟩
/-- a method of a list -/
def tLM (r : V → List V → Hp → VK → Prop) (to : TE) (t : TA) : TE := fun σ H Q => to σ H fun x H1 => ∃ p, x = .ref p ∧ ∃ xs, H1 p = some (.lst xs) ∧ t σ H1 fun vs H2 => r x vs H2 Q
def rAppF : V → List V → Hp → VK → Prop := fun x vs H Q => ∃ l y, x = .ref l ∧ vs = [y] ∧ ∃ xs, H l = some (.lst xs) ∧ xs.length < sizeLine ∧ setAt H l (.lst (xs ++ [y])) fun H' => Q .non H'
theorem appF : MtR X "list.append" rAppF := fun pins s σ H x xs v us Q I rx rxs ⟨l, y, e1, e2, zs, h, hz, q⟩ => mt_append pins s σ H x xs v us Q I rx rxs ⟨l, zs, y, e1, e2, h, hz, q⟩
def rPopF : V → List V → Hp → VK → Prop := fun x vs H Q => ∃ l i, x = .ref l ∧ vs = [.int i] ∧ ∃ xs, H l = some (.lst xs) ∧ -(2 ^ 63) ≤ i ∧ i < 2 ^ 63 ∧ ∃ k, seqIndex? i xs.length = some k ∧ ∃ y, xs[k]? = some y ∧ setAt H l (.lst (xs.eraseIdx k)) fun H' => Q y H'
theorem tLM_of {K : PySem.W.Frag} {r : V → List V → Hp → VK → Prop} {to : TE} {t : TA} {σ : St} {H : Hp} {Q : VK} (q : tLM r to t σ H Q) : tBM K "list" r (mon to) t σ H Q :=
  mon_of q fun _ _ ⟨_, e, xs, h, q⟩ => by
    subst e
    exact ⟨.inl ⟨rfl, xs, SqL.of h⟩, q⟩
def keyOf : V → Option Key
  | .int i => some (Sum.inl i)
  | .str x => some (Sum.inr x)
  | _ => none
theorem keyOf_kV {y : V} {k : Key} (h : keyOf y = some k) : y = kV k := by
  cases y <;> cases h <;> rfl
def tDGetF (td ty : TE) : TE := fun σ H Q => td σ H fun x H1 => ty σ H1 fun y H2 => ∃ a, x = .ref a ∧ ∃ kvs, H2 a = some (.dK kvs) ∧ ∃ k, keyOf y = some k ∧ ∃ v, valV kvs k = some v ∧ Q v H2
theorem pe_dgetF {o i : Expr} {pos : Pos} {td ty : TE} (hu : X.A.units + 1 < cLine) (ho : PE X o td) (hi : PE X i ty) (hs : NoSl i) : PE X (.Subscript o i pos) (tDGetF td ty) :=
  peI (pe_dget hu (pe_mon ho) (pe_mon hi) hs) fun _ _ _ q => mon_of q fun _ _ q => mon_of q fun _ _ ⟨a, e, kvs, hk, k, hy, v, hv, q⟩ => ⟨a, v, e, .inl ⟨kvs, k, .inl hk, keyOf_kV hy, hv.symm⟩, q⟩
def sDPutF (td ty tv : TE) : TS := fun D σ H => tv σ H fun v H1 => td σ H1 fun x H2 => ty σ H2 fun y H3 => ∃ a, x = .ref a ∧ ∃ kvs, H3 a = some (.dK kvs) ∧ ∃ k, keyOf y = some k ∧ kvs.length < sizeLine ∧ setAt H3 a (.dK (putK kvs k v)) fun H4 => D.nx σ H4
theorem ps_dputF {o i value : Expr} {pos pos' : Pos} {td ty tv : TE} (hu : X.A.units + 1 < cLine) (ho : PE X o td) (hi : PE X i ty) (hv : PE X value tv) (hs : swapsWith value (some (.Subscript o i pos')) pos.line X.env = pure false := by rfl) :
    PS X (.Assign [.Subscript o i pos'] value pos) (sDPutF td ty tv) :=
  psI (ps_dput hu (pe_mon ho) (pe_mon hi) (pe_mon hv) hs) fun _ _ _ q => mon_of q fun _ _ q => mon_of q fun _ _ q => mon_of q fun _ _ ⟨a, e, kvs, hk, k, hy, hl, q⟩ => ⟨a, _, e, .inl ⟨kvs, k, hk, keyOf_kV hy, hl, rfl⟩, q⟩
def keysOf : List (V × V) → Option (List (Key × V))
  | [] => some []
  | (x, v) :: r => (keyOf x).bind fun k => (keysOf r).map fun l => (k, v) :: l
theorem keysOf_is : ∀ {ps : List (V × V)} {kvs : List (Key × V)}, keysOf ps = some kvs → ps = kvs.map (fun kv => (kV kv.1, kv.2))
  | [], kvs, h => by
    cases h
    rfl
  | (x, v) :: r, kvs, h => by
    unfold keysOf at h
    cases e : keyOf x with
    | none => rw [e] at h; cases h
    | some k =>
      cases e2 : keysOf r with
      | none => rw [e, e2] at h; cases h
      | some l =>
        rw [e, e2] at h
        cases h
        rw [keyOf_kV e, keysOf_is e2]
        rfl
theorem tPairs_mon : ∀ {trs : List (TE × TE)} {σ : St} {H : Hp} {Q Q' : List (V × V) → Hp → Prop}, tPairs trs σ H Q → (∀ v H', Q v H' → Q' v H') → tPairs (trs.map fun p => (mon p.1, mon p.2)) σ H Q'
  | [], _, _, _, _, q, k => k _ _ q
  | (a, b) :: r, _, _, _, _, q, k => mon_of q fun _ _ q => mon_of q fun _ _ q => tPairs_mon q fun _ _ q => k _ _ q
def tDispF (trs : List (TE × TE)) : TE := fun σ H Q => newAt H (.dK []) fun p H1 => tPairs trs σ H1 fun ps H2 => H2 p = some (.dK []) ∧ ∃ kvs, keysOf ps = some kvs ∧ kvs.length ≤ 15 ∧ setAt H2 p (.dK (mergeK [] kvs)) fun H3 => Q (.ref p) H3
inductive PPm (X : Cx) (pos : Pos) : List (Option Expr) → List Expr → List (TE × TE) → Prop
  | nil : PPm X pos [] [] []
  | cons {k v : Expr} {ks : List (Option Expr)} {vs : List Expr} {tk tv : TE} {trs : List (TE × TE)} (hk : PE X k tk) (hv : PE X v tv) (hr : PPm X pos ks vs trs) : PPm X pos (some k :: ks) (v :: vs) ((tk, tv) :: trs)
theorem PPm.to {pos : Pos} {ks : List (Option Expr)} {vs : List Expr} {trs : List (TE × TE)} (h : PPm X pos ks vs trs) : PPs X pos ks vs (trs.map fun p => (mon p.1, mon p.2)) := by
  induction h with
  | nil => exact pps_nil
  | cons hk hv _ ih => exact pps_cons (pe_mon hk) (pe_mon hv) ih
theorem pe_dispF {pos : Pos} {keys : List (Option Expr)} {values : List Expr} {trs : List (TE × TE)} (h : PPm X pos keys values trs) (hall : keys.all (·.isSome) = true) (hl : keys.length = values.length) (h0 : keys ≠ []) (h15 : keys.length ≤ 15) : PE X (.Dict keys values pos) (tDispF trs) :=
  peI (pe_disp h.to hall hl h0 h15) fun _ _ _ q p hp => tPairs_mon (q p hp) fun _ _ ⟨h1, kvs, h2, h3, q⟩ => ⟨h1, kvs, keysOf_is h2, h3, q⟩
def sFldF (K : PySem.W.Frag) (ta tv : TE) (f : Str) : TS := fun D σ H => tv σ H fun y H1 => ta σ H1 fun x H2 => ∃ a, x = .ref a ∧ ∃ C dx fs, H2 a = some (.ins C dx fs) ∧ Cls K C ∧ NoAttr K C f ∧ fs.length < 1000 ∧ setAt H2 a (.ins C dx (putF f y fs)) fun H3 => D.nx σ H3
theorem ps_fldF {o value : Expr} {f : Str} {pos pos' : Pos} {ta tv : TE} (ha : PE X o ta) (hv : PE X value tv) (hs : swapsWith value (some (.Attribute o f pos')) pos.line X.env = pure false := by rfl) : PS X (.Assign [.Attribute o f pos'] value pos) (sFldF X.K ta tv f) :=
  psI (ps_fld (pe_mon ha) (pe_mon hv) hs) fun _ _ _ q => mon_of q fun _ _ q => mon_of q fun _ _ ⟨a, e, C, dx, fs, h, h1, h2, h3, q⟩ => ⟨a, C, dx, fs, e, h, h1, h2, h3, q⟩
def tFldF (K : PySem.W.Frag) (ta : TE) (f : Str) : TE := fun σ H Q => ta σ H fun x H1 => ∃ a, x = .ref a ∧ ∃ C dx fs, H1 a = some (.ins C dx fs) ∧ Cls K C ∧ NoAttr K C f ∧ ∃ v, fs.lookup f = some v ∧ Q v H1
theorem pe_fldF {e : Expr} {f : Str} {pos : Pos} {ta : TE} (he : PE X e ta) (hb : attributeBase e f X.env (eval e X.env) = eval e X.env := by rfl) : PE X (.Attribute e f pos) (tFldF X.K ta f) :=
  peI (pe_fld (pe_mon he) hb) fun _ _ _ q => mon_of q fun _ _ ⟨a, e, C, dx, fs, h, h1, h2, v, hv, q⟩ => ⟨a, C, dx, fs, v, e, h, h1, h2, hv, q⟩
/-- xs[i] = e -/
def rSetF : TSet := fun o i v H Q => ∃ p k, o = .ref p ∧ i = .int k ∧ ∃ xs, H p = some (.lst xs) ∧ ∃ j, ixN xs.length k = some j ∧ setAt H p (.lst (xs.set j v)) Q
theorem setF : PSet X rSetF := fun pins s σ H o i v ov iv u Q I ro ri rv ⟨p, k, e1, e2, xs, h, j, hj, q⟩ => set_list pins s σ H o i v ov iv u Q I ro ri rv ⟨p, xs, k, j, e1, e2, h, hj, q⟩
end
theorem sz_le {n : Nat} (h : n ≤ 16777216) : n ≤ sizeLine := by rw [sizeLine_eq]; exact h
theorem sz_lt {n : Nat} (h : n < 16777216) : n < sizeLine := by rw [sizeLine_eq]; exact h
end Fab
set_option maxHeartbeats 4000000
namespace Fab
open PySem L2
def top (i : Nat) : Stmt := PySem.Challenge.pw_faceabout_k75_turnings_all_or_none_and_t.main.body.getD i (.Pass ⟨0, 0, 0, 0⟩)
abbrev sMixed : Stmt := top 64
abbrev sFolded : Stmt := top 65
abbrev sDraw : Stmt := top 66
abbrev sBegun : Stmt := top 67
/-- built-in names that stand as the boot leaves them -/
structure Blt (mg : Str → Option Value) : Prop where
  int : mg "int" = none
  len : mg "len" = none
  range : mg "range" = none
  enumerate : mg "enumerate" = none
  list : mg "list" = none
  tuple : mg "tuple" = none
  isinstance : mg "isinstance" = none
  valueError : mg "ValueError" = none
  zip : mg "zip" = none
  abs : mg "abs" = none
  repr : mg "repr" = none
  set : mg "set" = none
  max : mg "max" = none
  bool : mg "bool" = none
  overflowError : mg "OverflowError" = none
  all : mg "all" = none
  str : mg "str" = none
  sorted : mg "sorted" = none
  sum : mg "sum" = none
  min : mg "min" = none
/-- a def of the text, with its promise -/
structure Dn (P : Program) (w : World) (K : PySem.W.Frag) (mg : Str → Option Value) (base : Heap) (k : Nat) (x : Str) (f : Addr) (fd : FuncData) (ps : List Str) (sp : Sp) : Prop where
  ok : FnOk P w K mg base CX0 k f fd ps sp
  mgf : mg x = some (.ref f)
  kp : PySem.W.keepIn K (.ref f) = true
  bi : Binds K fd ps []
theorem sq_lst {xs : List V} : sq (.lst xs) = some xs := rfl
theorem sq_tup {xs : List V} : sq (.tup xs) = some xs := rfl
local macro_rules | `(tactic| walk_at "s") => `(tactic| simp [tSeq, tAsg, tOp, tUn, tVar, tC, gName, tCons, tNil, tCB, tCall, rI, rI0, rU, tRet, tDrop, tIfS, tNext, tIf, tTest, tB, L2.start, CMul, CDiv, tDGetF, sDPutF, keyOf, rIxF, rLenF, rIntF, sq_lst, sq_tup, tLstF, rSetF, gSub, tDispF, tPairs, keysOf])
def dm (c g : Addr) (n : Nat) : HO := .dK [(Sum.inr "cells", .ref c), (Sum.inr "great", .ref g), (Sum.inr "spot", .int (n : Int))]
/-- the state from which numbers are drawn -/
def drs (m c g : Addr) (cs gs : List Int) (n : Nat) : List (Addr × HO) := [(m, dm c g n), (c, .lst (cs.map V.int)), (g, .lst (gs.map V.int))]
theorem dm_cells {c g : Addr} {z : V} : valV [((Sum.inr "cells" : Key), V.ref c), (Sum.inr "great", .ref g), (Sum.inr "spot", z)] (Sum.inr "cells") = some (.ref c) := by kernel_rfl
theorem dm_great {c g : Addr} {z : V} : valV [((Sum.inr "cells" : Key), V.ref c), (Sum.inr "great", .ref g), (Sum.inr "spot", z)] (Sum.inr "great") = some (.ref g) := by kernel_rfl
theorem dm_spot {c g : Addr} {z : V} : valV [((Sum.inr "cells" : Key), V.ref c), (Sum.inr "great", .ref g), (Sum.inr "spot", z)] (Sum.inr "spot") = some z := by kernel_rfl
theorem dm_put {c g : Addr} {z y : V} : putK [((Sum.inr "cells" : Key), V.ref c), (Sum.inr "great", .ref g), (Sum.inr "spot", z)] (Sum.inr "spot") y = [((Sum.inr "cells" : Key), V.ref c), (Sum.inr "great", .ref g), (Sum.inr "spot", y)] := by kernel_rfl
theorem dm_put2 {c g y : Addr} {z : V} : putK [((Sum.inr "cells" : Key), V.ref c), (Sum.inr "great", .ref g), (Sum.inr "spot", z)] (Sum.inr "great") (.ref y) = [((Sum.inr "cells" : Key), V.ref c), (Sum.inr "great", .ref y), (Sum.inr "spot", z)] := by kernel_rfl
theorem atI_ints {ns : List Int} {i : Int} (h0 : 0 ≤ i) (h1 : i < ns.length) : ∃ z, z ∈ ns ∧ atI (ns.map V.int) i = some (.int z) := by
  have hl : i.toNat < ns.length := by omega
  refine ⟨ns[i.toNat], List.getElem_mem hl, ?_⟩
  unfold atI ixN
  rw [if_pos h0, if_pos (by rw [List.length_map]; exact h1)]
  simp [List.getElem?_eq_getElem hl]
theorem ixN_ints {n : Nat} {i : Int} (h0 : 0 ≤ i) (h1 : i < n) : ixN n i = some i.toNat := by
  unfold ixN
  rw [if_pos h0, if_pos h1]
theorem dp_ints {K : PySem.W.Frag} {H : Hp} : ∀ (ns : List Int), DpAll K H (ns.map V.int) (ns.map PyData.int)
  | [] => .nil
  | n :: r => .cons (.int n) (dp_ints r)
theorem shaped_ints (ns : List Int) : SeqAt.shaped (.list (ns.map PyData.int)) = true := PySem.W.ke_shaped_ints ns
section
variable {P : Program} {w : World} {K : PySem.W.Frag} {mg : Str → Option Value} {base : Heap}
def spMixed : Sp := fun vs H Q _ => ∃ (c : Int) (n : Nat), vs = [.int c, .int (n : Int)] ∧ n < 2 ^ 41 ∧ ∀ r : Int, Q (.int r) H
theorem scMixed : FnScope ["cell", "n", "blend"] ["cell", "n"] (defScope sMixed) := ⟨rfl, rfl, rfl, by decide +kernel, rfl, by decide +kernel, by decide +kernel⟩
theorem ok_mixed {f : Addr} {fd : FuncData} (F : Fun K "_law_mixed" "_law_mixed" sMixed f fd) (B : Blt mg) : FnOk P w K mg base CX0 1 f fd ["cell", "n"] spMixed := by
  refine F.ok scMixed (fun vs H Q E h => ?_) (fun cdv A outer s H vs Q E hr h => ?_)
  · obtain ⟨c, n, rfl, _⟩ := h
    rfl
  · obtain ⟨c, n, rfl, hn, k⟩ := h
    have hu := hu_of hr
    refine ⟨_, (pss_cons (ps_set (i := 2) scMixed.nd rfl (by first | exact Or.inl rfl | exact Or.inr rfl) (pe_op op_add (pe_op op_add (pe_op op_mod (pe_callTy intF (by rfl) B.int (by decide +kernel) (pa_cons (pe_op op_mul (pe_op op_mul (pv 0) (pe_op op_add pe_int (pe_op op_mul pe_int (pv 1)))) pe_int) pa_nil)) pe_int) (pe_op op_mul (pe_op op_mul pe_int (pv 1)) (pv 1))) (pe_op op_mul pe_int (pv 1))))
      (pss_one (ps_ret (pe_op op_fdiv (pe_op op_mod (pe_callTy intF (by rfl) B.int (by decide +kernel) (pa_cons (pe_op op_mul (pv 2) pe_int) pa_nil)) pe_int) pe_int)))), ?_⟩
    walk_at "s"
    exact ⟨.inr ⟨by omega, by omega⟩, .inr ⟨by omega, by omega⟩, k _⟩
/-- a number below lim, another state -/
def spDraw : Sp := fun vs H Q _ => ∃ (m : Addr) (lim : Int) (c g : Addr) (cs gs : List Int) (n : Nat), vs = [.ref m, .int lim] ∧ 0 < lim ∧ lim < 1000000000 ∧ H m = some (dm c g n) ∧ H c = some (.lst (cs.map V.int)) ∧ H g = some (.lst (gs.map V.int)) ∧ c ≠ g ∧ cs.length = 64 ∧ n < 2 ^ 40 ∧
  ∀ (r : Int) (gs' : List Int) (H' : Hp), 0 ≤ r → r < lim → H' m = some (dm c g (n + 1)) → H' c = some (.lst (cs.map V.int)) → H' g = some (.lst (gs'.map V.int)) → (∀ a o, H a = some o → a ≠ m → a ≠ g → H' a = some o) → Q (.int r) H'
theorem scDraw : FnScope ["m", "limit", "n", "lot", "here", "cell"] ["m", "limit"] (defScope sDraw) := ⟨rfl, rfl, rfl, by decide +kernel, rfl, by decide +kernel, by decide +kernel⟩
theorem ok_draw {f fM : Addr} {fd fdM : FuncData} (F : Fun K "_law_draw" "_law_draw" sDraw f fd) (B : Blt mg) (cMixed : Dn P w K mg base 1 "_law_mixed" fM fdM ["cell", "n"] spMixed) : FnOk P w K mg base CX0 2 f fd ["m", "limit"] spDraw := by
  refine F.ok scDraw (fun vs H Q E h => ?_) (fun cdv A outer s H vs Q E hr h => ?_)
  · obtain ⟨m, lim, c, g, cs, gs, n, rfl, _⟩ := h
    rfl
  · obtain ⟨m, lim, c, g, cs, gs, n, rfl, h0, h1, hm, hc, hg, hcg, hcs, hn, k⟩ := h
    have hu := hu_of hr
    refine ⟨_, (pss_cons (ps_set (i := 2) scDraw.nd rfl (by first | exact Or.inl rfl | exact Or.inr rfl) (pe_dgetF hu (pv 0) pe_str (fun _ _ => rfl)))
      (pss_cons (ps_dputF hu (pv 0) pe_str (pe_op op_add (pv 2) pe_int))
      (pss_cons (ps_if (pt_cmpR (op_neD hr.units) (pe_dgetF hu (pv 0) pe_str (fun _ _ => rfl)) (pe_lstF pa_nil) (nomark _)) (pss_cons (ps_set (i := 3) scDraw.nd rfl (by first | exact Or.inl rfl | exact Or.inr rfl) (pe_dgetF hu (pv 0) pe_str (fun _ _ => rfl)))
      (pss_cons (ps_set (i := 4) scDraw.nd rfl (by first | exact Or.inl rfl | exact Or.inr rfl) (pe_op op_mod (pe_callTy intF (by rfl) B.int (by decide +kernel) (pa_cons (pv 2) pa_nil)) (pe_callB lenF (by rfl) B.len (by decide +kernel) (pa_cons (pv 3) pa_nil))))
      (pss_cons (ps_set (i := 5) scDraw.nd rfl (by first | exact Or.inl rfl | exact Or.inr rfl) (pe_ix ixF (pv 3) (pv 4) (fun _ _ => rfl)))
      (pss_one (ps_if (pt_cmpR op_gt (pv 5) pe_int (nomark _)) (pss_cons (ps_asg (pe_op op_fdiv (pv 5) (pv 1)) (pg_sub (pv 3) (pv 4) setF))
      (pss_one (ps_ret (pe_op op_mod (pe_callTy intF (by rfl) B.int (by decide +kernel) (pa_cons (pv 5) pa_nil)) (pv 1))))) pss_nil))))) pss_nil)
      (pss_cons (ps_set (i := 3) scDraw.nd rfl (by first | exact Or.inl rfl | exact Or.inr rfl) (pe_dgetF hu (pv 0) pe_str (fun _ _ => rfl)))
      (pss_one (ps_ret (pe_op op_mod (pe_callTy intF (by rfl) B.int (by decide +kernel) (pa_cons (pe_call cMixed.ok (hr.mono (by decide)) rfl cMixed.mgf cMixed.kp cMixed.bi .nil pass0 (pa_cons (pe_call cMixed.ok (hr.mono (by decide)) rfl cMixed.mgf cMixed.kp cMixed.bi .nil pass0 (pa_cons (pe_op op_add (pe_ix ixF (pv 3) (pe_op op_mod (pe_callTy intF (by rfl) B.int (by decide +kernel) (pa_cons (pv 2) pa_nil)) pe_int) (fun _ _ => rfl)) (pe_op op_mul pe_int (pe_op op_fdiv (pv 2) pe_int))) (pa_cons (pv 2) pa_nil))) (pa_cons (pe_op op_add (pv 2) pe_int) pa_nil))) pa_nil)) (pv 1)))))))), ?_⟩
    walk_at "s"
    have mc : c ≠ m := (ne_of hm hc (by unfold dm; intro z; cases z)).symm
    have mg_ : m ≠ g := ne_of hm hg (by unfold dm; intro z; cases z)
    obtain ⟨H0, e0⟩ : ∃ H0 : Hp, H0 = fun a => if a = m ∨ a = g then none else H a := ⟨_, rfl⟩
    have h0c : H0 c = some (.lst (cs.map V.int)) := by rw [e0]; simp [mc, hcg, hc]
    have h0k : ∀ a o, H a = some o → a ≠ m → a ≠ g → H0 a = some o := fun a o h n1 n2 => by rw [e0]; simp [n1, n2, h]
    have v0 : VW H0 H [(m, dm c g n), (g, .lst (gs.map V.int))] [] :=
      ⟨by simp [hm, hg], by simp [mg_], by simp [e0], (fun a o h => by
        rw [e0] at h
        by_cases z : a = m ∨ a = g
        · simp [z] at h
        · simpa [z] using h), (fun _ h => nomatch h)⟩
    have fin : ∀ (r : Int) (gs' : List Int) (H' : Hp) (L : List (Addr × HO)), VW H0 H' L [] → (m, dm c g (n + 1)) ∈ L → (g, HO.lst (gs'.map V.int)) ∈ L → 0 ≤ r → r < lim → Q (.int r) H' := fun r gs' H' L v i1 i2 r0 r1 =>
      k r gs' H' r0 r1 (v.at_ _ i1) (v.fr _ _ h0c) (v.at_ _ i2) fun a o h n1 n2 => v.fr _ _ (h0k a o h n1 n2)
    refine ⟨_, hm, _, dm_spot, _, rfl, _, hm, sz_lt (by simp), ?_⟩
    rw [dm_put]
    refine view_set v0 0 rfl rfl fun H1 v1 => ?_
    obtain ⟨a1, a2, _⟩ := v1.facts
    refine ⟨_, a1, _, dm_great, view_new v1 fun p H2 v2 => ?_⟩
    obtain ⟨b0, b1, b2, _⟩ := v2.facts
    refine ⟨.list (gs.map PyData.int), .list [], .lst (SqL.of b2) (dp_ints gs), .lst (SqL.of b0) .nil, shaped_ints gs, by decide, ?_⟩
    have hb : (!(PyData.eqv (.list (gs.map PyData.int)) (.list []))) = !gs.isEmpty := by cases gs <;> rfl
    rw [hb]
    -- the way on: a cell, mixed
    have cell : ∀ (H' : Hp) (gs' : List Int) (L : List (Addr × HO)), VW H0 H' L [] → (m, dm c g (n + 1)) ∈ L → (g, HO.lst (gs'.map V.int)) ∈ L → ∃ v, atI (cs.map V.int) ((n : Int) % 64) = some v ∧ ∃ j, V.int n = V.int j ∧ ∃ i, v = V.int i ∧
        spMixed [V.int (i + 31 * (j / 64)), V.int n] H' (fun x H1 => ∃ i, V.int n = V.int i ∧ spMixed [x, V.int (i + 7)] H1 (fun x H1 => ∃ i, x = V.int i ∧ 0 < lim ∧ Q (V.int (i % lim)) H1) E0) E0 := fun H' gs' L v i1 i2 => by
      obtain ⟨z, _, hz⟩ := atI_ints (ns := cs) (i := (n : Int) % 64) (by omega) (by omega)
      refine ⟨_, hz, _, rfl, z, rfl, _, n, rfl, by omega, fun r => ⟨_, rfl, r, n + 7, rfl, by omega, fun r2 => ⟨_, rfl, h0, ?_⟩⟩⟩
      exact fin _ gs' H' L v i1 i2 (Int.emod_nonneg _ (by omega)) (Int.emod_lt_of_pos _ h0)
    cases gs with
    | nil => exact .inl ⟨rfl, _, b1, _, dm_cells, _, rfl, c, rfl, _, v2.fr _ _ h0c, _, sq_lst, cell H2 [] _ v2 (by simp [dm]) (by simp)⟩
    | cons y ys =>
      have hl : ((((y :: ys).map V.int).length : Nat) : Int) = ((y :: ys).length : Nat) := by rw [List.length_map]
      have q0 : 0 ≤ (n : Int) % (((y :: ys).map V.int).length : Nat) := Int.emod_nonneg _ (by rw [hl, List.length_cons]; omega)
      have q1 : (n : Int) % (((y :: ys).map V.int).length : Nat) < ((y :: ys).length : Nat) := by rw [hl]; exact Int.emod_lt_of_pos _ (by simp)
      have q2 : (n : Int) % (((y :: ys).map V.int).length : Nat) < (((y :: ys).map V.int).length : Nat) := Int.emod_lt_of_pos _ (by rw [hl, List.length_cons]; omega)
      obtain ⟨z, _, hz⟩ := atI_ints (ns := y :: ys) q0 q1
      refine .inr ⟨rfl, _, b1, _, dm_great, _, rfl, g, rfl, _, b2, _, sq_lst, by simp, _, rfl, _, b2, _, sq_lst, _, hz, z, rfl, ?_⟩
      refine ite2 (fun hp => ?_) (fun hp => ?_)
      · refine ⟨_, rfl, ⟨h0, by omega⟩, _, rfl, _, b2, _, ixN_ints q0 q2, ?_⟩
        refine view_set v2 2 rfl rfl fun H3 v3 => ?_
        refine ⟨_, rfl, h0, ?_⟩
        rw [show ((y :: ys).map V.int).set ((n : Int) % (((y :: ys).map V.int).length : Nat)).toNat (V.int (z / lim)) = ((y :: ys).set ((n : Int) % (((y :: ys).map V.int).length : Nat)).toNat (z / lim)).map V.int from List.map_set.symm] at v3
        exact fin _ ((y :: ys).set ((n : Int) % (((y :: ys).map V.int).length : Nat)).toNat (z / lim)) _ _ v3 (by simp [dm]) (by simp) (Int.emod_nonneg _ (by omega)) (Int.emod_lt_of_pos _ h0)
      · exact ⟨_, b1, _, dm_cells, _, rfl, c, rfl, _, v2.fr _ _ h0c, _, sq_lst, cell H2 (y :: ys) _ v2 (by simp [dm]) (by simp)⟩
/-- sixty-four numbers -/
def spFolded (K : PySem.W.Frag) : Sp := fun vs H Q _ => ∃ (a : Addr) (ns : List Int), vs = [.ref a] ∧ SqL K H a (ns.map V.int) ∧ ns.length ≤ 63 ∧ ∀ (p : Addr) (cs : List Int) (H' : Hp), H p = none → (∀ b o, H b = some o → H' b = some o) → H' p = some (.lst (cs.map V.int)) → cs.length = 64 → Q (.ref p) H'
theorem scFolded : FnScope ["script", "found", "n", "cell"] ["script"] (defScope sFolded) := ⟨rfl, rfl, rfl, by decide +kernel, rfl, by decide +kernel, by decide +kernel⟩
theorem set_ints {cs : List Int} {j : Nat} {z : Int} : (cs.map V.int).set j (.int z) = (cs.set j z).map V.int := List.map_set.symm
theorem ok_folded {f : Addr} {fd : FuncData} (F : Fun K "_law_folded" "_law_folded" sFolded f fd) (B : Blt mg) : FnOk P w K mg base CX0 1 f fd ["script"] (spFolded K) := by
  refine F.ok scFolded (fun vs H Q E h => ?_) (fun cdv A outer s H vs Q E hr h => ?_)
  · obtain ⟨a, ns, rfl, _⟩ := h
    rfl
  · obtain ⟨a, ns, rfl, hS, hlen, k⟩ := h
    have hu := hu_of hr
    refine ⟨_, (pss_cons (ps_setLc (i := 1) (own := [("n", 2)]) (tt := tYes) rfl scFolded.nd rfl rfl (sw_true rfl rfl rfl (by decide +kernel)) (pi_range1 (by rfl) B.range (pa_cons pe_int pa_nil)) (blkOk_by (own := [("n", 2)]) (N := ["script", "found", "n", "cell"]) (sc := defScope sFolded) (by decide +kernel)) (fun _ _ _ _ _ => (pg_name (i := 2) scFolded.nd rfl (by first | exact Or.inl rfl | exact Or.inr rfl))) (fun _ _ _ _ _ => pts_nil) (fun _ _ _ _ _ => (pe_op op_add pe_int (pv 2))))
      (pss_cons (ps_for PassesOwn.never rfl (pi_enum (by rfl) B.enumerate (pa_cons (pv 0) pa_nil)) (pg_tup (by rfl) (pgs_cons (pg_name (i := 2) scFolded.nd rfl (by first | exact Or.inl rfl | exact Or.inr rfl)) (pgs_cons (pg_name (i := 3) scFolded.nd rfl (by first | exact Or.inl rfl | exact Or.inr rfl)) pgs_nil))) (pss_one (ps_asg (pe_op op_mod (pe_callTy intF (by rfl) B.int (by decide +kernel) (pa_cons (pe_op op_add (pe_op op_mul (pe_ix ixF (pv 1) (pe_op op_mod (pe_callTy intF (by rfl) B.int (by decide +kernel) (pa_cons (pv 2) pa_nil)) pe_int) (fun _ _ => rfl)) pe_int) (pv 3)) pa_nil)) pe_int) (pg_sub (pv 1) (pe_op op_mod (pe_callTy intF (by rfl) B.int (by decide +kernel) (pa_cons (pv 2) pa_nil)) pe_int) setF))))
      (pss_cons (ps_for PassesOwn.never rfl (pi_range2 (by rfl) B.range (pa_cons pe_int (pa_cons pe_int pa_nil))) (pg_name (i := 2) scFolded.nd rfl (by first | exact Or.inl rfl | exact Or.inr rfl)) (pss_one (ps_asg (pe_op op_mod (pe_callTy intF (by rfl) B.int (by decide +kernel) (pa_cons (pe_op op_add (pe_ix ixF (pv 1) (pv 2) (fun _ _ => rfl)) (pe_op op_mul (pe_ix ixF (pv 1) (pe_op op_sub (pv 2) pe_int) (fun _ _ => rfl)) pe_int)) pa_nil)) pe_int) (pg_sub (pv 1) (pv 2) setF))))
      (pss_one (ps_ret (pv 1)))))), ?_⟩
    -- found = [17 + n for n in range(64)]
    refine ⟨64, rfl, by decide, by decide, fun D hD => lc_range (lo := 0) (n := 64) (fun i H' => ∃ cs : List Int, cs.length = i ∧ VW H H' [(D, .lst (cs.map V.int))] []) ⟨[], rfl, VW.start.push hD⟩ ?_ ?_⟩
    · rintro i H' hi ⟨cs, hc, v⟩
      refine ⟨rfl, _, rfl, _, _, rfl, rfl, cs.map V.int, (v.facts).1, sz_lt (by rw [List.length_map]; omega), ?_⟩
      exact ⟨cs ++ [17 + (0 + (i : Int))], by simp [hc], by
        have := v.put (o := .lst ((cs ++ [17 + (0 + (i : Int))]).map V.int)) 0 rfl rfl
        simpa using this⟩
    · rintro H1 ⟨cs0, hc0, v0⟩
      -- for n, cell in enumerate(script)
      have inv : ∀ (i : Nat) (σ : L2.St) (H' : Hp), (∃ (cs : List Int) (u1 u2 : Option V), cs.length = 64 ∧ σ = [some (.ref a), some (.ref D), u1, u2] ∧ VW H H' [(D, .lst (cs.map V.int))] []) → SqL K H' a (ns.map V.int) := fun i σ H' ⟨cs, _, _, _, _, v⟩ => Same.seq (fun b o e => v.fr b o e) hS
      refine ⟨_, rfl, a, ns.map V.int, rfl, Same.seq (fun b o e => v0.fr b o e) hS, for_it (walk_enum (K := K) (a := a) (xs := ns.map V.int)) (fun i σ H' => ∃ (cs : List Int) (u1 u2 : Option V), cs.length = 64 ∧ σ = [some (.ref a), some (.ref D), u1, u2] ∧ VW H H' [(D, .lst (cs.map V.int))] [])
        ⟨cs0, none, none, hc0, rfl, v0⟩ (fun i σ H' _ h => inv i σ H' h) ?_ ?_⟩
      · rintro i x σ H' H2 hi ⟨cs, u1, u2, hc, rfl, v⟩ ⟨T, y1, y2, rfl, hT, rfl, e1, e2⟩
        cases e1
        rw [List.length_map] at hi
        dsimp only at e2
        rw [List.getElem?_map, List.getElem?_eq_getElem hi] at e2
        cases e2
        have v' := (v.push (o := .tup [.int (i : Nat), .int ns[i]]) hT)
        obtain ⟨f0, f1, _⟩ := v'.facts
        obtain ⟨z, _, hz⟩ := atI_ints (ns := cs) (i := (i : Int) % 64) (by omega) (by omega)
        refine ⟨T, _, rfl, SqT.of f0, rfl, _, _, rfl, _, _, rfl, rfl, ?_⟩
        simp [tAsg, tOp, tVar, tC, gName, tCons, tNil, tCB, rI, rI0, rIntF, rIxF, gSub, CMul, rSetF]
        refine ⟨_, f1, _, sq_lst, _, hz, _, rfl, _, f1, _, ixN_ints (by omega) (by rw [List.length_map]; omega), ?_⟩
        refine view_set v' 1 rfl rfl fun H3 v3 => ?_
        refine ⟨cs.set ((i : Int) % 64).toNat ((z * 48271 + ns[i]) % 2147483647), by rw [List.length_set]; exact hc, ?_⟩
        rw [← set_ints]
        exact v3.drop (List.Sublist.cons _ (List.Sublist.refl _)) (fun _ h => h)
      · rintro σ H1 ⟨cs, u1, u2, hc, rfl, v⟩
        -- for n in range(1, 64)
        refine ⟨1, 64, rfl, ⟨by decide, by decide, by decide, by decide⟩, for_it (walk_range (lo := 1) (n := 63)) (fun i σ H' => ∃ (cs : List Int) (u1 : Option V), cs.length = 64 ∧ σ = [some (.ref a), some (.ref D), u1, u2] ∧ VW H H' [(D, .lst (cs.map V.int))] [])
          ⟨cs, u1, hc, rfl, v⟩ (fun _ _ _ _ _ => True.intro) ?_ ?_⟩
        · rintro i x σ H' H2 hi ⟨cs, u1, hc, rfl, v⟩ ⟨rfl, rfl⟩
          obtain ⟨f1, _⟩ := v.facts
          obtain ⟨z, _, hz⟩ := atI_ints (ns := cs) (i := 1 + (i : Int)) (by omega) (by omega)
          obtain ⟨y, _, hy⟩ := atI_ints (ns := cs) (i := 1 + (i : Int) - 1) (by omega) (by omega)
          simp [tAsg, tOp, tVar, tC, gName, tCons, tNil, tCB, rI, rI0, rIntF, rIxF, gSub, CMul, rSetF]
          refine ⟨_, f1, _, sq_lst, _, hz, _, f1, _, sq_lst, _, hy, _, rfl, _, rfl, _, f1, _, ixN_ints (by omega) (by rw [List.length_map]; omega), ?_⟩
          refine view_set v 0 rfl rfl fun H3 v3 => ?_
          refine ⟨cs.set (1 + (i : Int)).toNat ((z + y * 16807) % 2147483647), by rw [List.length_set]; exact hc, ?_⟩
          rw [← set_ints]
          exact v3
        · rintro σ H1 ⟨cs, u1, hc, rfl, v⟩
          refine ⟨_, rfl, ?_⟩
          have nD : H D = none := v.own _ List.mem_cons_self
          exact k D cs H1 nD v.fr v.facts.1 hc
/-- the state, begun -/
def spBegun (K : PySem.W.Frag) : Sp := fun vs H Q _ => ∃ (a : Addr) (ns : List Int), vs = [.ref a] ∧ SqL K H a (ns.map V.int) ∧ ns.length ≤ 63 ∧ ∀ (m c g : Addr) (cs gs : List Int) (H' : Hp), VW H H' (drs m c g cs gs 0) [] → cs.length = 64 → Q (.ref m) H'
theorem scBegun : FnScope ["script", "m", "cell"] ["script"] (defScope sBegun) := ⟨rfl, rfl, rfl, by decide +kernel, rfl, by decide +kernel, by decide +kernel⟩
theorem ok_begun {f fF : Addr} {fd fdF : FuncData} (F : Fun K "_law_begun" "_law_begun" sBegun f fd) (B : Blt mg) (cFolded : Dn P w K mg base 1 "_law_folded" fF fdF ["script"] (spFolded K)) : FnOk P w K mg base CX0 2 f fd ["script"] (spBegun K) := by
  refine F.ok scBegun (fun vs H Q E h => ?_) (fun cdv A outer s H vs Q E hr h => ?_)
  · obtain ⟨a, ns, rfl, _⟩ := h
    rfl
  · obtain ⟨a, ns, rfl, hS, hlen, k⟩ := h
    have hu := hu_of hr
    refine ⟨_, (pss_cons (ps_set (i := 1) scBegun.nd rfl (by first | exact Or.inl rfl | exact Or.inr rfl) (pe_dispF (.cons pe_str (pe_call cFolded.ok (hr.mono (by decide)) rfl cFolded.mgf cFolded.kp cFolded.bi .nil pass0 (pa_cons (pv 0) pa_nil)) (.cons pe_str (pe_lstF pa_nil) (.cons pe_str pe_int .nil))) (by rfl) (by rfl) (fun z => by cases z) (by decide)))
      (pss_cons (ps_dputF hu (pv 1) pe_str (pe_lc (own := [("cell", 2)]) (tt := tYes) rfl scBegun.nd (pi_list (pv 0)) (blkOk_by (own := [("cell", 2)]) (N := ["script", "m", "cell"]) (sc := defScope sBegun) (by decide +kernel)) (fun _ _ _ _ _ => (pg_name (i := 2) scBegun.nd rfl (by first | exact Or.inl rfl | exact Or.inr rfl))) (fun _ _ _ _ _ => pts_nil) (fun _ _ _ _ _ => (pe_ifExp (pt_cmpR op_ge (pv 2) (pe_op op_pow pe_int pe_int) (nomark _)) (pv 2) pe_int))))
      (pss_one (ps_ret (pv 1))))), ?_⟩
    unfold tSeq tAsg tDispF
    refine view_new (VW.start (H := H)) fun m H1 v1 => ?_
    refine ⟨_, rfl, a, ns, rfl, Same.seq (fun b o e => v1.fr b o e) hS, hlen, fun c cs H2 hc hk hcs hl => ?_⟩
    have v2 : VW H H2 [(m, .dK []), (c, .lst (cs.map V.int))] [] := by
      have mc : m ≠ c := fun z => by rw [← z, v1.facts.1] at hc; cases hc
      refine ⟨by simp [hcs, hk m _ v1.facts.1], by simp [mc], ?_, (fun b o e => hk b o (v1.fr b o e)), (fun _ h => nomatch h)⟩
      intro p hp
      simp only [List.mem_cons, List.not_mem_nil, or_false] at hp
      rcases hp with rfl | rfl
      · exact v1.own _ List.mem_cons_self
      · cases e : H c with
        | none => rfl
        | some o => rw [v1.fr c o e] at hc; cases hc
    refine ⟨Nat.zero_le _, view_new v2 fun g0 H3 v3 => ?_⟩
    obtain ⟨f0, f1, f2, _⟩ := v3.facts
    refine ⟨f1, [(Sum.inr "cells", .ref c), (Sum.inr "great", .ref g0), (Sum.inr "spot", .int 0)], by kernel_rfl, by simp, ?_⟩
    refine view_set v3 1 rfl rfl fun H4 v4 => ?_
    rw [show mergeK [] [((Sum.inr "cells" : Key), V.ref c), (Sum.inr "great", .ref g0), (Sum.inr "spot", .int 0)] = [((Sum.inr "cells" : Key), V.ref c), (Sum.inr "great", .ref g0), (Sum.inr "spot", .int 0)] by kernel_rfl] at v4
    -- m['great'] = [cell if cell >= 10 ** 18 else 0 for cell in script]
    refine ⟨_, rfl, a, rfl, ⟨_, Same.seq (fun b o e => v4.fr b o e) hS⟩, fun D hD => lc_it (walk_list (K := K) (a := a) (xs := ns.map V.int)) (fun i H' => ∃ gs : List Int, gs.length = i ∧ VW H H' ((D, .lst (gs.map V.int)) :: [(g0, HO.lst []), (m, _), (c, .lst (cs.map V.int))]) []) ⟨[], rfl, v4.push hD⟩
      (fun i H' _ ⟨gs, _, v⟩ => Same.seq (fun b o e => v.fr b o e) hS) ?_ ?_⟩
    · rintro i x H' H2' hi ⟨gs, hg, v⟩ ⟨rfl, hx⟩
      rw [List.length_map] at hi
      rw [List.getElem?_map, List.getElem?_eq_getElem hi] at hx
      cases hx
      have fin : ∀ z : Int, ∃ acc, H2' D = some (.lst acc) ∧ acc.length < sizeLine ∧ ∃ gs : List Int, gs.length = i + 1 ∧ VW H (upd H2' D (.lst (acc ++ [V.int z]))) ((D, .lst (gs.map V.int)) :: [(g0, HO.lst []), (m, _), (c, .lst (cs.map V.int))]) [] := fun z => by
        refine ⟨_, v.facts.1, sz_lt (by rw [List.length_map]; omega), gs ++ [z], by simp [hg], ?_⟩
        have := v.put (o := .lst (gs.map V.int ++ [V.int z])) 0 rfl rfl
        simpa using this
      refine ⟨rfl, ?_⟩
      simp [tYes, tIf, tTest, tOp, tVar, tC, rI, rI0, wipe, gName, L2.start]
      refine ⟨⟨by decide, by decide⟩, ?_⟩
      refine ite2 (fun _ => fin _) (fun _ => fin 0)
    · rintro H5 ⟨gs, hg, v5⟩
      obtain ⟨e0, e1, e2, e3, _⟩ := v5.facts
      refine ⟨_, rfl, m, rfl, _, e2, _, rfl, sz_lt (by simp), ?_⟩
      rw [dm_put2]
      refine view_set v5 2 rfl rfl fun H6 v6 => ?_
      refine ⟨_, rfl, k m c D cs gs H6 ?_ hl⟩
      have n := v6.nd
      refine ⟨fun p hp => v6.at_ p ?_, ?_, fun p hp => v6.own p ?_, v6.fr, v6.tu⟩
      · simp [drs, dm] at hp ⊢
        rcases hp with rfl | rfl | rfl <;> simp
      · simp [drs] at n ⊢
        grind
      · simp [drs, dm] at hp ⊢
        rcases hp with rfl | rfl | rfl <;> simp
end
end Fab
set_option maxHeartbeats 4000000
namespace Fab
open PySem L2
open PyProof.Rows (envOfC)
theorem guards_deeper {A : Around} {env : Env} : (A.deeper env).guards = A.guards := by
  first | rfl | (unfold Around.deeper; rfl) | (cases A; simp [Around.deeper])
theorem guards_caller : callerA.guards = some [] := by first | rfl | decide | simp [callerA]
/-- a def keeps its promise where nothing is being told by repr -/
structure FnG (P : Program) (w : World) (K : PySem.W.Frag) (mg : Str → Option Value) (base : Heap) (CX : CXT) (k : Nat) (f : Addr) (fd : FuncData) (ps : List Str) (sp : Sp) : Prop where
  len : ∀ vs H Q E, sp vs H Q E → vs.length = ps.length
  run : ∀ (A : Around) (outer : List Env) (s : Shared) (H : Hp) (args : Args) (us : List Value) (vs : List V) (Q : VK) (E : XK), A.guards = some [] → Room k A → Env0 P w K mg base A outer s H → BindsTo s fd args (ps.zip us) → Vals vs us → sp vs H Q E →
    codeAny (model P w) A (.call (.ref f) args) (CR CX outer P w H s Q E) s
section
variable {P : Program} {w : World} {K : PySem.W.Frag} {mg : Str → Option Value} {base : Heap} {CX : CXT} {k : Nat} {f : Addr} {fd : FuncData} {ps : List Str} {sp : Sp}
theorem FnG.of (F : FnOk P w K mg base CX k f fd ps sp) : FnG P w K mg base CX k f fd ps sp := ⟨F.len, fun A outer s H args us vs Q E _ hr e hb hv h => F.run A outer s H args us vs Q E hr e hb hv h⟩
theorem FnG.mono {j : Nat} (F : FnG P w K mg base CX j f fd ps sp) (h : j ≤ k) : FnG P w K mg base CX k f fd ps sp := ⟨F.len, fun A outer s H args us vs Q E hg hr => F.run A outer s H args us vs Q E hg (hr.mono h)⟩
/-- the rule for such a def -/
theorem fnG {x qual : Str} {st : Stmt} {N : List Str} (F : Fun K x qual st f fd) (S : FnScope N ps (defScope st)) (len : ∀ vs H Q E, sp vs H Q E → vs.length = ps.length)
    (hbody : ∀ (cdv : Value) (A : Around) (outer : List Env) (s : Shared) (H : Hp) (vs : List V) (Q : VK) (E : XK), A.guards = some [] → Room k (A.deeper (envOfC qual (defScope st) s.heap.objs.size f cdv)) → sp vs H Q E →
      ∃ t, PSs (cxOf CX P w K mg base N qual (defScope st) f cdv A outer s H E) (defBody st) t ∧ t { nx := fun _ H' => Q .non H', rt := Q } (L2.start N vs) H) : FnG P w K mg base CX (k + 1) f fd ps sp := by
  obtain ⟨oc, od, kV, doc, pm, an, cdv, ct, osl, rfl, lk, hcd⟩ := F.ex
  exact ⟨len, fun A outer s H args us vs Q E hg hr e0 hb hv h => LamX.run_ofS lk hcd S hr e0 hb hv (len _ _ _ _ h) fun hr' => hbody cdv A outer s H vs Q E hg hr' h⟩
end
section
variable {X : Cx} {CX : CXT} {k : Nat} {f : Addr} {fd : FuncData} {ps : List Str} {sp : Sp} {ds : List Value} {dvs : List V} {E : XK} {x : Str} {p pos : Pos} {e : Expr} {es : List Expr} {t : TA}
theorem runG {pins : List (Addr × Obj)} {σ : St} {H : Hp} {s : Shared} {Q : VK} {us : List Value} {vs : List V} (F : FnG X.prog X.w X.K X.mg X.base CX k f fd ps sp) (hg : X.A.guards = some []) (hr : Room k X.A) (hb : Binds X.K fd ps ds) (hd : Vals dvs ds) (hx : Passes CX X E)
    (I : Inv X pins σ H s) (r : Vals vs us) (h : sp (vs ++ dvs) H Q E) : wpAny (model X.prog X.w) X.A (call (.ref f) us) (EP X pins σ Q) X.xe s := by
  have r2 := r.append hd
  have hl : (us ++ ds).length = ps.length := r2.length.symm.trans (F.len _ _ _ _ h)
  have go := F.run X.A X.stack s H ⟨us, []⟩ (us ++ ds) (vs ++ dvs) Q E hg hr I.env0 (hb s us I.kIn hl) r2 h
  refine wpAny_call (codeAny_mono go ?_)
  rintro (er | fl) s' hq
  · exact hx pins σ H s er s' I hq
  · cases fl
    case ret u => exact I.after hq
    all_goals exact False.elim hq
theorem pe_callG (F : FnG X.prog X.w X.K X.mg X.base CX k f fd ps sp) (hgd : X.A.guards = some []) (hr : Room k X.A) (hg : Gl X x) (hm : X.mg x = some (.ref f)) (hk : PySem.W.keepIn X.K (.ref f) = true) (hb : Binds X.K fd ps ds) (hd : Vals dvs ds) (hx : Passes CX X E) (ha : PA X (e :: es) t)
    (hdb : (x == ("__debug__" : Str)) = false := by decide) (he : starEach (e :: es) X.env = (false, eval e X.env) :: starEach es X.env := by rfl) (hpl : (backTo pos (starEach es X.env)).any (·.1) = false := by rfl) : PE X (.Call (.Name x p) (e :: es) [] pos) (tCall sp dvs E t) :=
  ⟨fun pins s σ H Q I h => wpAny_Call_Name_kw (ld_glob I hg hm
    (PySem.W.callWith_K (h₀ := X.base) I.ok.mod.kin hk (thn (ha.run pos pins s σ H _ I h) fun us s1 ⟨vs, H1, I1, r, q⟩ => ⟨I1.kIn, runG F hgd hr hb hd hx I1 r q⟩) he hpl) hdb)⟩
end
section
variable {X : Cx}
def rRepr (K : PySem.W.Frag) : List V → Hp → VK → Prop := fun xs H Q => ∃ x d, xs = [x] ∧ Dp K H x d ∧ d.showable = true ∧ d.hasDict = false ∧ d.depth ≤ 60 ∧ d.shown.length ≤ sizeLine ∧ Q (.str d.shown) H
theorem call_repr (hg : X.A.guards = some []) (hu : X.A.units + 64 < cLine) : CallR X (.builtin "repr") (rRepr X.K) := by
  intro pins s σ H xs us Q I r h
  obtain ⟨x, d, rfl, hd, hs, hn, hdp, hz, q⟩ := h
  obtain ⟨u, rfl, rx⟩ := vals1 r
  obtain ⟨as, rd⟩ := Dp.reads I d x u hd rx
  have key : wpAny (model X.prog X.w) X.A (call (.builtin "repr") [u]) (EP X pins σ Q) X.xe s := by
    cases hd with
    | non => cases rx; exact PySem.P.repr_of_none ⟨.str _, H, I.tok _, ⟨_, rfl⟩, q⟩
    | bl b => cases rx; exact PySem.P.repr_of_bool ⟨.str _, H, I.tok _, ⟨_, rfl⟩, q⟩
    | int i =>
      obtain ⟨t, rfl⟩ := rx
      exact PySem.P.repr_of_int (of_decide_eq_true hs) ⟨.str _, H, I.tok _, ⟨_, rfl⟩, q⟩
    | str y =>
      obtain ⟨t, rfl⟩ := rx
      exact PySem.P.repr_of_str ⟨.str _, H, I.tok _, ⟨_, rfl⟩, q⟩ hz
    | lst a b =>
      cases rx
      exact repr_of_reads' rd hs (PyData.noDict_hsm hn) hg (by omega) (fun _ _ z => z) (fun h' t tk kp => ⟨.str _, H, I.kept kp, ⟨_, rfl⟩, q⟩) hz
    | tup a b =>
      cases rx
      exact repr_of_reads' rd hs (PyData.noDict_hsm hn) hg (by omega) (fun _ _ z => z) (fun h' t tk kp => ⟨.str _, H, I.kept kp, ⟨_, rfl⟩, q⟩) hz
  exact key
end
end Fab
set_option maxHeartbeats 4000000
namespace Fab
open PySem L2
abbrev sRow : Stmt := top 69
theorem pe_lm {X : Cx} {o e : Expr} {es : List Expr} {to : TE} {t : TA} {name : Str} {apos cpos : Pos} {id : String} {r : V → List V → Hp → VK → Prop} (slot : Slot "list" name id) (hty : typeOf (.builtin id) = pure (.type "method_descriptor")) (hm : MtR X id r) (ho : PE X o to) (ha : PA X (e :: es) t)
    (hbase : attributeBase o name X.env (eval o X.env) = eval o X.env := by rfl)
    (hfew : ((backTo cpos (starEach (e :: es) X.env)).all (fun x => !x.1) && (backToKw cpos (keywordEach [] X.env)).all (fun x => x.1.isSome)
      && decide ((e :: es).length + ([] : List Keyword).length + (if ([] : List Keyword).isEmpty then 0 else 1) < 30)) = true := by rfl)
    (hline : (apos.endLine == cpos.line) = true := by rfl) (hs : starEach (e :: es) X.env = (false, eval e X.env) :: starEach es X.env := by rfl) (hplain : (backTo cpos (starEach es X.env)).any (·.1) = false := by rfl) :
    PE X (.Call (.Attribute o name apos) (e :: es) [] cpos) (tLM r to t) := peI (pe_bm PySem.F.plainAttrs_list slot hty hm (pe_mon ho) ha hbase hfew hline hs hplain) fun _ _ _ q => tLM_of q
def tLstRgF (te : St → Hp → (Int → Int → Hp → Prop) → Prop) : TE := fun σ H Q => te σ H fun a b H1 => RgOk a b ∧ newAt H1 (.lst (rgV a b)) fun q H2 => Q (.ref q) H2
local macro_rules | `(tactic| walk_at "s") => `(tactic| simp [tSeq, tAsg, tOp, tUn, tVar, tC, gName, tCons, tNil, tCB, tCall, rI, rI0, rU, tRet, tDrop, tIfS, tNext, tIf, tTest, tB, L2.start, CMul, CDiv, rIxF, rLenF, rIntF, sq_lst, sq_tup, tLstF, rSetF, gSub, rEq, rNe, tSl, rSlF, rCatF, tRevF, rListF, tLM, rAppF, rPopF])
section
variable {P : Program} {w : World} {K : PySem.W.Frag} {mg : Str → Option Value} {base : Heap}
def turnL (ws : List Int) (i j : Nat) : List Int := ws.take i ++ (((ws.drop i).take (j + 1 - i)).map fun z => 0 - z).reverse ++ ws.drop (j + 1)
theorem cut_a {ws : List V} {i j : Nat} (h : i ≤ j) (hj : j < ws.length) : cutV ws (some (i : Int)) (some ((j : Int) + 1)) = (ws.drop i).take (j + 1 - i) := by
  unfold cutV
  rw [HT.sIx_nat, show ((j : Int) + 1) = ((j + 1 : Nat) : Int) by omega, HT.sIx_nat, Nat.min_eq_left (by omega), Nat.min_eq_left (by omega)]
theorem cut_b {ws : List V} {i : Nat} (hi : i ≤ ws.length) : cutV ws none (some (i : Int)) = ws.take i := by
  unfold cutV
  rw [HT.sIx_nat, HT.sIx_none, Nat.min_eq_left hi]
  simp
theorem cut_c {ws : List V} {j : Nat} (hj : j < ws.length) : cutV ws (some ((j : Int) + 1)) none = ws.drop (j + 1) := by
  unfold cutV
  rw [HT.sIx_none, show ((j : Int) + 1) = ((j + 1 : Nat) : Int) by omega, HT.sIx_nat, Nat.min_eq_left (by omega)]
  exact List.take_of_length_le (by simp)
end
def IsRow (ws : List Int) (n : Nat) : Prop := (ws.map Int.natAbs).Perm (List.range' 1 n)
theorem IsRow.len {ws : List Int} {n : Nat} (h : IsRow ws n) : ws.length = n := by
  have := h.length_eq
  simpa using this
theorem abs_neg_map (l : List Int) : (l.map fun z => 0 - z).map Int.natAbs = l.map Int.natAbs := by
  rw [List.map_map]
  exact List.map_congr_left fun z _ => by simp
def firstI (n : Nat) : List Int := (List.range n).map fun i => (1 : Int) + (i : Nat)
theorem isRow_first (n : Nat) : IsRow (firstI n) n := by
  have e : (firstI n).map Int.natAbs = List.range' 1 n := by
    unfold firstI
    rw [List.map_map, List.range'_eq_map_range]
    exact List.map_congr_left fun i _ => by simp; omega
  unfold IsRow
  rw [e]
theorem rg_ints (n : Nat) : rgV 1 ((n : Int) + 1) = (firstI n).map V.int := by
  unfold rgV firstI
  rw [show ((n : Int) + 1 - 1).toNat = n by omega, List.map_map]
  rfl
theorem IsRow.turn {ws : List Int} {n i j : Nat} (h : IsRow ws n) (hij : i ≤ j) : IsRow (turnL ws i j) n := by
  refine List.Perm.trans ?_ h
  unfold turnL
  rw [List.map_append, List.map_append, List.map_reverse, abs_neg_map]
  have e : ws = ws.take i ++ ((ws.drop i).take (j + 1 - i) ++ ws.drop (j + 1)) := by
    rw [show ws.drop (j + 1) = (ws.drop i).drop (j + 1 - i) by rw [List.drop_drop]; congr 1; omega, List.take_append_drop, List.take_append_drop]
  conv => rhs; rw [e, List.map_append, List.map_append]
  rw [List.append_assoc]
  exact List.Perm.append_left _ (List.Perm.append_right _ (List.reverse_perm _))
section
variable {H0 H H1 H2 : Hp} {L : List (Addr × HO)} {T : List (Addr × List V)} {m c g : Addr} {cs gs gs' : List Int} {n : Nat} {lim : Int}
theorem VW.drawn (v : VW H0 H1 ((m, dm c g n) :: (g, .lst (gs.map V.int)) :: L) T) (hm : H2 m = some (dm c g (n + 1))) (hg : H2 g = some (.lst (gs'.map V.int))) (hk : ∀ a o, H1 a = some o → a ≠ m → a ≠ g → H2 a = some o) :
    VW H0 H2 ((m, dm c g (n + 1)) :: (g, .lst (gs'.map V.int)) :: L) T := by
  obtain ⟨f1, f2, _⟩ := v.facts
  have nd := v.nd
  refine ⟨fun p hp => ?_, nd, fun p hp => ?_, fun a o h => ?_, fun p hp => ?_⟩
  · rcases List.mem_cons.mp hp with rfl | hp
    · exact hm
    · rcases List.mem_cons.mp hp with rfl | hp
      · exact hg
      · have q : p.1 ∈ L.map (·.1) := List.mem_map_of_mem hp
        simp only [List.map_cons, List.nodup_cons, List.mem_cons, not_or] at nd
        exact hk _ _ (v.at_ p (List.mem_cons_of_mem _ (List.mem_cons_of_mem _ hp))) (fun z => nd.1.2 (z ▸ q)) (fun z => nd.2.1 (z ▸ q))
  · rcases List.mem_cons.mp hp with rfl | hp
    · exact v.own (m, dm c g n) List.mem_cons_self
    · rcases List.mem_cons.mp hp with rfl | hp
      · exact v.own (g, .lst (gs.map V.int)) (List.mem_cons_of_mem _ List.mem_cons_self)
      · exact v.own p (List.mem_cons_of_mem _ (List.mem_cons_of_mem _ hp))
  · refine hk a o (v.fr a o h) (fun z => ?_) (fun z => ?_)
    · have := v.own (m, dm c g n) List.mem_cons_self
      rw [z] at h
      rw [h] at this
      cases this
    · have := v.own (g, .lst (gs.map V.int)) (List.mem_cons_of_mem _ List.mem_cons_self)
      rw [z] at h
      rw [h] at this
      cases this
  · have q := v.tu p hp
    refine hk _ _ q (fun z => ?_) (fun z => ?_)
    · rw [z, f1] at q
      unfold dm at q
      cases q
    · rw [z, f2] at q
      cases q
end
section
variable {K : PySem.W.Frag} {H0 H1 : Hp} {L : List (Addr × HO)} {m c g fp rp : Addr} {cs gs ws : List Int} {n many : Nat} {D : Ends}
theorem VW.trans {H0 H H' : Hp} {L L2 : List (Addr × HO)} {T T2 : List (Addr × List V)} (v : VW H0 H L T) (u : VW H H' L2 T2) : VW H0 H' (L2 ++ L) T := by
  refine ⟨fun p hp => ?_, ?_, fun p hp => ?_, fun a o h => u.fr a o (v.fr a o h), fun p hp => u.fr _ _ (v.tu p hp)⟩
  · rcases List.mem_append.mp hp with hp | hp
    · exact u.at_ p hp
    · exact u.fr _ _ (v.at_ p hp)
  · rw [List.map_append, List.nodup_append]
    refine ⟨u.nd, v.nd, fun a ha b hb z => ?_⟩
    obtain ⟨p, hp, rfl⟩ := List.mem_map.mp ha
    obtain ⟨q, hq, rfl⟩ := List.mem_map.mp hb
    have h1 := u.own p hp
    have h2 := v.at_ q hq
    rw [z, h2] at h1
    cases h1
  · rcases List.mem_append.mp hp with hp | hp
    · cases e : H0 p.1 with
      | none => rfl
      | some o =>
        have := u.own p hp
        rw [v.fr _ _ e] at this
        cases this
    · exact v.own p hp
end
end Fab
set_option maxHeartbeats 4000000
namespace Fab
open PySem L2
/-- the words whose bit is set -/
def fws (ws : List Str) (bs : List Bool) (n : Nat) : List V := (((ws.zip bs).take n).filter (·.2)).map fun q => V.str q.1
theorem fws_len {ws : List Str} {bs : List Bool} {n : Nat} : (fws ws bs n).length ≤ n := by
  unfold fws
  rw [List.length_map]
  exact Nat.le_trans (List.length_filter_le _ _) (by rw [List.length_take]; omega)
theorem fws_next {ws : List Str} {bs : List Bool} {n : Nat} {x : Str} {b : Bool} (hx : ws[n]? = some x) (hb : bs[n]? = some b) : fws ws bs (n + 1) = if b = true then fws ws bs n ++ [.str x] else fws ws bs n := by
  have e : (ws.zip bs)[n]? = some (x, b) := by simp [List.getElem?_zip_eq_some, hx, hb]
  unfold fws
  rw [List.take_succ, e]
  cases b <;> simp [List.filter_append]
end Fab
set_option maxHeartbeats 4000000
namespace PySem
namespace FabX
open PySem.W PySem.Calls PyProof.Rows PySem.HandSPX
open Builtin Builtin.ObjectAttr
/-- a built-in exception class below own ones -/
structure EBase (B newId initId : String) (bmB : List Value) : Prop where
  F : ExcBaseFacts B newId initId bmB
  S : StoreFacts B bmB "object.__setattr__" "object"
  ob : bmB.contains (.type "object") = true
  ne : bmB ≠ []
theorem EBase.nonempty {B newId initId : String} {bmB : List Value} (b : EBase B newId initId bmB) {l : List Value} (h : excTail bmB l = true) : l.isEmpty = false := by
  rcases excTail_cases l h with ⟨c, r, rfl, _⟩ | rfl
  · rfl
  · cases l with
    | nil => exact absurd rfl b.ne
    | cons _ _ => rfl
theorem eb_value : EBase "ValueError" "ValueError.__new__" "ValueError.__init__" [.type "ValueError", .type "Exception", .type "BaseException", .type "object"] := ⟨F.excBase_ValueError, F.store_ValueError, by decide, by decide⟩
theorem eb_over : EBase "OverflowError" "OverflowError.__new__" "OverflowError.__init__" [.type "OverflowError", .type "ArithmeticError", .type "Exception", .type "BaseException", .type "object"] := ⟨F.excBase_OverflowError, F.store_OverflowError, by decide, by decide⟩
section
variable {prog : Program} {w : World} {A : Around} {E : Value → Shared → Prop} {R : Result → Shared → Prop} {hp : Heap} {g : Array GenState} {d : Drawn} {t : Nat} {os : OsState} {B newId initId : String} {bmB : List Value}
/-- the first field of a fresh exception is set -/
theorem osa_first (b : EBase B newId initId bmB) {K : W.Frag} {name : Str} {tk : Tok} {v : Value} {x C : Addr} {fv : Array Value} {cd : ClassData} (X : K.In hp) (hx : hp.get? x = some { cls := .ref C, data := .fields fv }) (hcd : W.clsIn K C = some cd)
    (hm : excTail bmB cd.mro = true) (hh : cd.hasDict = true) (ha : W.findIn K (.ref C) name = some none)
    (hq : ∀ h' tk' dx, (∀ c o, c ≠ x → hp.get? c = some o → h'.get? c = some o) → hp.objs.size ≤ dx → dx ≠ x → h'.get? x = some { cls := .ref C, dict := some dx, data := .fields fv } → h'.Ns1 dx (fun y => if y = name then some v else none) →
      R (.ok (.ret .none)) ⟨h', g, d, tk', os⟩) : codeAny (model prog w) A (.call (.builtin "object.__setattr__") ⟨[.ref x, .str name tk, v], []⟩) R ⟨hp, g, d, t, os⟩ := by
  have I : W.InstAt hp x { cls := .ref C, data := .fields fv } C none := ⟨hx, rfl, rfl, trivial⟩
  have hnew : x ≠ hp.objs.size := Nat.ne_of_lt (Heap.lt_size hx)
  have hsub : W.Looks (model prog w) hp (isInstance (.ref x) (.type "object")) true := I.type.andThen (W.looks_mroIn X (by
    unfold W.mroIn
    rw [hcd, Option.bind_some, if_neg (by rw [b.nonempty hm]; decide), excTail_contains "object" _ hm, b.ob]))
  refine codeAny_call_builtin F.store_object.slot.plain F.store_object.entry (@W.check_slot (model prog w) _ _ ⟨hp, g, d, t, os⟩ "object.__setattr__" "object" "__setattr__" (.ref x) [.str name tk, v] [] _ F.store_object.kind F.store_object.split hsub
    (F.store_object.args (.ref x) (.str name tk) v) ?_)
  have hmro : W.Looks (model prog w) hp (mroOf (.ref C)) cd.mro := (W.looks_clsIn X hcd).andThen .now
  rw [W.osa_eq, refuse_eq]
  refine wpAny_bind (wpAny_bind (I.type.at (wpAny_bind (hmro.at ?_))))
  rw [excTail_pass (.ref x) (b.S.passes (.ref x)) cd.mro hm]
  refine wpAny_pure (wpAny_bind (I.type.at (wpAny_bind ((W.looks_findIn X ha).at (wpAny_bind ((show W.Looks (model prog w) hp (storeTaker? none) none from .now).at ?_))))))
  show wpAny _ _ (storeInOwnDict (.ref x) (.ref C) (.str name tk) name v false) _ _ _
  have hcl : W.Looks (model prog w) hp (classData C) cd := W.looks_clsIn X hcd
  obtain ⟨nm, bs, mro, ns, qn, hd, sn, sb, ab, col, del⟩ := cd
  obtain rfl : hd = true := hh
  unfold storeInOwnDict ownDictForStores
  repeat (first | with_reducible refine store_in_new ?_ ?_ | with_reducible refine wpAny_loadPart_at hx ?_ | with_reducible refine hcl.at ?_ | wp_step)
  · exact ⟨_, #[], _, (Heap.get?_update_ne _ _ _ _ hnew.symm).trans (Heap.get?_push_at rfl rfl), rfl, (fun e he => absurd he (by simp)), fun _ => rfl⟩
  · intro h' tk' hn hs
    refine hq h' tk' hp.objs.size (fun c o hc ho => ?_) (Nat.le_refl _) hnew.symm ?_ hn
    · rw [hs.2 c (Nat.ne_of_lt (Heap.lt_size ho)), Heap.get?_update_ne _ _ _ _ hc]
      exact Heap.get?_push_of_some _ ho
    · rw [hs.2 x hnew]
      exact Heap.get?_update_self _ (Heap.get?_push_of_some _ hx) rfl
end
end FabX
end PySem
namespace Fab
open PySem L2 PySem.Spec PyProof.Rows PySem.FabX
/-- what the written part says of an own exception class over B -/
structure XCls (newId : String) (bmB : List Value) (K : PySem.W.Frag) (C : Addr) : Prop where
  cls : ∃ nm q N bs bm sn sub ab col dd k0 k1 k2 k3 k5, K.lookup C = some (excClassObj nm q C N bs bm true sn sub ab col dd k0 k1 k2 k3 k5 newId) ∧ PySem.W.excTail bmB bm = true
  sa : PySem.W.findIn K (.ref C) "__setattr__" = some (some (.builtin "object.__setattr__"))
  exC : PySem.W.subIn K (.ref C) (.type "BaseException") = some true
  tyC : PySem.W.typeIn K (.ref C) = some (.type "type")
  kC : PySem.W.keepIn K (.ref C) = true
section
variable {X : Cx} {pins : List (Addr × Obj)} {σ : L2.St} {H : Hp} {s : Shared} {a C dx : Addr} {f : Str} {y : V} {u : Value} {B newId initId : String} {bmB : List Value}
theorem clsIn_of {K : PySem.W.Frag} {nm q : Str} {N : Addr} {bs bm : List Value} {sn : List Str} {sub : List Value} {ab : Bool} {col : Option Bool} {dd : Option Addr} {k0 k1 k2 k3 k5 : Option Value} (h : K.lookup C = some (excClassObj nm q C N bs bm true sn sub ab col dd k0 k1 k2 k3 k5 newId)) :
    PySem.W.clsIn K C = some { name := nm, bases := bs, mro := .ref C :: bm, ns := N, qualname := q, hasDict := true, slotNames := sn, subclasses := sub, abstract := ab, collection := col, hasDel := false } := by
  unfold PySem.W.clsIn
  rw [h]
  all_goals rfl
/-- self.f = y on a fresh exception -/
theorem xst_first (b : EBase B newId initId bmB) (T : XCls newId bmB X.K C) (I : Inv X pins σ H s) (e : H a = some (exo a C none)) (hno : PySem.W.findIn X.K (.ref C) f = some none) (ry : RelV y u) {Q : Unit → Shared → Prop} {E : Value → Shared → Prop} {A : Around}
    (h : ∀ dx s', H dx = none → dx ≠ a → Inv X pins σ (upd (upd H dx (exd dx [(f, y)])) a (exo a C (some dx))) s' → Q () s') : wpAny (model X.prog X.w) A (setAttr (.ref a) f u) Q E s := by
  obtain ⟨nm, q, N, bs, bm, sn, sub, ab, col, dd, k0, k1, k2, k3, k5, hC, hbm⟩ := T.cls
  obtain ⟨t1, ho⟩ := exo_at I.hok e
  obtain ⟨hp, g, d, t, os⟩ := s
  refine PySem.W.set_plain I.kIn (ox := { cls := .ref C, dict := none, data := .fields #[.ref t1, .none, .none, .none, .bool false, .none] }) (od := none) ⟨ho, rfl, rfl, trivial⟩ T.sa ?_
  refine osa_first b I.kIn ho (clsIn_of hC) (show PySem.W.excTail bmB (.ref C :: bm) = true from hbm) rfl hno fun h' tk' dx k dn dne hx hn => ?_
  have nH : H dx = none := I.hok.fresh dn
  have apart : ∀ {c : Addr} {o : Obj}, hp.get? c = some o → c ≠ dx := fun z => Nat.ne_of_lt (Nat.lt_of_lt_of_le (Heap.lt_size z) dn)
  have nota : ∀ {c : Addr}, H c = none → c ≠ a := fun n z => by
    rw [z, e] at n
    cases n
  have at_ : ∀ {c : Addr} {o : HO}, H c = some o → exo a C none ≠ o → upd (upd H dx (exd dx [(f, y)])) a (exo a C (some dx)) c = some o := fun {c o} z ne => by
    rw [upd_ne (at_ne e z ne), upd_ne (ne_of_none z nH)]
    exact z
  refine h dx _ nH dne (I.un (t' := tk') ⟨fun c o z n _ _ => k c o (nota n) z, fun c o z n _ _ => ⟨o.slots, k c o (nota n) z⟩, fun c o z n _ => by rw [upd_ne (nota n), upd_ne (apart z)]; exact n, fun c o z _ => ?_, fun c xs z => at_ z exo_tup, fun c o v z => at_ z exo_frz,
    fun c ps z => ⟨#[], by rw [at_ z exo_tbl]; simp⟩⟩ fun c o z => ?_)
  · by_cases hc : c = a
    · exact ⟨_, by rw [hc]; exact hx⟩
    · exact ⟨o, k c o hc z⟩
  · by_cases hc : c = a
    · subst hc
      rw [upd_same] at z
      cases z
      exact exo_ok hx
    · rw [upd_ne hc] at z
      by_cases hd : c = dx
      · subst hd
        rw [upd_same] at z
        cases z
        exact exd_ok hn (relO_put (fs := []) ry fun g => True.intro)
      · rw [upd_ne hd] at z
        refine (I.hok c o z).stay (fun b v hb w => k b v ?_ w) (fun b w => at_ w exo_own) (fun b xs w => at_ w exo_tup)
        rcases hb with rfl | hb
        · exact hc
        · exact at_ne e hb exo_own
/-- B.__init__(self, ..) -/
theorem xinit_ok (b : EBase B newId initId bmB) {us : List Value} {Q : Value → Shared → Prop} {E : Value → Shared → Prop} {A : Around} (T : XCls newId bmB X.K C) (I : Inv X pins σ H s) (e : H a = some (exo a C none)) (hl : us.length ≤ sizeLine) (h : ∀ s', Inv X pins σ H s' → Q .none s') :
    wpAny (model X.prog X.w) A (call (.builtin initId) (.ref a :: us)) Q E s := by
  obtain ⟨nm, q, N, bs, bm, sn, sub, ab, col, dd, k0, k1, k2, k3, k5, hC, hbm⟩ := T.cls
  obtain ⟨t1, ho⟩ := exo_at I.hok e
  obtain ⟨hp, g, d, t, os⟩ := s
  refine wpAny_call (PySem.HandSPX.init_base b.F (fun Y => PySem.W.excTail_contains Y bm hbm) (I.kIn _ _ hC) ho hl fun h' t2 k hx => h _ ?_)
  have J := I.write (t' := t) (x := a) (e := a) (o := exo a C none) (by rw [e]; exact True.intro) (.inl rfl) k ⟨_, hx⟩ (exo_ok hx)
  have same : upd H a (exo a C none) = H := by
    funext c
    by_cases hc : c = a
    · rw [hc, upd_same, e]
    · rw [upd_ne hc]
  rw [same] at J
  exact J
end
/-- BASE.__init__(self, ..) -/
def tXi (newId : String) (bmB : List Value) (K : PySem.W.Frag) (ta : TA) : TE := fun σ H Q => ta σ H fun vs H1 => ∃ (a C : Addr) (ws : List V), vs = .ref a :: ws ∧ ws.length ≤ 1000 ∧ XCls newId bmB K C ∧ H1 a = some (exo a C none) ∧ Q .non H1
/-- self.f = e -/
def tXst (newId : String) (bmB : List Value) (K : PySem.W.Frag) (f : Str) (to te : TE) : TS := fun D σ H => te σ H fun y H1 => to σ H1 fun x H2 => ∃ a C : Addr, x = .ref a ∧ XCls newId bmB K C ∧ PySem.W.findIn K (.ref C) f = some none ∧ H2 a = some (exo a C none) ∧
  ∀ dx, H2 dx = none → dx ≠ a → D.nx σ (upd (upd H2 dx (exd dx [(f, y)])) a (exo a C (some dx)))
section
variable {X : Cx} {o e : Expr} {es : List Expr} {to te : TE} {ta : TA} {f x : Str} {p p' p1 p2 pos : Pos} {B newId initId : String} {bmB : List Value} {CB : Addr}
/-- the base is an own class -/
theorem pe_xiC (b : EBase B newId initId bmB) {pl : Sem Bool} (hg : Gl X x) (hm : X.mg x = some (.ref CB)) (gi : PySem.W.specialIn X.K (.ref CB) "__getattribute__" = some (some (.builtin "type.__getattribute__"))) (rd : PySem.W.readsIn X.K CB (.type "type") = true)
    (fi : PySem.W.findCls X.K (.ref CB) (.type "type") "__init__" = some (.val (.builtin initId))) (hh : PySem.W.handedIn (.builtin initId) = true) (ha : PA X (e :: es) ta) (hc : eval (.Call (.Attribute (.Name x p1) "__init__" p2) (e :: es) [] pos) X.env = (do
      let ov ← eval (.Name x p1) X.env
      standAt p2.atName
      let (f, first) ← holding [ov] (getMethod ov "__init__" pl)
      callWith pos f first (backTo pos (starEach (e :: es) X.env)) (backToKw pos (keywordEach [] X.env))) := by rfl)
    (hdb : (x == ("__debug__" : Str)) = false := by decide) (he : starEach (e :: es) X.env = (false, eval e X.env) :: starEach es X.env := by rfl) (hpl : (backTo pos (starEach es X.env)).any (·.1) = false := by rfl) :
    PE X (.Call (.Attribute (.Name x p1) "__init__" p2) (e :: es) [] pos) (tXi newId bmB X.K ta) := by
  refine ⟨fun pins s σ H Q I h => PySem.W.methodCall_KW (ld_glob I hg hm ?_ hdb) hc⟩
  refine PySem.W.method_cls I.kIn gi (PySem.W.cls_value I.kIn rd fi hh ?_)
  refine PyProof.Rows.callWith_method1 (thn (ha.run pos pins _ σ H _ (I.tok _) h) fun us s1 ⟨vs, H1, I1, r1, a, C, ws, ev, hl, T, ea, q⟩ => ?_) he hpl
  subst ev
  cases r1 with
  | @cons _ u0 _ ur ra rw' =>
    obtain rfl : u0 = Value.ref a := ra
    exact xinit_ok b T I1 ea (by rw [← Paired.length rw', sizeLine_eq]; omega) fun s' J => ⟨.non, H1, J, rfl, q⟩
/-- the base is a built-in class -/
theorem pe_xiT (b : EBase B newId initId bmB) {pl : Sem Bool} (hg : Gl X x) (hm : X.mg x = none) (hv : bootBuiltins x = some (.type B)) (ht : typeOf (.type B) = pure (.type "type")) (hst : Manifest.isStub B = false)
    (fi : PySem.W.findCls X.K (.type B) (.type "type") "__init__" = some (.val (.builtin initId))) (hh : PySem.W.handedIn (.builtin initId) = true) (ha : PA X (e :: es) ta) (hc : eval (.Call (.Attribute (.Name x p1) "__init__" p2) (e :: es) [] pos) X.env = (do
      let ov ← eval (.Name x p1) X.env
      standAt p2.atName
      let (f, first) ← holding [ov] (getMethod ov "__init__" pl)
      callWith pos f first (backTo pos (starEach (e :: es) X.env)) (backToKw pos (keywordEach [] X.env))) := by rfl)
    (hn : x ≠ "__name__" := by decide) (hdb : (x == ("__debug__" : Str)) = false := by decide) (he : starEach (e :: es) X.env = (false, eval e X.env) :: starEach es X.env := by rfl) (hpl : (backTo pos (starEach es X.env)).any (·.1) = false := by rfl) :
    PE X (.Call (.Attribute (.Name x p1) "__init__" p2) (e :: es) [] pos) (tXi newId bmB X.K ta) := by
  refine ⟨fun pins s σ H Q I h => PySem.W.methodCall_KW (ld_blt I hg hm hv ?_ hn hdb) hc⟩
  obtain ⟨m, fr⟩ := I.fr
  refine PySem.W.method_type fr I.ok.mod.kin ht hst fi hh ?_
  refine PyProof.Rows.callWith_method1 (thn (ha.run pos pins _ σ H _ (I.tok _) h) fun us s1 ⟨vs, H1, I1, r1, a, C, ws, ev, hl, T, ea, q⟩ => ?_) he hpl
  subst ev
  cases r1 with
  | @cons _ u0 _ ur ra rw' =>
    obtain rfl : u0 = Value.ref a := ra
    exact xinit_ok b T I1 ea (by rw [← Paired.length rw', sizeLine_eq]; omega) fun s' J => ⟨.non, H1, J, rfl, q⟩
theorem ps_xst (b : EBase B newId initId bmB) (ho : PE X o to) (he : PE X e te) (hs : swapsWith e (some (.Attribute o f p')) pos.line X.env = pure false := by rfl) : PS X (.Assign [.Attribute o f p'] e pos) (tXst newId bmB X.K f to te) := by
  refine ⟨fun pins s σ H D I h => plainObj_wpAny_Assign_Attribute (thn (he.run pins s σ H _ I h) fun v s1 ⟨y, H1, I1, r1, q1⟩ => thn (ho.run pins s1 σ H1 _ I1 q1) fun u s2 ⟨x, H2, I2, r2, a, C, ex, T, hno, ea, q⟩ => ?_) hs⟩
  subst ex
  obtain rfl : u = Value.ref a := r2
  exact xst_first b T I2 ea hno r1 fun dx s' n ne J => ⟨σ, _, J, q dx n ne⟩
/-- what the making of C(e, ..) leaves, told to a wish q; a: the exception, d: its own dict -/
theorem make_run {CX : CXT} {C fI : Addr} {k : Nat} {fd : FuncData} {ps : List Str} {sp : Sp} {pins : List (Addr × Obj)} {σ : L2.St} {H : Hp} {s : Shared} {us : List Value} {vs : List V} {Qv E : Value → Shared → Prop} (b : EBase B newId initId bmB) (T : XCls newId bmB X.K C)
    (iC : PySem.W.findIn X.K (.ref C) "__init__" = some (some (.ref fI))) (tI : PySem.W.typeIn X.K (.ref fI) = some (.type "function")) (F : FnOk X.prog X.w X.K X.mg X.base CX k fI fd ps sp) (hr : Room (k + 1) X.A) (hb : Binds X.K fd ps [])
    (hx : ∀ H s e s', ¬ CX X.stack H s (fun _ _ _ => False) e s') (I : Inv X pins σ H s) (r : Vals vs us) (hz : vs.length ≤ 1000) {Q : Addr → Hp → Prop}
    (h : ∀ a, H a = none → sp (.ref a :: vs) (upd H a (exo a C none)) (fun v H2 => v = .non ∧ Q a H2) (fun _ _ _ => False))
    (k1 : ∀ (a : Addr) (H2 : Hp) (hp2 : Heap) (s' : Shared), s.heap.objs.size ≤ a → (∀ b o, s.heap.get? b = some o → hp2.get? b = some o) → Un (frs X.stack) [] (upd H a (exo a C none)) H2 hp2 s'.heap → HOk X.prog X.w H2 s'.heap → s'.os = s.os → AllBare s'.gens → Q a H2 → Qv (.ref a) s') :
    wpAny (model X.prog X.w) X.A (call (.ref C) us) Qv E s := by
  obtain ⟨nm, q, N, bs, bm, sn, sub, ab, col, dd, k0, k1', k2, k3, k5, hC, hbm⟩ := T.cls
  obtain ⟨hp, g, dr, tk, os⟩ := s
  have new : H (hp.objs.size + 1) = none := I.hok.fresh (Nat.le_succ _)
  have old : ∀ b o, hp.get? b = some o → ((hp.push (PySem.W.kdv_tup us)).push (PySem.HandSPX.excO C hp.objs.size)).get? b = some o := fun b o e => Heap.get?_push_of_some _ (Heap.get?_push_of_some _ e)
  have there : ((hp.push (PySem.W.kdv_tup us)).push (PySem.HandSPX.excO C hp.objs.size)).get? (hp.objs.size + 1) = some (PySem.HandSPX.excO C hp.objs.size) := by heap_get
  have I2 : Inv X pins σ (upd H (hp.objs.size + 1) (exo (hp.objs.size + 1) C none)) ⟨(hp.push (PySem.W.kdv_tup us)).push (PySem.HandSPX.excO C hp.objs.size), g, dr, tk, os⟩ := I.laid (t' := tk) old (Nat.le_succ _) (exo_ok there)
  have hq := h _ new
  have r2 : Vals (V.ref (hp.objs.size + 1) :: vs) (Value.ref (hp.objs.size + 1) :: us) := .cons rfl r
  have hl : (Value.ref (hp.objs.size + 1) :: us).length = ps.length := r2.length.symm.trans (F.len _ _ _ _ hq)
  have hus : us.length ≤ sizeLine := by rw [← Paired.length r, sizeLine_eq]; omega
  have go := F.run _ X.stack _ _ ⟨Value.ref (hp.objs.size + 1) :: us, []⟩ (Value.ref (hp.objs.size + 1) :: us) _ _ (fun _ _ _ => False) (hr.make C us []) (I2.env0.make C us []) (by simpa using hb _ (Value.ref (hp.objs.size + 1) :: us) I2.kIn (by simpa using hl)) r2 hq
  refine wpAny_call (PySem.HandSPX.call_own b.F (fun Y => PySem.W.excTail_contains Y bm hbm) (I.kIn _ _ hC) (PySem.W.looks_findIn I.kIn iC) (fun self => PySem.W.bind_fn I.kIn self tI) hus (codeAny_mono go ?_))
  rintro (er | fl) s' z
  · exact (hx _ _ er s' z).elim
  · cases fl
    case ret u =>
      obtain ⟨v, H2, os2, bare2, un2, hok2, rv, rfl, q2⟩ := z
      exact ⟨rv, k1 _ H2 _ s' (Nat.le_succ _) old un2 hok2 os2 bare2 q2⟩
    all_goals exact False.elim z
/-- raised: C(e, ..), its dict behind -/
def tXmk (C : Addr) (sp : Sp) (ta : TA) : L2.St → Hp → XK → Prop := fun σ H Q => ta σ H fun vs H1 => vs.length ≤ 1000 ∧ ∀ a, H1 a = none → sp (.ref a :: vs) (upd H1 a (exo a C none))
  (fun v H2 => v = .non ∧ ∃ (d : Addr) (fs : List (Str × V)), H2 a = some (exo a C (some d)) ∧ H2 d = some (exd d fs) ∧ H1 d = none ∧ Q (.ref C) (some d) (upd (del H2 a) d (.xd fs))) (fun _ _ _ => False)
theorem pmk_x {CX : CXT} {C fI : Addr} {k : Nat} {fd : FuncData} {ps : List Str} {sp : Sp} (b : EBase B newId initId bmB) (T : XCls newId bmB X.K C) (iC : PySem.W.findIn X.K (.ref C) "__init__" = some (some (.ref fI))) (tI : PySem.W.typeIn X.K (.ref fI) = some (.type "function"))
    (F : FnOk X.prog X.w X.K X.mg X.base CX k fI fd ps sp) (hr : Room (k + 1) X.A) (hb : Binds X.K fd ps []) (hx : ∀ H s e s', ¬ CX X.stack H s (fun _ _ _ => False) e s') (hg : Gl X x) (hm : X.mg x = some (.ref C)) (ha : PA X (e :: es) ta)
    (hdb : (x == ("__debug__" : Str)) = false := by decide) (he : starEach (e :: es) X.env = (false, eval e X.env) :: starEach es X.env := by rfl) (hpl : (backTo pos (starEach es X.env)).any (·.1) = false := by rfl) :
    PMk X (.Call (.Name x p) (e :: es) [] pos) (tXmk C sp ta) := by
  intro pins s σ H Q I h
  refine wpAny_Call_Name_kw (ld_glob I hg hm ?_ hdb)
  refine PySem.W.callWith_K (h₀ := X.base) I.ok.mod.kin T.kC (thn (ha.run pos pins s σ H _ I h) fun us s1 ⟨vs, H1, I1, r1, hz, q1⟩ => ⟨I1.kIn, ?_⟩) he hpl
  obtain ⟨hp, g, dr, tk, os⟩ := s1
  refine make_run b T iC tI F hr hb hx I1 r1 hz q1 fun a H2 hp2 s' ha' kk un hok ho hbare ⟨d, fs, ea, ed, hd, q⟩ => ?_
  obtain ⟨h2, g2, d2, t2, os'⟩ := s'
  exact mk_end (raises_own T.exC T.tyC) I1 ha' kk un hok ho hbare ea ed hd q
end
end Fab
set_option maxHeartbeats 4000000
namespace PySem
namespace FabX
open PySem.HandSPX
theorem flying_keep {B h h' : Heap} {l : List Env} {e : Addr} {Z : Obj → Prop} (x : FlyingZ B l e Z h) (k : ∀ b o, h.get? b = some o → h'.get? b = some o) : FlyingZ B l e Z h' := by
  obtain ⟨x1, x2, x3, oe, vs, T, oT, ts, y1, y2, y3, y4, y5, y6, y7, y8, y9⟩ := x
  exact ⟨fun b o z => k b o (x1 b o z), x2, Heap.FunFrames.of_keeps (fun b o z _ => ⟨o, k b o z, rfl⟩) x3, oe, vs, T, oT, ts, k _ _ y1, y2, y3, y4, y5, y6, k _ _ y7, y8, y9⟩
end FabX
end PySem
namespace Fab
open PySem L2 PySem.Spec PyProof.Rows
/-- a caught exception, let go: its class, its own dict -/
def exK (a : Addr) (cls : Value) (d : Option Addr) : HO := .ext fun h => ∃ oe vs, h.get? a = some oe ∧ Zc cls d oe ∧ oe.data = .fields vs
theorem exK_ok {P : Program} {w : World} {H : Hp} {h : Heap} {a : Addr} {cls : Value} {d : Option Addr} {oe : Obj} {vs : Array Value} (he : h.get? a = some oe) (hz : Zc cls d oe) (hd : oe.data = .fields vs) : ObjOk P w H h a (exK a cls d) :=
  ⟨⟨oe, vs, he, hz, hd⟩, ⟨oe, he⟩, fun h1 h2 ⟨oe, vs, e, z, d⟩ k => ⟨oe, vs, k _ e, z, d⟩⟩
theorem exK_at {P : Program} {w : World} {H : Hp} {h : Heap} {a : Addr} {cls : Value} {d : Option Addr} (hok : HOk P w H h) (e : H a = some (exK a cls d)) : ∃ oe vs, h.get? a = some oe ∧ Zc cls d oe ∧ oe.data = .fields vs := by
  have x : ObjOk P w H h a (.ext fun h => ∃ oe vs, h.get? a = some oe ∧ Zc cls d oe ∧ oe.data = .fields vs) := hok a _ e
  exact x.1
section
variable {X : Cx} {pins : List (Addr × Obj)} {σ : L2.St} {H : Hp} {s : Shared} {a : Addr}
/-- an object of ours that was not tracked is tracked from now on -/
theorem inv_track {oe : Obj} {vs : Array Value} {cls : Value} {d : Option Addr} (I : Inv X pins σ H s) (h0 : X.s_0.heap.get? a = none) (hH : H a = none) (he : s.heap.get? a = some oe) (hz : Zc cls d oe) (hd : oe.data = .fields vs) (hp : ∀ p ∈ X.pn ++ pins, p.1 ≠ a) :
    Inv X pins σ (upd H a (exK a cls d)) s := by
  have nB : ∀ {b : Addr} {o : HO}, H b = some o → upd H a (exK a cls d) b = some o := fun {b o} z => by
    rw [upd_ne (ne_of_none z hH)]
    exact z
  have nL : X.env.locals ≠ a := fun z => by
    obtain ⟨m, ⟨o, es, ep, e1, e2, _⟩, _⟩ := I.loc
    rw [z, he] at e1
    cases e1
    rw [hd] at e2
    cases e2
  refine ⟨I.ok, I.os, I.bare, ⟨I.base.keep, I.base.slot, fun b o z n hx => ?_, I.base.there, fun b xs z => nB (I.base.tups b xs z), fun b o u z => nB (I.base.frzs b o u z), fun b ps z => ?_⟩, I.loc, I.cell, ?_, fun x c z => ?_, fun p hm => ?_, fun b o z => ?_, I.len⟩
  · rw [upd_ne (fun q => by rw [q, h0] at z; cases z)]
    exact I.base.free b o z n hx
  · obtain ⟨more, q⟩ := I.base.tbls b ps z
    exact ⟨more, nB q⟩
  · rw [upd_ne nL]
    exact I.free
  · have nc : c ≠ a := fun q => by
      obtain ⟨v, o, e1, e2⟩ := I.cell x c z
      rw [q, he] at e1
      cases e1
      rw [hd] at e2
      cases e2
    rw [upd_ne nc]
    exact I.freeC x c z
  · obtain ⟨e1, e2, e3, e4, e5⟩ := I.pin p hm
    exact ⟨e1, by rw [upd_ne (hp p hm)]; exact e2, e3, e4, e5⟩
  · by_cases q : b = a
    · subst q
      rw [upd_same] at z
      cases z
      exact exK_ok he hz hd
    · rw [upd_ne q] at z
      exact (I.hok b o z).stay (fun _ _ _ w => w) (fun c w => nB w) (fun c xs w => nB w)
end
/-- the wish of a body: all that is raised is of one of the two classes -/
def wTwo (K : PySem.W.Frag) (c1 c2 : Value) (i n : Nat) (ts : Addr → TS) (D : Ends) : WX := fun cls d σ H => PySem.W.exmAny K cls [c1, c2] = some true ∧ ∀ a, H a = none → σ.length = n →
  ts a { nx := fun σ' H' => H' a = none → D.nx (σ'.set i none) (upd H' a (exK a cls d)), rt := fun _ _ => False, bk := fun _ _ => False, ct := fun _ _ => False } (σ.set i (some (.ref a))) H
section
variable {X : Cx} {x1 x2 n : Str} {C1 C2 : Addr} {i : Nat} {body suite : List Stmt} {b₀ : Stmt} {np1 np2 tp pos pos' : Pos} {kt : Nat} {tb : WX → TS} {ts : Addr → TS}
theorem ps_try_two (hs : X.stack = X.env :: X.outer) (hf : X.env.frame = some X.env.locals) (hex : X.ex = []) (hN : X.N.Nodup) (hi : X.N[i]? = some n) (hln : X.env.kindOf n = some .local) (hg1 : Gl X x1) (hm1 : X.mg x1 = some (.ref C1)) (hg2 : Gl X x2) (hm2 : X.mg x2 = some (.ref C2))
    (hb : ∀ (W : WX) (pn : List (Addr × Obj)) (xe : Value → Shared → Prop), Takes (X.tr pn xe) W → PassesOwn (model X.prog X.w) X.A X.env xe → PSs (X.tr pn xe) body (tb W))
    (hsu : ∀ (a : Addr) (pn : List (Addr × Obj)), PSs (X.suite a pn) (b₀ :: suite) (ts a))
    (hd1 : (x1 == ("__debug__" : Str)) = false := by decide) (hd2 : (x2 == ("__debug__" : Str)) = false := by decide) :
    PS X (.Try body [.ExceptHandler (some (.Tuple [.Name x1 np1, .Name x2 np2] kt tp)) (some n) (b₀ :: suite) pos'] [] [] pos) (fun D σ H => tb (wTwo X.K (.ref C1) (.ref C2) i X.N.length ts D) D σ H) := by
  refine ⟨fun pins s σ H D I h => wpAny_Try_except ?_⟩
  have ok := I.ok
  have hfr : X.A.frames = some (X.env :: X.outer) := by rw [ok.frames, hs]
  refine wpAny_mono ((hb _ (X.pn ++ pins) (fun e s₁ => wpAny (model X.prog X.w) X.A (noteFrame e X.env) (fun _ s₂ => wpAny (model X.prog X.w) X.A (setFlight e none) (fun _ s₃ =>
    wpAny (model X.prog X.w) X.A (handleBy e X.env [.ExceptHandler (some (.Tuple [.Name x1 np1, .Name x2 np2] kt tp)) (some n) (b₀ :: suite) pos']) (SP X pins D) X.xe s₃) X.xe s₂) X.xe s₁) ?_ PassesOwn.looking).run [] s σ H D (I.toTry _) h) ?_ fun e s1 he => he
  · -- what is raised is caught
    rintro u s' ⟨a, B, sI, pins', σ', H', cls, d, rfl, J', nb, up, sky, na, os, ag, hmatch, hyes⟩
    have J : Inv X pins σ' H' sI := J'.ofTry ok
    rw [show (X.tr (X.pn ++ pins) _).stack = X.env :: X.outer from hs] at sky
    show wpAny (model X.prog X.w) X.A (noteFrame (.ref a) X.env) _ _ _
    refine Sky.land Zc.steady hfr hf sky fun h3 fl3 up3 => ?_
    have J3 : Inv X pins σ' H' { s' with heap := h3 } := J.landed nb fl3.1 (up.trans up3) os ag
    obtain ⟨oe3, vs3, he3, hz3, hd3⟩ := fl3.there
    have aFr : a ∉ frs (X.env :: X.outer) := fun hm => by
      obtain ⟨_, o', e', hnf⟩ := fl3.2.2.1.mem hm
      rw [he3] at e'
      cases e'
      exact hnf _ hd3
    have nL : a ≠ X.env.locals := fun z => aFr (List.mem_filterMap.mpr ⟨X.env, List.mem_cons_self, by rw [hf, z]⟩)
    have nF : a ∉ X.fs := fun hm => by
      obtain ⟨e, he, q⟩ := List.mem_filterMap.mp hm
      exact aFr (List.mem_filterMap.mpr ⟨e, List.mem_cons_of_mem _ he, q⟩)
    have notOld : ∀ b o, sI.heap.get? b = some o → b ≠ a := fun b o e z => by
      subst z
      have q := nb b o e (by rw [hs]; exact aFr)
      rw [fl3.2.1] at q
      cases q
    have s0none : X.s_0.heap.get? a = none := by
      cases q : X.s_0.heap.get? a with
      | none => rfl
      | some o =>
        obtain ⟨o', q'⟩ := J.base.there a o q (by rw [hex]; simp)
        exact absurd rfl (notOld a o' q')
    have pinsNe : ∀ p ∈ X.pn ++ pins, p.1 ≠ a := fun p hp => notOld p.1 p.2 (J.pin p hp).1
    have S3 := J3.suite he3 hd3 na nL nF
    refine wpAny_handleBy_cons (codeAny_handlers_test ?_) (by intro q; cases q)
    refine wpAny_Tuple_spliced ?_
    show wpAny _ _ (spliced [(false, eval (.Name x1 np1) X.env), (false, eval (.Name x2 np2) X.env)]) _ _ _
    refine PySem.Calls.spliced_cons (ld_glob (X := X.suite a ((a, oe3) :: (X.pn ++ pins))) S3 hg1 hm1 (PySem.Calls.spliced_cons (ld_glob (X := X.suite a ((a, oe3) :: (X.pn ++ pins))) S3 hg2 hm2 (PySem.Calls.spliced_nil ⟨(by rw [sizeLine_eq]; simp), ?_⟩) hd2)) hd1)
    have k4 : ∀ b o, h3.get? b = some o → (h3.push ({ cls := .type "tuple", data := .seq [Value.ref C1, Value.ref C2].toArray } : Obj)).get? b = some o := fun b o e => Heap.get?_push_of_some _ e
    have fl4 := PySem.FabX.flying_keep fl3 k4
    have J4 : Inv X pins σ' H' { s' with heap := h3.push ({ cls := .type "tuple", data := .seq [Value.ref C1, Value.ref C2].toArray } : Obj) } := J3.kept (t' := s'.toks) k4
    have LT : PySem.W.Looks (model X.prog X.w) (h3.push ({ cls := .type "tuple", data := .seq [Value.ref C1, Value.ref C2].toArray } : Obj)) (typeOf (.ref a)) cls := fun A Q E s k q => wpAny_typeOf_ref (k _ _ (k4 _ _ he3)) (by rw [hz3.1]; exact q)
    refine (PySem.W.exm_tup2 (M := model X.prog X.w) J4.kIn LT (Heap.get?_push_size _ rfl) hmatch).here ?_
    refine codeAny_handlers_suite_as ?_
    refine HandSPX.lands_againZ fl4 fun h5 fl5 up5 => ?_
    have J5 : Inv X pins σ' H' { s' with heap := h5 } := J.landed nb fl5.1 ((up.trans up3).trans ((Heap.UpToSlots.of_keeps k4).trans up5)) os ag
    obtain ⟨oe5, vs5, he5, hz5, hd5⟩ := fl5.there
    have S5 := J5.suite he5 hd5 na nL nF
    refine store_ok (X := X.suite a ((a, oe5) :: (X.pn ++ pins))) (v := .ref a) S5 hN hi (.inl hln) rfl (fun s6 S6 => ?_) (.inr hln)
    refine wpAny_mono ((hsu a ((a, oe5) :: (X.pn ++ pins))).run [] s6 _ H' _ S6 (hyes a na J.len)) ?_ (fun _ _ z => False.elim z)
    intro fl s7 hsp
    cases fl with
    | next =>
      obtain ⟨σ7, H7, S7, q7⟩ := hsp
      have pin7 := S7.pin (a, oe5) (List.mem_append_left _ List.mem_cons_self)
      have U7 : Inv X pins σ7 H7 s7 := S7.unsuite ok
      have K7 := inv_track U7 s0none pin7.2.1 pin7.1 hz5 hd5 pinsNe
      exact gone_ok K7 hN hi hln fun s8 J8 => ⟨_, _, J8, q7 pin7.2.1⟩
    | ret u =>
      obtain ⟨_, _, _, _, _, q7⟩ := hsp
      exact q7.elim
    | brk =>
      obtain ⟨_, _, _, q7⟩ := hsp
      exact q7.elim
    | cont =>
      obtain ⟨_, _, _, q7⟩ := hsp
      exact q7.elim
  · intro fl s1 hsp
    cases fl with
    | next =>
      obtain ⟨σ', H', J', q⟩ := hsp
      exact wpAny_execs_nil ⟨σ', H', J'.ofTry ok, q⟩
    | ret u =>
      obtain ⟨v, σ', H', J', r, q⟩ := hsp
      exact ⟨v, σ', H', J'.ofTry ok, r, q⟩
    | brk =>
      obtain ⟨σ', H', J', q⟩ := hsp
      exact ⟨σ', H', J'.ofTry ok, q⟩
    | cont =>
      obtain ⟨σ', H', J', q⟩ := hsp
      exact ⟨σ', H', J'.ofTry ok, q⟩
end
end Fab
namespace PySem
namespace FabX
open PySem.W PySem.Calls PySem.Spec PyProof.Rows
section
variable {prog : Program} {w : World} {A : Around} {E : Value → Shared → Prop} {s : Shared} {K : Frag} {x D : Addr} {ox : Obj} {od : Option Obj}
/-- a data descriptor of the class is found whatever the instance holds -/
theorem find_data {C : Addr} {name : Str} {a g : Value} (hc : hasDictIn K C = true) (ha : findIn K (.ref C) name = some (some a)) (hg : specialIn K a "__get__" = some (some g)) (ht : takesIn K a = some true) : findObj K C od name = some (.bind g a) := by
  obtain ⟨cd, hcd, _⟩ := any_some hc
  unfold findObj
  rw [hcd, Option.bind_some, ha, Option.bind_some]
  simp [hg, ht]
/-- e.__class__, e an own exception with or without a dict of its own -/
theorem class_of_exc {Q : Option Value → Shared → Prop} (C : L2.ExcC K D) (X : K.In s.heap) (I : InstAt s.heap x ox D od) (h : Q (some (.ref D)) { s with toks := s.toks + 1 }) : wpAny (model prog w) A (getAttr? (.ref x) "__class__") Q E s := by
  have hf : findObj K D od "__class__" = some (.bind (.builtin "getset_descriptor.__get__") (.builtin "object.__class__")) := find_data C.hd C.ha C.hn C.ht
  obtain ⟨hp, g, d, t, os⟩ := s
  have LT := I.type (M := model prog w)
  have LG := looks_findIn (M := model prog w) X C.hg
  have LH := looks_findIn (M := model prog w) X C.hk
  have LF := looks_find (M := model prog w) X I hf
  have isE : Looks (model prog w) hp (isInstance (.ref x) (.type "BaseException")) true := LT.andThen (looks_subIn X C.hs)
  have ne : (Value.builtin "BaseException.__getattribute__" == Value.builtin "object.__getattribute__") = false := by decide +kernel
  unfold getAttr? getAttrBy? getAttrBy
  refine wpAny_bind (wpAny_mkText (wpAny_bind (wpAny_attempt (wpAny_holding (wpAny_bind (LT.at (wpAny_bind (LG.at ?_))))))))
  show wpAny _ _ (if (onTheHeap (Value.ref D) && Value.builtin "BaseException.__getattribute__" == Value.builtin "object.__getattribute__") = true then _ else _) _ _ _
  rw [if_neg (by rw [ne, Bool.and_false]; exact Bool.false_ne_true)]
  unfold getAttrByItsOwn hookBefore
  rw [if_pos (show onTheHeap (Value.ref D) = true from rfl)]
  refine wpAny_bind (LH.at (wpAny_bind (wpAny_attempt (wpAny_holding ?_))))
  unfold callGetattribute
  rw [if_neg (show ¬ (false && onTheHeap (Value.builtin "BaseException.__getattribute__")) = true from Bool.false_ne_true)]
  unfold boundAndCalled
  rw [PySem.F.excAttr_ValueError.ga.bind (.ref x)]
  refine wpAny_bind (wpAny_pure (wpAny_call (codeAny_call_builtin PySem.F.excAttr_ValueError.ga.plain PySem.F.entry_bexc_ga ?_)))
  refine @check_slot (model prog w) _ _ ⟨hp, g, d, t + 1, os⟩ "BaseException.__getattribute__" "BaseException" "__getattribute__" (.ref x) [.str "__class__" t] [] _ (by decide +kernel) (by decide +kernel) isE (PySem.F.args_bexc_ga (.ref x) (.str "__class__" t)) ?_
  unfold Builtin.«object.__getattribute__»
  refine wpAny_bind (wpAny_of_eq (a := ((Value.ref x : Value), [Value.str "__class__" t])) (by first | rfl | (simp only [slotArgs]; rfl)) (wpAny_bind (wpAny_pure (wpAny_bind (LT.at (wpAny_bind (LF.at ?_)))))))
  show wpAny _ _ (holding [Value.builtin "object.__class__"] (call (.builtin "getset_descriptor.__get__") [.builtin "object.__class__", .ref x, .ref D]) >>= ret) _ _ _
  refine wpAny_bind (wpAny_holding (wpAny_call (class_get (s := ⟨hp, g, d, t + 1, os⟩) (ox := ox) (od := od) X I C.hm (wpAny_pure ?_))))
  show wpAny (model prog w) _ (handedOut (.ref D)) _ _ _
  rw [handedOut_of (v := Value.ref D) rfl]
  first
    | exact wpAny_pure (wpAny_pure h)
    | exact wpAny_pure (wpAny_bind (wpAny_pure (wpAny_pure h)))
    | exact wpAny_pure h
/-- what isinstance asks of such an exception -/
theorem kit_exc (C : L2.ExcC K D) : KitX K (.ref x) (.ref D) (fun h => ∃ ox od, InstAt h x ox D od) := by
  obtain ⟨cd, hcd, _⟩ := any_some C.hd
  obtain ⟨o, ho, hob⟩ : ∃ o, K.lookup D = some o ∧ ∃ cc dd sl, o = ⟨cc, dd, .cls cd, sl⟩ := by
    unfold clsIn at hcd
    split at hcd
    · rename_i c' d' cd' sl' ho
      cases hcd
      exact ⟨_, ho, _, _, _, rfl⟩
    · cases hcd
  obtain ⟨cc, dd, sl, rfl⟩ := hob
  refine ⟨fun _ _ _ ⟨_, _, I⟩ => I.type, fun _ _ X _ A' Q' E' s' k q => ?_, fun h tp dt its n sl' X htp => Bool.eq_false_iff.mpr fun q => ?_, fun X ⟨_, _, I⟩ k => class_of_exc C X I k⟩
  · unfold isType loadHead
    exact wpAny_bind (wpAny_loadPart (k _ _ (X _ _ ho)) (wpAny_pure q))
  · obtain rfl : D = tp := Value.ref.inj (beq_iff_eq.mp q)
    cases (X _ _ ho).symm.trans htp
end
end FabX
end PySem
namespace Fab
open PySem L2 PySem.Spec PyProof.Rows
section
variable {X : Cx} {a D : Addr} {d : Option Addr}
/-- its dict, where it has one, stands -/
def XdAt (H : Hp) : Option Addr → Prop
  | some dd => ∃ fs, H dd = some (.xd fs)
  | none => True
theorem inst_of {P : Program} {w : World} {H : Hp} {h : Heap} (hok : HOk P w H h) (e : H a = some (exK a (.ref D) d)) (hd : XdAt H d) : ∃ ox od, PySem.W.InstAt h a ox D od := by
  obtain ⟨oe, vs, he, hz, hv⟩ := exK_at hok e
  have no : PySem.W.notCls oe = true := by
    unfold PySem.W.notCls
    rw [hv]
    all_goals rfl
  cases d with
  | none => exact ⟨oe, none, he, hz.1, no, by rw [hz.2]; exact True.intro⟩
  | some dd =>
    obtain ⟨fs, hfs⟩ := hd
    obtain ⟨mA, ⟨od, es, ep, ho, _⟩, _⟩ := hok dd _ hfs
    exact ⟨oe, some od, he, hz.1, no, by rw [hz.2]; exact ho⟩
/-- isinstance(e, c), e a kept exception -/
def rIsK (K : PySem.W.Frag) : List V → Hp → VK → Prop := fun xs H Q => ∃ (a D : Addr) (d : Option Addr) (c : V) (cv : Value) (b : Bool), xs = [.ref a, c] ∧ ClsV c cv ∧ H a = some (exK a (.ref D) d) ∧ XdAt H d ∧ ExcC K D ∧ PySem.W.kitOne K (.ref D) cv = some b ∧ Q (.bl b) H
theorem call_isK : CallR X (.builtin "isinstance") (rIsK X.K) := by
  intro pins s σ H xs us Q I r h
  obtain ⟨a, D, d, c, cv, b, rfl, hc, ha, hd, C, e, q⟩ := h
  obtain ⟨u1, u2, rfl, r1, r2⟩ := vals2 r
  cases (show u1 = Value.ref a from r1)
  obtain rfl := hc.eq r2
  exact PySem.W.kia_one (PySem.FabX.kit_exc C) I.kIn (inst_of I.hok ha hd) e (fun z => nomatch z) fun tk => ⟨.bl b, H, I.tok tk, rfl, q⟩
/-- e.f, e a kept exception -/
def tXfK (K : PySem.W.Frag) (f : Str) (te : TE) : TE := fun σ H Q => te σ H fun x H1 => ∃ (a C dd : Addr) (fs : List (Str × V)) (v : V), x = .ref a ∧ H1 a = some (exK a (.ref C) (some dd)) ∧ XfC K C ∧ PySem.W.findIn K (.ref C) f = some none ∧ H1 dd = some (.xd fs) ∧ fs.lookup f = some v ∧ Q v H1
theorem pe_xfK {e : Expr} {te : TE} {pos : Pos} {f : Str} (he : PE X e te) (hb : attributeBase e f X.env (eval e X.env) = eval e X.env := by rfl) : PE X (.Attribute e f pos) (tXfK X.K f te) := by
  refine ⟨fun pins s σ H Q I h => attr_of hb (thn (he.run pins s σ H _ I h) fun u s1 ⟨x, H1, I1, rx, a, C, dd, fs, v, ex, ea, T, no, ed, hl, q⟩ => ?_)⟩
  subst ex
  cases (show u = Value.ref a from rx)
  obtain ⟨oe, vs, he1, hz, hv⟩ := exK_at I1.hok ea
  have hx : ObjOk X.prog X.w H1 s1.heap dd (.xd fs) := I1.hok dd _ ed
  obtain ⟨mA, hns, hr⟩ := hx
  obtain ⟨od, ho, hlk⟩ := lookIn_ns hns
  obtain ⟨u, hu, ru⟩ := RelO.some_of (v := v) (o := mA f) (by rw [← hl]; exact hr f)
  have no' : PySem.W.notCls oe = true := by
    unfold PySem.W.notCls
    rw [hv]
    all_goals rfl
  exact HandSPX.exc_get I1.kIn ⟨he1, hz.1, no', by rw [hz.2]; exact ho⟩ T.ga T.gg T.exC (PySem.W.findObj_own T.hdC no rfl (by rw [hlk, hu])) (handed_of ru) ⟨v, H1, I1.tok _, ru, q⟩
end
end Fab
set_option maxHeartbeats 4000000
namespace Fab
open PySem L2 PySem.FabX
/-- the classes of exceptions that a law asks for -/
inductive Kd where
  | row | turn | place | number | other | great | text | way | nothing
  deriving DecidableEq
def Kd.name : Kd → Str
  | .row => "BadRow" | .turn => "BadTurn" | .place => "BadPlace" | .number => "BadNumber" | .other => "OtherLength" | .great => "TooGreat" | .text => "BadText" | .way => "BadWay" | .nothing => "NothingLeft"
def Kd.fld : Kd → Str
  | .row => "place" | .turn => "place" | .place => "value" | .number => "value" | .other => "" | .great => "most" | .text => "place" | .way => "value" | .nothing => ""
/-- the classes that have a field -/
def Kd.has : Kd → Bool
  | .other => false | .nothing => false | _ => true
/-- the classes in the order in which the laws ask for them -/
abbrev kds9 : List Kd := [.row, .turn, .place, .number, .other, .text, .way, .nothing, .great]
abbrev wds9 : List Str := ["BadRow", "BadTurn", "BadPlace", "BadNumber", "OtherLength", "BadText", "BadWay", "NothingLeft", "TooGreat"]
structure Exs (K : PySem.W.Frag) (mg : Str → Option Value) (CF : Addr) (C : Kd → Addr) : Prop where
  mgF : mg "FaceError" = some (.ref CF)
  mgc : ∀ k, mg k.name = some (.ref (C k))
  exc : ∀ k, ExcC K (C k)
  kit : ∀ k j, PySem.W.kitOne K (.ref (C k)) (.ref (C j)) = some (decide (k = j))
  kve : ∀ k, PySem.W.kitOne K (.ref (C k)) (.type "ValueError") = some (!decide (k = .great))
  xf : ∀ k, XfC K (C k)
  no : ∀ k, PySem.W.findIn K (.ref (C k)) k.fld = some none
  any : ∀ k, PySem.W.exmAny K (.ref (C k)) [.ref CF, .ref (C .great)] = some true
def Qh (Q : VK) : VK := fun v H => ∀ p H', Same H H' → H' p = some (.lst [v]) → Q (.ref p) H'
/-- the tuple that is told of an exception -/
def TdT (k : Kd) (v : V) : List V := if k.has = true then [.str k.name, v] else [.str k.name]
/-- what is wanted of an exception that is told -/
def Et (C : Kd → Addr) (Q : VK) : XK := fun cls d H => ∃ k : Kd, cls = .ref (C k) ∧ ((k.has = true ∧ ∃ dd v, d = some dd ∧ H dd = some (.xd [(k.fld, v)]) ∧ ∀ p H', Same H H' → H' p = some (.tup (TdT k v)) → Q (.ref p) H') ∨
  (k.has = false ∧ d = none ∧ ∀ p H', Same H H' → H' p = some (.tup (TdT k .non)) → Q (.ref p) H'))
theorem pe_cl {X : Cx} {x : Str} {c : Addr} {pos : Pos} (hg : Gl X x) (hm : X.mg x = some (.ref c)) (hd : (x == ("__debug__" : Str)) = false := by decide) : PE X (.Name x pos) (tC (.ref c)) := pe_glob hg hm rfl hd
theorem Same.new {H : Hp} {p : Addr} {o : HO} (h : H p = none) : Same H (upd H p o) := fun a u z => by
  rw [upd_ne (ne_of_none z h)]
  exact z
end Fab
set_option maxHeartbeats 4000000
namespace PySem
namespace FabX
open PySem PySem.W PySem.Calls PyProof.Rows
open Builtin
set_option maxHeartbeats 1000000 in
theorem meets_enumerate_new1 {v : Value} {o : Obj} {H : Heap → Prop} (B : Begins v o H) :
    Meets (Builtin.«enumerate.__new__» ⟨[.type "enumerate", v], []⟩) (fun _ R s => H s.heap ∧
      R (.ok (.ret (.ref (s.heap.push o).objs.size))) { s with heap := (s.heap.push o).push { cls := .type "enumerate", data := .fields #[.none, .bool false, .ref s.heap.objs.size, rawInt 0, .none, .none] } }) :=
  .of_wp fun prog w A R s h => by
    obtain ⟨hp, g, d, tk, os⟩ := s; obtain ⟨h1, h⟩ := h
    have hsub := sub_enumerate
    have q1 : ∀ {A' : Around} {E : Value → Shared → Prop} {Q : Value → Shared → Prop}, Q (.ref hp.objs.size) ⟨hp.push o, g, d, tk, os⟩ → wpAny (model prog w) A' (pyIter v) Q E ⟨hp, g, d, tk, os⟩ :=
      fun q => B.iter prog w _ _ ⟨hp, g, d, tk, os⟩ _ h1 q
    wp_walk using q1
    refine wpAny_stack_any fun st => wpAny_pure ?_
    split
    · rename_i c _ _ _ _ _
      cases (c == Value.type "enumerate")
      · wp_walk using q1
        exact ⟨_, rfl, h⟩
      · wp_walk using q1
        exact ⟨_, rfl, h⟩
    · wp_walk using q1
      exact ⟨_, rfl, h⟩
section
variable {prog : Program} {w : World} {A : Around} {E : Value → Shared → Prop} {s : Shared}
theorem enum_begins1 {v : Value} {o : Obj} {H : Heap → Prop} {Q : Value → Shared → Prop} (B : Begins v o H) (h1 : H s.heap)
    (h : ∀ h', IsEnum h' (s.heap.objs.size + 1) s.heap.objs.size 0 .none → h'.get? s.heap.objs.size = some o → h'.objs.size = s.heap.objs.size + 2 →
      (∀ b o, s.heap.get? b = some o → h'.get? b = some o) → Q (.ref (s.heap.objs.size + 1)) { s with heap := h' }) :
    wpAny (model prog w) A (call (.type "enumerate") [v]) Q E s := by
  refine callType_new F.called_enumerate (by decide) (F.typeCall_enumerate_1 _) (F.newCall_enumerate_1 _) (fun obj => F.args_object_init_2 obj _) F.entry_enumerate_new
    (meets_enumerate_new1 B) ⟨h1, ?_⟩
  have hz : (s.heap.push o).objs.size = s.heap.objs.size + 1 := Heap.size_push ..
  show _ ∧ _
  rw [hz]
  have he : IsEnum ((s.heap.push o).push { cls := .type "enumerate", data := .fields #[.none, .bool false, .ref s.heap.objs.size, rawInt 0, .none, .none] }) (s.heap.objs.size + 1) s.heap.objs.size 0 .none := by
    have := Heap.get?_push_size (s.heap.push o) (o := { cls := .type "enumerate", data := .fields #[.none, .bool false, .ref s.heap.objs.size, rawInt 0, .none, .none] }) rfl
    rw [hz] at this; exact this
  refine ⟨⟨_, he, rfl⟩, h _ he (Heap.get?_push_of_some _ (Heap.get?_push_size _ B.free)) (by rw [Heap.size_push, hz]) fun b o x => Heap.get?_push_of_some _ (Heap.get?_push_of_some _ x)⟩
theorem enumT_end {e it a : Addr} {j : Int} {i : Nat} {items : Array Value} {old : Value} {Q : Option Value → Shared → Prop} (hh : A.handled = none) (he : IsEnum s.heap e it j old) (hit : s.heap.IsTupleIter it a i) (hl : s.heap.IsTuple a items) (hx : items[i]? = none)
    (hQ : ∀ h', Heap.ExtBut it s.heap h' → Q none { s with heap := h' }) : wpAny (model prog w) A (pyNext (.ref e)) Q E s := by
  have hT : s.TypeIs (.ref e) "enumerate" := ⟨_, he, rfl⟩
  unfold pyNext
  refine wpAny_bind (wpAny_attempt (wpAny_callSpecial?_slot (name := Str.ofString "__next__") hT F.slot_enumerate_next
    (wpAny_call_entry F.slot_enumerate_next hT F.entry_enumerate_next ?_ (F.args_enumerate_next_1 _))))
  show wpAny _ _ (field (.ref e) 2 >>= _) _ _ _
  refine wpAny_bind (wpAny_field he rfl (x := .ref it) rfl ?_)
  refine wpAny_bind (wpAny_nextOf_tuple_end (A := A.in1) hh hit hl hx fun h' x he' hx' => ?_)
  obtain ⟨o, ho, hc⟩ := hx'
  refine wpAny_bind (wpAny_isInstance (T := "StopIteration") (b := true) ⟨o, ho, hc⟩ isSubtype_stop ?_)
  exact wpAny_pure (hQ _ he')
end
end FabX
end PySem
namespace Fab
open PySem L2 PySem.Spec PyProof.Rows
/-- the tuple at a as it stands at each turn, each item in a new pair -/
def IteT (K : PySem.W.Frag) (a : Addr) : It :=
  ⟨fun i H => ∃ (xs : List V) (x : V), SqT K H a xs ∧ xs[i]? = some x, fun i H v H' => ∃ T x, v = .ref T ∧ H T = none ∧ H' = upd H T (.tup [.int (i : Nat), x]) ∧ ∀ xs, SqT K H a xs → xs[i]? = some x, fun i H => ∃ xs : List V, SqT K H a xs ∧ xs.length ≤ i⟩
theorem turn_enumT {P : Program} {w : World} {K : PySem.W.Frag} {elts : List Expr} {kk : Nat} {tpos : Pos} (a e it : Addr) :
    Turn P w K (.Tuple elts kk tpos) (IteT K a) [e, it] e (fun i h => (∃ old, IsEnum h e it ((i : Nat) : Int) old) ∧ h.IsTupleIter it a i ∧ e ≠ it ∧ a ≠ it ∧ a ≠ e) where
  mem := by simp
  obj := fun i h st b hb => by
    obtain ⟨⟨old, he⟩, ⟨o, ho, hc, hd⟩, _⟩ := st
    have e' : b = e ∨ b = it := by simpa using hb
    rcases e' with z | z
    · rw [z]; exact ⟨_, he, fun v q => nomatch q⟩
    · rw [z]; exact ⟨o, ho, fun v q => by rw [hd] at q; cases q⟩
  keep := fun i h h' st k => let ⟨⟨old, he⟩, hi, hne⟩ := st; ⟨⟨old, k e (by simp) _ he⟩, hi.at fun o q => k it (by simp) o q, hne⟩
  item := by
    intro X hP hw hK hc i pins s σ H E I hf st hg
    subst hP hw hK
    obtain ⟨⟨old, he⟩, hit, hne, hai, hae⟩ := st
    obtain ⟨xs, x, hq, hx⟩ := hg
    obtain ⟨its, rv, p, hz⟩ := I.tuple hq
    obtain ⟨u, hu, ru⟩ := rv.get hx
    have hel : e < s.heap.objs.size := Heap.lt_size he
    have hil : it < s.heap.objs.size := by obtain ⟨_, q, _⟩ := hit; exact Heap.lt_size q
    have pT : s.heap.IsTuple a its.toArray := p
    have hlt : i < its.toArray.size := by
      have := (List.getElem?_eq_some_iff.mp hu).1
      simpa using this
    refine wpAny_pyNext_enum_itemD (Draws.tuple (A := X.A.in1) (I.ok.hd hc) it a hai its.toArray) he ⟨hit, pT⟩ hlt hne (by simp [hne, hae.symm]) fun x' h' tk hP' ho hst hT hsz hk => ?_
    have ex : x' = u := by
      have h1 : its.toArray[i]? = some x' := hP'
      rw [show its.toArray[i]? = some u by simpa using hu] at h1
      exact (Option.some.inj h1).symm
    subst ex
    refine ⟨_, rfl, wpAny_letOwnedTupleGo_enum (s := { s with heap := h', toks := tk + 1 }) ho fun h'' he' sb => ?_⟩
    have hT2 : h''.get? s.heap.objs.size = some { cls := .type "tuple", data := .seq #[.int i tk, x'] } := (sb.2 _ (Nat.ne_of_gt hel)).trans hT
    have new : ObjOk X.prog X.w (upd H s.heap.objs.size (.tup [.int (i : Nat), x])) h'' s.heap.objs.size (.tup [.int (i : Nat), x]) :=
      ⟨by show 2 ≤ sizeLine; decide, [.int i tk, x'], .cons ⟨_, rfl⟩ (.cons ru .nil), ⟨_, hT2, rfl, _, rfl⟩⟩
    have I1 : Inv X pins σ (upd H s.heap.objs.size (.tup [.int (i : Nat), x])) { s with heap := h'', toks := tk + 1 } :=
      I.turnedNew (ch := [e, it]) (fun b ob hb q => (sb.2 b (fun z => hb (by simp [z]))).trans (hk b ob (fun z => hb (by simp [z])) (fun z => hb (by simp [z])) q)) hf (Nat.le_refl _) new
    refine ⟨.ref s.heap.objs.size, _, I1, rfl, ⟨_, x, rfl, I.hok.fresh (Nat.le_refl _), rfl, fun ys hy => by rw [I.tuple_inj hy hq]; exact hx⟩, ⟨⟨x', ?_⟩, hst.1.at fun o q => (sb.2 it (Ne.symm hne)).trans q, hne, hai, hae⟩, fun b hb => ?_⟩
    · have e1 : ((i + 1 : Nat) : Int) = (i : Int) + 1 := by omega
      rw [e1]; exact he'
    · have hb' : b < s.heap.objs.size := by
        have e' : b = e ∨ b = it := by simpa using hb
        rcases e' with z | z
        · rw [z]; exact hel
        · rw [z]; exact hil
      rw [upd_ne (Nat.ne_of_lt hb')]
      exact (hf b hb).1
  done := by
    intro X hP hw hK hc i pins s σ H E I hf st hg
    subst hP hw hK
    obtain ⟨⟨old, he⟩, hit, hne, hai, hae⟩ := st
    obtain ⟨xs, hq, hx⟩ := hg
    obtain ⟨its, rv, p, hz⟩ := I.tuple hq
    obtain ⟨f0, f1, f2, f3, f4, f5⟩ := hf it (by simp)
    have hl := rv.length
    have pT : s.heap.IsTuple a its.toArray := p
    exact PySem.FabX.enumT_end (I.ok.hd hc) he hit pT (by simp; omega) fun h' eb => ⟨rfl, I.turned (t' := s.toks) (fun b o hb q => eb b o hb q) f0 f1 f3 f4 f5⟩
  self := fun A i s Q E st h => let ⟨⟨_, he⟩, _⟩ := st; wpAny_pyIter_enum he h
def iEnumA (K : PySem.W.Frag) (ta : TA) : TI := fun σ H R => ta σ H fun vs H1 => ∃ a xs, vs = [.ref a] ∧ ((SqL K H1 a xs ∧ R (Ite K a) H1) ∨ (SqT K H1 a xs ∧ R (IteT K a) H1))
theorem pi_enumA {X : Cx} {e : Expr} {ta : TA} {p pos tpos : Pos} {elts : List Expr} {kk : Nat} (hg : Gl X "enumerate") (hm : X.mg "enumerate" = none) (ha : PA X [e] ta) (hs : starEach [e] X.env = [(false, eval e X.env)] := by rfl) :
    PI X (.Tuple elts kk tpos) (.Call (.Name "enumerate" p) [e] [] pos) (iEnumA X.K ta) := by
  refine ⟨fun pins s σ H R I h => ?_⟩
  refine Call_ (ld_blt I hg hm boot_enumerate (PyProof.Rows.callWith_type1 (thn (ha.run pos pins s σ H _ I h) fun us s1 ⟨vs, H1, I1, r1, q1⟩ => ?_) hs rfl))
  obtain ⟨a, xs, ex, hq⟩ := q1
  subst ex
  cases r1 with
  | cons r rr =>
    cases rr
    cases r
    have fresh : ∀ b, b ∈ [s1.heap.objs.size + 1, s1.heap.objs.size] → FpOk X pins H1 b := fun b hb => by
      have e' : b = s1.heap.objs.size + 1 ∨ b = s1.heap.objs.size := by simpa using hb
      have hle : s1.heap.objs.size ≤ b := by
        rcases e' with z | z
        · rw [z]; exact Nat.le_add_right _ _
        · rw [z]; exact Nat.le_refl _
      exact I1.fpOk hle (I1.hok.fresh hle)
    rcases hq with ⟨hq, q⟩ | ⟨hq, q⟩
    · obtain ⟨its, rv, p', hz⟩ := I1.list hq
      refine call_enumerate_list p'.isList fun h' he hit hsz hk => wpAny_pyIter_enum he ?_
      have I2 : Inv X pins σ H1 { s1 with heap := h' } := I1.kept (t' := s1.toks) hk
      exact ⟨s1.heap.objs.size + 1, [s1.heap.objs.size + 1, s1.heap.objs.size], _, _, H1, rfl, I2, turn_enum a (s1.heap.objs.size + 1) s1.heap.objs.size, ⟨⟨.none, he⟩, hit, Nat.succ_ne_self _⟩, fresh, q⟩
    · obtain ⟨its, rv, p', hz⟩ := I1.tuple hq
      have pT : s1.heap.IsTuple a its.toArray := p'
      have al : a < s1.heap.objs.size := by obtain ⟨o, ho, _⟩ := pT; exact Heap.lt_size ho
      refine PySem.FabX.enum_begins1 (begins_tuple a its.toArray) pT fun h' he hit hsz hk => wpAny_pyIter_enum he ?_
      have I2 : Inv X pins σ H1 { s1 with heap := h' } := I1.kept (t' := s1.toks) hk
      exact ⟨s1.heap.objs.size + 1, [s1.heap.objs.size + 1, s1.heap.objs.size], _, _, H1, rfl, I2, turn_enumT a (s1.heap.objs.size + 1) s1.heap.objs.size, ⟨⟨.none, he⟩, ⟨_, hit, rfl, rfl⟩, Nat.succ_ne_self _, Nat.ne_of_lt al, Nat.ne_of_lt (Nat.lt_succ_of_lt al)⟩, fresh, q⟩
theorem walk_enumT {K : PySem.W.Frag} {a : Addr} {xs : List V} : Walk (IteT K a) xs.length (fun H => SqT K H a xs) (YPair (fun i => some (.int (i : Nat))) (fun i => xs[i]?)) := by
  refine ⟨fun i _ hi q => ⟨xs, xs[i], q, by simp [hi]⟩, fun _ q => ⟨xs, q, Nat.le_refl _⟩, fun i H v H' _ q y => ?_⟩
  obtain ⟨T, x, h1, h2, h3, h4⟩ := y
  exact ⟨T, .int (i : Nat), x, h1, h2, h3, rfl, h4 xs q⟩
end Fab
set_option maxHeartbeats 4000000
namespace Fab
open PySem L2 PySem.Spec PyProof.Rows
section
variable {X : Cx} {CX : CXT} {C f : Addr} {k : Nat} {fd : FuncData} {ps : List Str} {sp : Sp} {E : XK}
def rLenO (C : Addr) (sp : Sp) (E : XK) : List V → Hp → VK → Prop := fun xs H Q => ∃ a dx fs, xs = [.ref a] ∧ H a = some (.ins C dx fs) ∧ sp [.ref a] H (fun v H' => ∃ n : Int, v = .int n ∧ 0 ≤ n ∧ n < 2 ^ 63 ∧ Q (.int n) H') E
theorem call_lenO (F : FnOk X.prog X.w X.K X.mg X.base CX k f fd ps sp) (hs : PySem.W.findIn X.K (.ref C) "__len__" = some (some (.ref f))) (hf : PySem.W.isFn X.K (.ref f) = true) (hr : Room (k + 1) X.A) (hb : Binds X.K fd ps []) (hx : Passes CX X E) : CallR X (.builtin "len") (rLenO C sp E) := by
  intro pins s σ H xs us Q I r h
  obtain ⟨a, dx, fs, rfl, ha, h⟩ := h
  obtain ⟨u, rfl, rx⟩ := vals1 r
  cases rx
  obtain ⟨mA, J, _⟩ := ins_get I.hok ha
  obtain ⟨od, J, _⟩ := J.look
  obtain ⟨m, hF⟩ := I.fr
  refine PySem.W.len_K hF I.ok.mod.kin J hs hf ?_
  have e0 : Env0 X.prog X.w X.K X.mg X.base X.A.in1 X.stack s H := by
    have e := I.env0
    exact ⟨e.frames, e.mod, e.bs, e.bsz, e.funs, e.frf, e.hok, e.bare⟩
  have hl := F.len _ _ _ _ h
  have r2 : Vals [V.ref a] [Value.ref a] := .cons rfl .nil
  refine wpAny_call (codeAny_mono (F.run X.A.in1 X.stack s H ⟨[.ref a], []⟩ [.ref a] [.ref a] _ E hr.in1 e0 (by
    have := hb s [.ref a] I.kIn (by simpa using hl)
    simpa using this) r2 h) fun r s' hq => ?_)
  cases r with
  | error e => exact hx pins σ H s e s' I hq
  | ok fl =>
    cases fl with
    | ret w =>
      obtain ⟨z, H', I', rz, n, ez, h0, h1, q⟩ := I.after hq
      subst ez
      obtain ⟨t, rfl⟩ := rz
      exact ⟨⟨h0, h1⟩, .int n, H', I'.tok _, ⟨_, rfl⟩, q⟩
    | next => exact False.elim hq
    | brk => exact False.elim hq
    | cont => exact False.elim hq
theorem ifBound_objNe {M : Model} {A : Around} {E' : Value → Shared → Prop} {s : Shared} {K : PySem.W.Frag} {x C : Addr} {ox : Obj} {od : Option Obj} {args : List Value} {Q : Option Value → Shared → Prop} (X : K.In s.heap) (I : PySem.W.InstAt s.heap x ox C od) (hs : PySem.W.findIn K (.ref C) "__ne__" = some (some (.builtin "object.__ne__")))
    (h : wpAny M A (call (.builtin "object.__ne__") (.ref x :: args)) (fun v => Q (some v)) E' s) : wpAny M A (callSpecialIfBound? (.ref x) "__ne__" args) Q E' s := by
  simp only [callSpecialIfBound?, bindSpecialIfBound?]
  refine wpAny_holding (wpAny_bind (wpAny_bind (wpAny_bind (I.type.here ((PySem.W.looks_findIn X hs).here ?_)))))
  refine wpAny_bind (wpAny_askSetting (wpAny_ite ?_))
  have fin : wpAny M A (call (.builtin "object.__ne__") ([.ref x] ++ args) >>= fun v => pure (some v)) Q E' s := wpAny_bind (wpAny_mono h (fun v s' h' => wpAny_pure h') fun _ _ h' => h')
  split
  · exact wpAny_bind (wpAny_of_eq (F.cmp_object.ne.bind _) (wpAny_pure (by exact fin)))
  · exact wpAny_tryCatch (wpAny_bind (wpAny_of_eq (F.cmp_object.ne.bind _) (wpAny_pure (by exact fin))))
def rNeO (C : Addr) (sp : Sp) (E : XK) : R2 := fun x y H Q => ∃ a b dx dy fs gs, x = .ref a ∧ y = .ref b ∧ H a = some (.ins C dx fs) ∧ H b = some (.ins C dy gs) ∧ sp [.ref a, .ref b] H (fun v H' => ∃ c, v = .bl c ∧ Q (.bl (!c)) H') E
theorem op_neO (Fn : FnOk X.prog X.w X.K X.mg X.base CX k f fd ps sp) (hs : PySem.W.findIn X.K (.ref C) "__eq__" = some (some (.ref f))) (hf : PySem.W.isFn X.K (.ref f) = true) (hne : PySem.W.findIn X.K (.ref C) "__ne__" = some (some (.builtin "object.__ne__"))) (hm : PySem.W.mroIn X.K C (.type "object") = some true)
    (hr : Room (k + 1) X.A) (hb : Binds X.K fd ps []) (hx : Passes CX X E) : OpR X (compareOp .NotEq) (rNeO C sp E) := by
  intro pins s σ H x y v u Q I rx ry h
  obtain ⟨a, b, dx, dy, fs, gs, rfl, rfl, ha, hb', hr'⟩ := h
  cases rx
  cases ry
  show wpAny (model X.prog X.w) X.A (richCompare .NotEq (.ref a) (.ref b)) (EP X pins σ Q) X.xe s
  obtain ⟨mA, J, _⟩ := ins_get I.hok ha
  obtain ⟨mB, J', _⟩ := ins_get I.hok hb'
  obtain ⟨od, J, _⟩ := J.look
  obtain ⟨od', J', _⟩ := J'.look
  have hu : X.A.units + 1 < cLine := by have := hr.units; omega
  have hl := Fn.len _ _ _ _ hr'
  have r2 : Vals [V.ref a, V.ref b] [Value.ref a, Value.ref b] := .cons rfl (.cons rfl .nil)
  have e0 : Env0 X.prog X.w X.K X.mg X.base X.A.in1 X.stack s H := by
    have e := I.env0
    exact ⟨e.frames, e.mod, e.bs, e.bsz, e.funs, e.frf, e.hok, e.bare⟩
  have inner : wpAny (model X.prog X.w) X.A.in1 (call (.ref f) [.ref a, .ref b]) (fun v s' => ∃ c, v = .bool c ∧ EP X pins σ Q (.bool !c) s') X.xe s := by
    refine wpAny_call (codeAny_mono (Fn.run X.A.in1 X.stack s H ⟨[.ref a, .ref b], []⟩ [.ref a, .ref b] [.ref a, .ref b] _ E hr.in1 e0 (by
      have := hb s [.ref a, .ref b] I.kIn (by simpa using hl)
      simpa using this) r2 hr') fun r s' hq => ?_)
    cases r with
    | error e => exact hx pins σ H s e s' I hq
    | ok fl =>
      cases fl with
      | ret w =>
        obtain ⟨z, H', I', rz, c, ez, q⟩ := I.after hq
        subst ez
        cases rz
        exact ⟨c, rfl, .bl !c, H', I', rfl, q⟩
      | next => exact False.elim hq
      | brk => exact False.elim hq
      | cont => exact False.elim hq
  have entry : ∀ {Q' : Fin → Shared → Prop}, (∀ c s', EP X pins σ Q (.bool !c) s' → Q' (.done (.ret (.bool !c))) s') → wpAny (model X.prog X.w) X.A.in1 (Builtin.«object.__ne__» ⟨[.ref a, .ref b], []⟩) Q' X.xe s := by
    intro Q' hq
    unfold Builtin.«object.__ne__»
    have hu1 : X.A.in1.units < cLine := hu
    have step : wpAny (model X.prog X.w) X.A.in1 (callSpecialIfBound? (.ref a) "__eq__" [.ref b]) (fun r s' => ∃ c, r = some (.bool c) ∧ EP X pins σ Q (.bool !c) s') X.xe s :=
      PySem.W.ifBound_K I.kIn J hs hf (wpAny_mono inner (fun v s' ⟨c, e, q⟩ => ⟨c, by rw [e], q⟩) fun _ _ e => e)
    repeat (first | with_reducible refine wpAny_cRoomFor hu1 ?_ | (with_reducible refine wpAny_bind (wpAny_mono step (fun r s' z => ?_) fun _ _ e => e)) | wp_step)
    obtain ⟨c, rfl, q⟩ := z
    dsimp only
    repeat (first | with_reducible refine wpAny_truthy_bool ?_ | wp_step)
    exact hq c _ q
  have one : wpAny (model X.prog X.w) X.A (tryCompare (.ref a) "__ne__" (.ref b)) (fun r s' => ∃ v, r = some v ∧ EP X pins σ Q v s') X.xe s := by
    unfold tryCompare
    refine wpAny_bind (ifBound_objNe I.kIn J hne (wpAny_call (codeAny_call_builtin F.cmp_object.ne.plain F.cmpEntry_ne (PySem.W.check_slot F.cmpKind_ne F.cmpSplit_ne (J.type.andThen (PySem.W.looks_mroIn I.kIn hm)) (F.cmpArgs_ne _ _) (entry fun c s' q => ?_)))))
    exact wpAny_pure ⟨_, rfl, q⟩
  obtain ⟨m, hF⟩ := I.fr
  have hn : PySem.W.notFirst X.K C (.ref C) = true := by simp [PySem.W.notFirst]
  simp only [richCompare, cmpInfo_NotEq, oneThing_ref]
  refine wpAny_holding (wpAny_bind (wpAny_cRoomFor (Nat.lt_of_succ_lt hu) ?_))
  refine wpAny_bind (J.type.here (wpAny_bind (J'.type.here ?_)))
  split
  · rename_i q
    simp at q
  · refine wpAny_bind (wpAny_pure ?_)
    simp only [Bool.false_eq_true, if_false]
    refine wpAny_bind (wpAny_mono one (fun r s' z => ?_) fun _ _ e => e)
    obtain ⟨v, rfl, hq⟩ := z
    exact wpAny_pure hq
end
end Fab
set_option maxHeartbeats 4000000
namespace Fab
open PySem L2 PySem.FabX
abbrev sWhole : Stmt := top 13
abbrev sFault : Stmt := top 19
abbrev sXRow : Stmt := inClass (top 3) 0
abbrev sXTurn : Stmt := inClass (top 4) 0
abbrev sXPlace : Stmt := inClass (top 5) 0
abbrev sXNumber : Stmt := inClass (top 6) 0
abbrev sXGreat : Stmt := inClass (top 11) 0
abbrev sXText : Stmt := inClass (top 8) 0
abbrev sXWay : Stmt := inClass (top 9) 0
abbrev sRI : Stmt := inClass (top 18) 0
abbrev sRLen : Stmt := inClass (top 18) 1
abbrev sREq : Stmt := inClass (top 18) 2
/-- the errors that the text has, with a field -/
abbrev hasK : Kd → Bool
  | .row => true
  | .turn => true
  | .place => true
  | .number => true
  | .other => false
  | .great => true
  | .text => true
  | .way => true
  | .nothing => false
local macro_rules | `(tactic| walk_at "s") => `(tactic| simp [tSeq, tAsg, tOp, tUn, tVar, tC, gName, tCons, tNil, tCB, tCall, rI, rI0, rU, tRet, tDrop, tIfS, tNext, tIf, tTest, tNot, tOr, tAnd, tB, L2.start, CMul, CDiv, rIxF, rLenF, rIntF, sq_lst, sq_tup, tLstF, tTupF, gSub, rCatF, rInF, rNe, rEq, tAndV, tOrV, tNotV, tChain, rSIn, tSAdd, rSAdd])
/-- a value of which isinstance(.., int) is known -/
inductive Asked (K : PySem.W.Frag) (H : Hp) : V → Prop
  | int (i : Int) : Asked K H (.int i)
  | bl (b : Bool) : Asked K H (.bl b)
  | other {x : V} {t : Value} (ty : TyX K H x t) (no : PySem.W.kitOne K t (.type "int") = some false) (h1 : ∀ i, x ≠ .int i) : Asked K H x
def wholeV : V → Int → Int → Bool
  | .int i, lo, hi => decide (lo ≤ i) && decide (i ≤ hi)
  | _, _, _ => false
section
variable {P : Program} {w : World} {K : PySem.W.Frag} {mg : Str → Option Value} {base : Heap}
def spWhole (K : PySem.W.Frag) : Sp := fun vs H Q _ => ∃ (x : V) (lo hi : Int), vs = [x, .int lo, .int hi] ∧ Asked K H x ∧ Q (.bl (wholeV x lo hi)) H
theorem scWhole : FnScope ["value", "least", "most"] ["value", "least", "most"] (defScope sWhole) := ⟨rfl, rfl, rfl, by decide +kernel, rfl, by decide +kernel, by decide +kernel⟩
theorem ok_whole {f : Addr} {fd : FuncData} (F : Fun K "is_whole" "is_whole" sWhole f fd) (B : Blt mg) : FnOk P w K mg base CX0 1 f fd ["value", "least", "most"] (spWhole K) := by
  refine F.ok scWhole (fun vs H Q E h => ?_) (fun cdv A outer s H vs Q E hr h => ?_)
  · obtain ⟨x, lo, hi, rfl, _⟩ := h
    rfl
  · obtain ⟨x, lo, hi, rfl, ha, k⟩ := h
    refine ⟨_, (pss_one (ps_ret (pe_and (pe_callB call_isi (by rfl) B.isinstance (by decide +kernel) (pa_cons (pv 0) (pa_cons (pe_bltn (v := .ty "int") (by rfl) B.int (by decide +kernel) rfl) pa_nil))) (pe_and (pe_not (pe_callB call_isi (by rfl) B.isinstance (by decide +kernel) (pa_cons (pv 0) (pa_cons (pe_bltn (v := .ty "bool") (by rfl) B.bool (by decide +kernel) rfl) pa_nil)))) (pe_one (pe_chain op_le op_le (pv 1) (pv 0) (pv 2))))))), ?_⟩
    walk_at "s"
    cases ha with
    | int i =>
      refine ⟨.int i, .ty "int", .type "int", .type "int", true, rfl, .ty _, .base (.int i), kit_ty (by decide +kernel), .inr ⟨rfl, .int i, .ty "bool", .type "int", .type "bool", false, rfl, .ty _, .base (.int i), kit_ty (by decide +kernel), .inl ⟨rfl, i, rfl, ?_⟩⟩⟩
      unfold wholeV at k
      split
      · rename_i h1
        refine ⟨i, rfl, ?_⟩
        simpa [h1] using k
      · rename_i h1
        simpa [h1] using k
    | bl b => exact ⟨.bl b, .ty "int", .type "bool", .type "int", true, rfl, .ty _, .base (.bl b), kit_ty (by decide +kernel), .inr ⟨rfl, .bl b, .ty "bool", .type "bool", .type "bool", true, rfl, .ty _, .base (.bl b), kit_ty (by decide +kernel), .inr ⟨rfl, k⟩⟩⟩
    | @other x t ty no h1 =>
      refine ⟨x, .ty "int", t, .type "int", false, rfl, .ty _, ty, no, .inl ⟨rfl, ?_⟩⟩
      have e : wholeV x lo hi = false := by
        cases x with
        | int i => exact absurd rfl (h1 i)
        | _ => rfl
      rw [e] at k
      exact k
def spXI (newId : String) (bmB : List Value) (K : PySem.W.Frag) (f : Str) : Sp := fun vs H Q _ => ∃ (a C : Addr) (v : V), vs = [.ref a, v] ∧ H a = some (exo a C none) ∧ XCls newId bmB K C ∧ PySem.W.findIn K (.ref C) f = some none ∧
  ∀ dx, H dx = none → dx ≠ a → Q .non (upd (upd H dx (exd dx [(f, v)])) a (exo a C (some dx)))
/-- what the text says of FaceError -/
structure FaceC (K : PySem.W.Frag) (mg : Str → Option Value) (CF : Addr) : Prop where
  mgF : mg "FaceError" = some (.ref CF)
  gi : PySem.W.specialIn K (.ref CF) "__getattribute__" = some (some (.builtin "type.__getattribute__"))
  rd : PySem.W.readsIn K CF (.type "type") = true
  fi : PySem.W.findCls K (.ref CF) (.type "type") "__init__" = some (.val (.builtin "ValueError.__init__"))
abbrev bmV : List Value := [.type "ValueError", .type "Exception", .type "BaseException", .type "object"]
abbrev bmO : List Value := [.type "OverflowError", .type "ArithmeticError", .type "Exception", .type "BaseException", .type "object"]
theorem scXRow : FnScope ["self", "place"] ["self", "place"] (defScope sXRow) := ⟨rfl, rfl, rfl, by decide +kernel, rfl, by decide +kernel, by decide +kernel⟩
theorem ok_xRow {CF f : Addr} {fd : FuncData} (F : Fun K "__init__" "BadRow.__init__" sXRow f fd) (T : FaceC K mg CF) : FnOk P w K mg base CX0 1 f fd ["self", "place"] (spXI "ValueError.__new__" bmV K "place") := by
  refine F.ok scXRow (fun vs H Q E h => ?_) (fun cdv A outer s H vs Q E hr h => ?_)
  · obtain ⟨a, C, v, rfl, _⟩ := h
    rfl
  · obtain ⟨a, C, v, rfl, ha, X, no, k⟩ := h
    refine ⟨_, pss_cons (ps_expr (pe_xiC eb_value (by rfl) T.mgF T.gi T.rd T.fi (by decide +kernel) (pa_cons (pv 0) (pa_cons pe_str pa_nil)))) (pss_one (ps_xst eb_value (pv 0) (pv 1))), ?_⟩
    exact ⟨_, rfl, a, C, _, rfl, by decide, X, ha, _, rfl, _, rfl, a, C, rfl, X, no, ha, k⟩
theorem scXTurn : FnScope ["self", "place"] ["self", "place"] (defScope sXTurn) := ⟨rfl, rfl, rfl, by decide +kernel, rfl, by decide +kernel, by decide +kernel⟩
theorem ok_xTurn {CF f : Addr} {fd : FuncData} (F : Fun K "__init__" "BadTurn.__init__" sXTurn f fd) (T : FaceC K mg CF) : FnOk P w K mg base CX0 1 f fd ["self", "place"] (spXI "ValueError.__new__" bmV K "place") := by
  refine F.ok scXTurn (fun vs H Q E h => ?_) (fun cdv A outer s H vs Q E hr h => ?_)
  · obtain ⟨a, C, v, rfl, _⟩ := h
    rfl
  · obtain ⟨a, C, v, rfl, ha, X, no, k⟩ := h
    refine ⟨_, pss_cons (ps_expr (pe_xiC eb_value (by rfl) T.mgF T.gi T.rd T.fi (by decide +kernel) (pa_cons (pv 0) (pa_cons pe_str pa_nil)))) (pss_one (ps_xst eb_value (pv 0) (pv 1))), ?_⟩
    exact ⟨_, rfl, a, C, _, rfl, by decide, X, ha, _, rfl, _, rfl, a, C, rfl, X, no, ha, k⟩
theorem scXText : FnScope ["self", "place"] ["self", "place"] (defScope sXText) := ⟨rfl, rfl, rfl, by decide +kernel, rfl, by decide +kernel, by decide +kernel⟩
theorem ok_xText {CF f : Addr} {fd : FuncData} (F : Fun K "__init__" "BadText.__init__" sXText f fd) (T : FaceC K mg CF) : FnOk P w K mg base CX0 1 f fd ["self", "place"] (spXI "ValueError.__new__" bmV K "place") := by
  refine F.ok scXText (fun vs H Q E h => ?_) (fun cdv A outer s H vs Q E hr h => ?_)
  · obtain ⟨a, C, v, rfl, _⟩ := h
    rfl
  · obtain ⟨a, C, v, rfl, ha, X, no, k⟩ := h
    refine ⟨_, pss_cons (ps_expr (pe_xiC eb_value (by rfl) T.mgF T.gi T.rd T.fi (by decide +kernel) (pa_cons (pv 0) (pa_cons pe_str pa_nil)))) (pss_one (ps_xst eb_value (pv 0) (pv 1))), ?_⟩
    exact ⟨_, rfl, a, C, _, rfl, by decide, X, ha, _, rfl, _, rfl, a, C, rfl, X, no, ha, k⟩
theorem scXWay : FnScope ["self", "value"] ["self", "value"] (defScope sXWay) := ⟨rfl, rfl, rfl, by decide +kernel, rfl, by decide +kernel, by decide +kernel⟩
theorem ok_xWay {CF f : Addr} {fd : FuncData} (F : Fun K "__init__" "BadWay.__init__" sXWay f fd) (T : FaceC K mg CF) : FnOk P w K mg base CX0 1 f fd ["self", "value"] (spXI "ValueError.__new__" bmV K "value") := by
  refine F.ok scXWay (fun vs H Q E h => ?_) (fun cdv A outer s H vs Q E hr h => ?_)
  · obtain ⟨a, C, v, rfl, _⟩ := h
    rfl
  · obtain ⟨a, C, v, rfl, ha, X, no, k⟩ := h
    refine ⟨_, pss_cons (ps_expr (pe_xiC eb_value (by rfl) T.mgF T.gi T.rd T.fi (by decide +kernel) (pa_cons (pv 0) (pa_cons pe_str pa_nil)))) (pss_one (ps_xst eb_value (pv 0) (pv 1))), ?_⟩
    exact ⟨_, rfl, a, C, _, rfl, by decide, X, ha, _, rfl, _, rfl, a, C, rfl, X, no, ha, k⟩
theorem scXPlace : FnScope ["self", "value"] ["self", "value"] (defScope sXPlace) := ⟨rfl, rfl, rfl, by decide +kernel, rfl, by decide +kernel, by decide +kernel⟩
theorem ok_xPlace {CF f : Addr} {fd : FuncData} (F : Fun K "__init__" "BadPlace.__init__" sXPlace f fd) (T : FaceC K mg CF) : FnOk P w K mg base CX0 1 f fd ["self", "value"] (spXI "ValueError.__new__" bmV K "value") := by
  refine F.ok scXPlace (fun vs H Q E h => ?_) (fun cdv A outer s H vs Q E hr h => ?_)
  · obtain ⟨a, C, v, rfl, _⟩ := h
    rfl
  · obtain ⟨a, C, v, rfl, ha, X, no, k⟩ := h
    refine ⟨_, pss_cons (ps_expr (pe_xiC eb_value (by rfl) T.mgF T.gi T.rd T.fi (by decide +kernel) (pa_cons (pv 0) (pa_cons pe_str pa_nil)))) (pss_one (ps_xst eb_value (pv 0) (pv 1))), ?_⟩
    exact ⟨_, rfl, a, C, _, rfl, by decide, X, ha, _, rfl, _, rfl, a, C, rfl, X, no, ha, k⟩
theorem scXNumber : FnScope ["self", "value"] ["self", "value"] (defScope sXNumber) := ⟨rfl, rfl, rfl, by decide +kernel, rfl, by decide +kernel, by decide +kernel⟩
theorem ok_xNumber {CF f : Addr} {fd : FuncData} (F : Fun K "__init__" "BadNumber.__init__" sXNumber f fd) (T : FaceC K mg CF) : FnOk P w K mg base CX0 1 f fd ["self", "value"] (spXI "ValueError.__new__" bmV K "value") := by
  refine F.ok scXNumber (fun vs H Q E h => ?_) (fun cdv A outer s H vs Q E hr h => ?_)
  · obtain ⟨a, C, v, rfl, _⟩ := h
    rfl
  · obtain ⟨a, C, v, rfl, ha, X, no, k⟩ := h
    refine ⟨_, pss_cons (ps_expr (pe_xiC eb_value (by rfl) T.mgF T.gi T.rd T.fi (by decide +kernel) (pa_cons (pv 0) (pa_cons pe_str pa_nil)))) (pss_one (ps_xst eb_value (pv 0) (pv 1))), ?_⟩
    exact ⟨_, rfl, a, C, _, rfl, by decide, X, ha, _, rfl, _, rfl, a, C, rfl, X, no, ha, k⟩
theorem scXGreat : FnScope ["self", "most"] ["self", "most"] (defScope sXGreat) := ⟨rfl, rfl, rfl, by decide +kernel, rfl, by decide +kernel, by decide +kernel⟩
theorem ok_xGreat {f : Addr} {fd : FuncData} (F : Fun K "__init__" "TooGreat.__init__" sXGreat f fd) (B : Blt mg) (fi : PySem.W.findCls K (.type "OverflowError") (.type "type") "__init__" = some (.val (.builtin "OverflowError.__init__"))) : FnOk P w K mg base CX0 1 f fd ["self", "most"] (spXI "OverflowError.__new__" bmO K "most") := by
  refine F.ok scXGreat (fun vs H Q E h => ?_) (fun cdv A outer s H vs Q E hr h => ?_)
  · obtain ⟨a, C, v, rfl, _⟩ := h
    rfl
  · obtain ⟨a, C, v, rfl, ha, X, no, k⟩ := h
    refine ⟨_, pss_cons (ps_expr (pe_xiT eb_over (by rfl) B.overflowError (by rfl) (by kernel_rfl) (by decide +kernel) fi (by decide +kernel) (pa_cons (pv 0) (pa_cons pe_str pa_nil)))) (pss_one (ps_xst eb_over (pv 0) (pv 1))), ?_⟩
    exact ⟨_, rfl, a, C, _, rfl, by decide, X, ha, _, rfl, _, rfl, a, C, rfl, X, no, ha, k⟩
end
/-- an own error, as it is raised -/
structure XD (P : Program) (w : World) (K : PySem.W.Frag) (mg : Str → Option Value) (base : Heap) (k : Kd) (C : Addr) (B newId initId : String) (bmB : List Value) (fI : Addr) (fd : FuncData) : Prop where
  eb : EBase B newId initId bmB
  T : XCls newId bmB K C
  iC : PySem.W.findIn K (.ref C) "__init__" = some (some (.ref fI))
  tI : PySem.W.typeIn K (.ref fI) = some (.type "function")
  F : FnOk P w K mg base CX0 1 fI fd ["self", k.fld] (spXI newId bmB K k.fld)
  hb : Binds K fd ["self", k.fld] []
  no : PySem.W.findIn K (.ref C) k.fld = some none
  mgC : mg k.name = some (.ref C)
def XDs (P : Program) (w : World) (K : PySem.W.Frag) (mg : Str → Option Value) (base : Heap) (C : Kd → Addr) (k : Kd) : Prop := ∃ B newId initId bmB fI fd, XD P w K mg base k (C k) B newId initId bmB fI fd
/-- raise C(e) -/
def tRx (C : Addr) (f : Str) (W : WX) (te : TE) : TS := fun _ σ H => te σ H fun v H1 => ∀ d H2, H1 d = none → H2 = upd H1 d (.xd [(f, v)]) → W (.ref C) (some d) σ H2
theorem ps_raiseX {X : Cx} {C : Kd → Addr} {k : Kd} {W : WX} {e : Expr} {te : TE} {p pos pos2 : Pos} (hc : X.calm = true) (D : XDs X.prog X.w X.K X.mg X.base C k) (hr : Room 2 X.A) (tk : Takes X W) (he : PE X e te) (hg : Gl X k.name)
    (hs : starEach (e :: []) X.env = (false, eval e X.env) :: starEach [] X.env := by rfl) (hpl : (backTo pos (starEach [] X.env)).any (·.1) = false := by rfl) (hdb : (k.name == ("__debug__" : Str)) = false := by decide +kernel) :
    PS X (.Raise (some (.Call (.Name k.name p) [e] [] pos)) none pos2) (tRx (C k) k.fld W te) := by
  obtain ⟨B, newId, initId, bmB, fI, fd, D⟩ := D
  refine psI (ps_raise hc tk (pmk_x D.eb D.T D.iC D.tI D.F hr D.hb (fun _ _ _ _ z => z) hg D.mgC (pa_cons (pe_mon he) pa_nil hs) hdb hs hpl)) fun D' σ H q => ?_
  refine mon_of q fun v H1 q1 => ⟨(by show 1 ≤ 1000; decide), fun a ha => ⟨a, C k, v, rfl, upd_same, D.T, D.no, fun dx hd hne => ⟨rfl, dx, [(k.fld, v)], upd_same, ?_, ?_, ?_⟩⟩⟩
  · rw [upd_ne hne, upd_same]
  · rwa [upd_ne hne] at hd
  · rw [upd_ne hne] at hd
    refine q1 dx _ hd ?_
    funext c
    by_cases h1 : c = dx
    · subst h1
      rw [upd_same, upd_same]
    · rw [upd_ne h1, upd_ne h1]
      unfold del
      by_cases h2 : c = a
      · subst h2
        rw [if_pos rfl, ha]
      · rw [if_neg h2, upd_ne h2, upd_ne h1, upd_ne h2]
/-- the first i items are waggons, each another one -/
def GoodTo (xs : List V) (i : Nat) : Prop := ∃ zs : List Int, xs.take i = zs.map V.int ∧ zs.length = i ∧ (∀ z ∈ zs, z ≠ 0 ∧ z.natAbs ≤ xs.length) ∧ (zs.map Int.natAbs).Nodup
theorem sameSeq {K : PySem.W.Frag} {H H' : Hp} {a : Addr} {o : HO} {xs : List V} (e : H a = some o) (e' : H' a = some o) (h : SqL K H a xs) : SqL K H' a xs := by
  rcases h with (h | ⟨o', h⟩) | h
  · exact .inl (.inl (by rw [e', ← e]; exact h))
  · exact .inl (.inr ⟨o', by rw [e', ← e]; exact h⟩)
  · exact .inr h
theorem seqT_same {K : PySem.W.Frag} {H H' : Hp} {a : Addr} {o : HO} {xs : List V} (e' : H' a = some o) (e : H a = some o) (h : SqT K H a xs) : SqT K H' a xs := by
  rcases h with (h | ⟨o', h⟩) | h
  · exact .inl (.inl (by rw [e', ← e]; exact h))
  · exact .inl (.inr ⟨o', by rw [e', ← e]; exact h⟩)
  · exact .inr h
theorem abs_ite (z : Int) : (if z < 0 then -z else z) = (z.natAbs : Int) := by
  split <;> omega
theorem int_map_inj : ∀ {l l' : List Int}, l.map V.int = l'.map V.int → l = l'
  | [], [], _ => rfl
  | [], _ :: _, h => by simp at h
  | _ :: _, [], h => by simp at h
  | a :: l, b :: l', h => by
    simp only [List.map_cons, List.cons.injEq] at h
    obtain ⟨h1, h2⟩ := h
    cases h1
    rw [int_map_inj h2]
theorem good_next {xs : List V} {i : Nat} {y : V} {zs : List Int} (hx : xs[i]? = some y) (ez : xs.take i = zs.map V.int) (el : zs.length = i) (eb : ∀ z ∈ zs, z ≠ 0 ∧ z.natAbs ≤ xs.length) (en : (zs.map Int.natAbs).Nodup) :
    GoodTo xs (i + 1) ↔ ∃ z, y = .int z ∧ z ≠ 0 ∧ z.natAbs ≤ xs.length ∧ z.natAbs ∉ zs.map Int.natAbs := by
  have e1 : xs.take (i + 1) = zs.map V.int ++ [y] := by
    rw [List.take_succ, hx, ez]
    rfl
  constructor
  · rintro ⟨zs', e', l', b', n'⟩
    rw [e1] at e'
    have h2 : zs' = zs'.take i ++ zs'.drop i := (List.take_append_drop i zs').symm
    obtain ⟨z, hz⟩ : ∃ z, zs'.drop i = [z] := by
      have : (zs'.drop i).length = 1 := by rw [List.length_drop]; omega
      exact List.length_eq_one_iff.mp this
    rw [hz] at h2
    rw [h2, List.map_append] at e'
    obtain ⟨h3, h4⟩ := List.append_inj e' (by simp; omega)
    have h5 := int_map_inj h3
    rw [← h5] at h2
    rw [h2] at b' n'
    rw [List.map_append, List.nodup_append] at n'
    refine ⟨z, by simpa using h4, (b' z (by simp)).1, (b' z (by simp)).2, fun hm => n'.2.2 _ hm _ (by simp) rfl⟩
  · rintro ⟨z, rfl, h1, h2, h3⟩
    refine ⟨zs ++ [z], by rw [e1, List.map_append]; rfl, by simp [el], fun y hy => ?_, ?_⟩
    · rcases List.mem_append.mp hy with hy | hy
      · exact eb y hy
      · rw [List.mem_singleton.mp hy]
        exact ⟨h1, h2⟩
    · rw [List.map_append, List.nodup_append]
      refine ⟨en, by simp, fun a ha b hb => ?_⟩
      rw [List.mem_singleton.mp hb]
      exact fun e => h3 (e ▸ ha)
section
variable {P : Program} {w : World} {K : PySem.W.Frag} {mg : Str → Option Value} {base : Heap}
def spFault (K : PySem.W.Frag) : Sp := fun vs H Q _ => ∃ (a : Addr) (o : HO) (xs : List V), vs = [.ref a] ∧ H a = some o ∧ sq o = some xs ∧ xs.length ≤ 100 ∧ (∀ H', Same H H' → ∀ x ∈ xs, Asked K H' x) ∧
  (∀ H', Same H H' → GoodTo xs xs.length → Q .non H') ∧ ∀ (k : Nat) H', Same H H' → k < xs.length → GoodTo xs k → ¬ GoodTo xs (k + 1) → Q (.int k) H'
theorem scFault : FnScope ["waggons", "many", "numbers", "place", "waggon"] ["waggons"] (defScope sFault) := ⟨rfl, rfl, rfl, by decide +kernel, rfl, by decide +kernel, by decide +kernel⟩
theorem ok_fault {f fW : Addr} {fd fdW : FuncData} (F : Fun K "first_fault" "first_fault" sFault f fd) (B : Blt mg) (cWhole : Dn P w K mg base 1 "is_whole" fW fdW ["value", "least", "most"] (spWhole K)) : FnOk P w K mg base CX0 2 f fd ["waggons"] (spFault K) := by
  refine F.ok scFault (fun vs H Q E h => ?_) (fun cdv A outer s H vs Q E hr h => ?_)
  · obtain ⟨a, o, xs, rfl, _⟩ := h
    rfl
  · obtain ⟨a, o, xs, rfl, ha, ho, hz, hA, k1, k2⟩ := h
    refine ⟨_, (pss_cons (ps_set (i := 1) scFault.nd rfl (by first | exact Or.inl rfl | exact Or.inr rfl) (pe_callB lenF (by rfl) B.len (by decide +kernel) (pa_cons (pv 0) pa_nil)))
      (pss_cons (ps_set (i := 2) scFault.nd rfl (by first | exact Or.inl rfl | exact Or.inr rfl) (pe_callTy0 cr_set0 (by rfl) B.set (by decide +kernel)))
      (pss_cons (ps_for PassesOwn.never rfl (pi_enumA (by rfl) B.enumerate (pa_cons (pv 0) pa_nil)) (pg_tup (by rfl) (pgs_cons (pg_name (i := 3) scFault.nd rfl (by first | exact Or.inl rfl | exact Or.inr rfl)) (pgs_cons (pg_name (i := 4) scFault.nd rfl (by first | exact Or.inl rfl | exact Or.inr rfl)) pgs_nil))) (pss_cons (ps_if (PW.pt (pw_or (pt_not (pt_val (pe_call cWhole.ok (hr.mono (by decide)) rfl cWhole.mgf cWhole.kp cWhole.bi .nil pass0 (pa_cons (pv 4) (pa_cons (pe_un un_neg (pv 1)) (pa_cons (pv 1) pa_nil)))))) (pw_or (pt_cmpR op_eq (pv 4) pe_int (nomark _)) (pw_or1 (pt_cmpR or_sin (pe_callB call_abs (by rfl) B.abs (by decide +kernel) (pa_cons (pv 4) pa_nil)) (pv 2) (by rfl)))))) (pss_one (ps_ret (pv 3))) pss_nil)
      (pss_one (ps_expr (pe_sadd (pv 2) (pa_cons (pe_callB call_abs (by rfl) B.abs (by decide +kernel) (pa_cons (pv 4) pa_nil)) pa_nil))))))
      (pss_one (ps_ret pe_non))))), ?_⟩
    refine ⟨_, rfl, a, rfl, o, ha, xs, ho, rfl, fun p hp => ?_⟩
    have v0 := (VW.start (H := H)).push (o := SetO w p (fun _ => false) 0) hp
    refine ⟨_, rfl, a, xs, rfl, ?_⟩
    obtain ⟨Pv, ePv⟩ : ∃ Pv : Nat → L2.St → Hp → Prop, Pv = fun i σ H' => ∃ (zs : List Int) (u3 u4 : Option V) (S : Int → Bool) (c : Nat), σ = [some (.ref a), some (.int (xs.length : Nat)), some (.ref p), u3, u4] ∧ xs.take i = zs.map V.int ∧ zs.length = i ∧ (∀ z ∈ zs, z ≠ 0 ∧ z.natAbs ≤ xs.length) ∧ (zs.map Int.natAbs).Nodup ∧
      (∀ j, S j = true ↔ ∃ z ∈ zs, j = (z.natAbs : Int)) ∧ c ≤ i ∧ VW H H' [(p, SetO w p S c)] [] := ⟨_, rfl⟩
    have h0 : Pv 0 [some (.ref a), some (.int (xs.length : Nat)), some (.ref p), none, none] (upd H p (SetO w p (fun _ => false) 0)) := by
      rw [ePv]
      exact ⟨[], none, none, _, 0, rfl, rfl, rfl, by simp, by simp, by simp, Nat.le_refl _, v0⟩
    have sm : ∀ i σ H', Pv i σ H' → H' a = some o := fun i σ H' h => by
      rw [ePv] at h
      obtain ⟨zs, u3, u4, S, c, _, _, _, _, _, _, _, v⟩ := h
      exact v.fr _ _ ha
    refine Or.elim (sq_or (K := K) ha ho) (fun hS => .inl ⟨Same.seq (fun b o e => v0.fr b o e) hS, for_it (walk_enum (K := K) (a := a) (xs := xs)) Pv h0 (fun i σ H' _ h => sameSeq ha (sm i σ H' h) hS) ?_ ?_⟩)
      (fun hS => .inr ⟨seqT_same (v0.fr _ _ ha) ha hS, for_it (walk_enumT (K := K) (a := a) (xs := xs)) Pv h0 (fun i σ H' _ h => seqT_same (sm i σ H' h) ha hS) ?_ ?_⟩)
    all_goals first
      | (rintro σ H' hP
         rw [ePv] at hP
         obtain ⟨zs, u3, u4, S, c, rfl, ez, el, eb, en, eS, ec, v⟩ := hP
         exact k1 H' v.fr ⟨zs, ez, el, eb, en⟩)
      | skip
    all_goals
      rintro i x σ H' H2 hi hP ⟨T, y1, y2, rfl, hT, rfl, e1, e2⟩
      rw [ePv] at hP
      obtain ⟨zs, u3, u4, S, c, rfl, ez, el, eb, en, eS, ec, v⟩ := hP
      cases e1
      have v2 := v.push (o := .tup [.int (i : Nat), y2]) hT
      refine ⟨T, _, rfl, SqT.of v2.facts.1, rfl, _, _, rfl, _, _, rfl, rfl, ?_⟩
      walk_at "s"
      have hx : xs[i]? = some y2 := e2
      have gn := good_next hx ez el eb en
      have same : Same H (upd H' T (.tup [.int (i : Nat), y2])) := v2.fr
      have bad : ¬ GoodTo xs (i + 1) → Q (.int (i : Nat)) (upd H' T (.tup [.int (i : Nat), y2])) := fun h => k2 i _ same hi ⟨zs, ez, el, eb, en⟩ h
      refine ⟨y2, _, _, rfl, hA _ same y2 (List.mem_of_getElem? hx), ?_⟩
      by_cases hw : wholeV y2 (-(xs.length : Int)) (xs.length : Int) = true
      · obtain ⟨z, rfl⟩ : ∃ z, y2 = .int z := by
          cases y2 with
          | int z => exact ⟨z, rfl⟩
          | _ => cases hw
        simp only [wholeV, Bool.and_eq_true, decide_eq_true_eq] at hw
        refine .inr ⟨by simp [wholeV, hw.1, hw.2], rfl, ?_⟩
        split
        · rename_i h0
          cases h0
          exact bad fun h => by
            obtain ⟨z, e, h1, _⟩ := gn.mp h
            cases e
            exact h1 rfl
        · rename_i h0
          have z0 : z ≠ 0 := fun e => h0 (by rw [e])
          refine ⟨z, rfl, S, ⟨c, v2.facts.2.1⟩, ?_⟩
          rw [abs_ite]
          split
          · rename_i hs
            obtain ⟨z', hz', e'⟩ := (eS _).mp hs
            exact bad fun h => by
              obtain ⟨z2, e, _, _, h3⟩ := gn.mp h
              cases e
              refine h3 (List.mem_map.mpr ⟨z', hz', by omega⟩)
          · rename_i hs
            refine ⟨⟨S, c, v2.facts.2.1⟩, z, rfl, S, c, v2.facts.2.1, by unfold scanBound; omega, ?_⟩
            rw [abs_ite, if_neg hs, ePv]
            have nm : z.natAbs ∉ zs.map Int.natAbs := fun hm => by
              obtain ⟨z', hz', e'⟩ := List.mem_map.mp hm
              exact hs ((eS _).mpr ⟨z', hz', by rw [e']⟩)
            have v3 := v2.put (o := SetO w p (fun j => S j || decide (j = (z.natAbs : Int))) (c + 1)) 1 rfl rfl
            refine ⟨zs ++ [z], _, _, _, c + 1, rfl, ?_, by simp [el], ?_, ?_, fun j => ?_, by omega, v3.drop (List.sublist_cons_self ..) (fun _ h => h)⟩
            · rw [List.take_succ, hx, ez, List.map_append]
              rfl
            · intro y hy
              rcases List.mem_append.mp hy with hy | hy
              · exact eb y hy
              · rw [List.mem_singleton.mp hy]
                exact ⟨z0, by omega⟩
            · rw [List.map_append, List.nodup_append]
              refine ⟨en, by simp, fun a ha b hb => ?_⟩
              rw [List.mem_singleton.mp hb]
              exact fun e => nm (e ▸ ha)
            · simp only [Bool.or_eq_true, decide_eq_true_eq, List.mem_append, List.mem_singleton]
              rw [eS]
              constructor
              · rintro (⟨y, hy, e⟩ | e)
                · exact ⟨y, .inl hy, e⟩
                · exact ⟨z, .inr rfl, e⟩
              · rintro ⟨y, hy | rfl, e⟩
                · exact .inl ⟨y, hy, e⟩
                · exact .inr e
      · refine .inl ⟨by simpa using hw, bad fun h => ?_⟩
        obtain ⟨z, rfl, h1, h2, _⟩ := gn.mp h
        refine hw ?_
        simp only [wholeV, Bool.and_eq_true, decide_eq_true_eq]
        omega
end
structure RowC (K : PySem.W.Frag) (mg : Str → Option Value) (CR : Addr) : Prop where
  cl : Cls K CR
  nW : NoAttr K CR "waggons"
  mgR : mg "Row" = some (.ref CR)
  most : ∃ t, mg "MOST_WAGGONS" = some (.int 24 t)
  hc : PySem.W.findIn K (.ref CR) "__class__" = some (some (.builtin "object.__class__"))
  hn : PySem.W.specialIn K (.builtin "object.__class__") "__get__" = some (some (.builtin "getset_descriptor.__get__"))
  htk : PySem.W.takesIn K (.builtin "object.__class__") = some true
  hm : PySem.W.mroIn K CR (.type "object") = some true
  ks : PySem.W.kitOne K (.ref CR) (.ref CR) = some true
theorem ty_sq {K : PySem.W.Frag} {H : Hp} {a : Addr} {o : HO} {xs : List V} (ha : H a = some o) (ho : sq o = some xs) : ∃ t, TyX K H (.ref a) t ∧ PySem.W.kitAny K t [.type "list", .type "tuple"] = some true := by
  have l : PySem.W.kitAny K (.type "list") [.type "list", .type "tuple"] = some true := kitAny_cons (b := true) (kit_ty (by decide +kernel)) (fun z => nomatch z) (fun _ => rfl)
  have t : PySem.W.kitAny K (.type "tuple") [.type "list", .type "tuple"] = some true := kitAny_cons (b := false) (kit_ty (by decide +kernel)) (fun _ => kitAny_cons (b := true) (kit_ty (by decide +kernel)) (fun z => nomatch z) (fun _ => rfl)) (fun z => nomatch z)
  cases o with
  | lst ys => exact ⟨_, .base (.lst ha), l⟩
  | tup ys => exact ⟨_, .base (.tup ha), t⟩
  | frz ob u =>
    cases u with
    | lst ys => exact ⟨_, .base (.frz ha), l⟩
    | _ => cases ho
  | _ => cases ho
local macro_rules | `(tactic| walk_at "s") => `(tactic| simp [tSeq, tAsg, tOp, tUn, tVar, tC, gName, tCons, tNil, tCB, tCall, rI, rI0, rU, tRet, tDrop, tIfS, tNext, tIf, tTest, tNot, tOr, tAnd, tB, L2.start, CMul, CDiv, rIxF, rLenF, rIntF, sq_lst, sq_tup, tLstF, tTupF, gSub, rCatF, rInF, rNe, rEq, tAndV, tOrV, tNotV, tChain, rSIn, tSAdd, rSAdd, rTupF, sFldF, tRx])
section
variable {P : Program} {w : World} {K : PySem.W.Frag} {mg : Str → Option Value} {base : Heap}
def spRI (K : PySem.W.Frag) (C : Kd → Addr) (CR : Addr) : Sp := fun vs H Q E => ∃ (p dx : Addr) (x : V), vs = [.ref p, x] ∧ H p = some (.ins CR dx []) ∧
  ((∃ (a : Addr) (o : HO) (xs : List V), x = .ref a ∧ H a = some o ∧ sq o = some xs ∧ a ≠ p ∧ xs.length ≤ 100 ∧ (∀ H', Same H H' → ∀ y ∈ xs, Asked K H' y) ∧
    (xs.length ≤ 24 → GoodTo xs xs.length → ∀ tp H', (∀ b u, H b = some u → b ≠ p → H' b = some u) → H' p = some (.ins CR dx [("waggons", .ref tp)]) → H' tp = some (.tup xs) → Q .non H') ∧
    (24 < xs.length → ∀ d H', Same H H' → H' d = some (.xd [("most", .int 24)]) → E (.ref (C .great)) (some d) H') ∧
    (xs.length ≤ 24 → ∀ k d H', Same H H' → k < xs.length → GoodTo xs k → ¬ GoodTo xs (k + 1) → H' d = some (.xd [("place", .int (k : Nat))]) → E (.ref (C .row)) (some d) H')) ∨
   ((∀ H', Same H H' → ∃ t, TyX K H' x t ∧ PySem.W.kitAny K t [.type "list", .type "tuple"] = some false) ∧ ∀ d H', Same H H' → H' d = some (.xd [("place", .non)]) → E (.ref (C .row)) (some d) H'))
theorem scRI : FnScope ["self", "waggons", "fault"] ["self", "waggons"] (defScope sRI) := ⟨rfl, rfl, rfl, by decide +kernel, rfl, by decide +kernel, by decide +kernel⟩
theorem ok_ri {f fF CR : Addr} {fd fdF : FuncData} {C : Kd → Addr} (F : Fun K "__init__" "Row.__init__" sRI f fd) (B : Blt mg) (R : RowC K mg CR) (XB : ∀ k, hasK k = true → XDs P w K mg base C k) (cFault : Dn P w K mg base 2 "first_fault" fF fdF ["waggons"] (spFault K)) :
    FnOk P w K mg base (L2.CX P w) 3 f fd ["self", "waggons"] (spRI K C CR) := by
  obtain ⟨tM, hMost⟩ := R.most
  refine F.okX scRI (fun vs H Q E h => ?_) (fun cdv A outer s H vs Q E hr h => ⟨_, (pss_cons (ps_if (pt_not (pt_val (pe_callB call_isiT (by rfl) B.isinstance (by decide +kernel) (pa_cons (pv 1) (pa_cons (pe_tupF (pa_cons (pe_bltn (v := .ty "list") (by rfl) B.list (by decide +kernel) rfl) (pa_cons (pe_bltn (v := .ty "tuple") (by rfl) B.tuple (by decide +kernel) rfl) pa_nil))) pa_nil))))) (pss_one (ps_raiseX (k := .row) rfl (XB .row (by decide)) hr (takes_of rfl rfl rfl rfl) pe_non (by rfl))) pss_nil)
      (pss_cons (ps_if (pt_cmpR op_gt (pe_callB lenF (by rfl) B.len (by decide +kernel) (pa_cons (pv 1) pa_nil)) (pe_glob (v := .int 24) (by rfl) hMost ⟨_, rfl⟩) (nomark _)) (pss_one (ps_raiseX (k := .great) rfl (XB .great (by decide)) hr (takes_of rfl rfl rfl rfl) (pe_glob (v := .int 24) (by rfl) hMost ⟨_, rfl⟩) (by rfl))) pss_nil)
      (pss_cons (ps_set (i := 2) scRI.nd rfl (by first | exact Or.inl rfl | exact Or.inr rfl) (pe_call cFault.ok (hr.mono (by decide)) rfl cFault.mgf cFault.kp cFault.bi .nil pass0 (pa_cons (pv 1) pa_nil)))
      (pss_cons (ps_if (pt_cmpR op_notN (pv 2) pe_non (nomark _)) (pss_one (ps_raiseX (k := .row) rfl (XB .row (by decide)) hr (takes_of rfl rfl rfl rfl) (pv 2) (by rfl))) pss_nil)
      (pss_one (ps_fldF (pv 0) (pe_callTy tupF (by rfl) B.tuple (by decide +kernel) (pa_cons (pv 1) pa_nil)))))))), ?_⟩)
  · obtain ⟨p, dx, x, rfl, _⟩ := h
    rfl
  · obtain ⟨p, dx, x, rfl, hp, h⟩ := h
    walk_at "s"
    refine ⟨sz_le (by decide), view_tup VW.start fun tp0 H1 v1 => ?_⟩
    have hT := v1.tu _ List.mem_cons_self
    have pc : Paired ClsV [.ty "list", .ty "tuple"] [.type "list", .type "tuple"] := .cons (.ty _) (.cons (.ty _) .nil)
    have up : ∀ {H2 : Hp} (s2 : Same H1 H2) {d : Addr} {u : HO}, H2 d = none → Same H (upd H2 d u) := by
      intro H2 s2 d u hd b z hb
      have h2 := s2 _ _ (v1.fr b z hb)
      rw [upd_ne (ne_of_none h2 hd)]
      exact h2
    have id1 : Same H1 H1 := fun _ _ h => h
    rcases h with ⟨a, o, xs, rfl, ha, ho, hap, hz, hA, kg, kb, kr⟩ | ⟨hT2, ke⟩
    · obtain ⟨t, ty, ka⟩ := ty_sq (K := K) (v1.fr _ _ ha) ho
      refine ⟨_, tp0, _, t, _, true, rfl, hT, pc, ty, ka, .inr ⟨rfl, a, rfl, o, v1.fr _ _ ha, xs, ho, ?_⟩⟩
      split
      · rename_i hl
        exact fun d hd => kb (by omega) d _ (up id1 hd) upd_same
      · rename_i hl
        refine ⟨a, o, xs, rfl, v1.fr _ _ ha, ho, hz, fun H' s2 => hA H' (fun b u hb => s2 _ _ (v1.fr b u hb)), fun H2 s2 g => .inl ⟨rfl, a, rfl, o, s2 _ _ (v1.fr _ _ ha), xs, ho, ?_⟩,
          fun k H2 s2 hk g ng => .inr ⟨by simp, fun d hd => kr (by omega) k d _ (up s2 hd) hk g ng upd_same⟩⟩
        refine view_tup (VW.start (H := H2)) fun l H3 v3 => ?_
        have p3 := v3.fr _ _ (s2 _ _ (v1.fr _ _ hp))
        have l3 := v3.tu _ List.mem_cons_self
        have lp : l ≠ p := fun z => by
          rw [z, p3] at l3
          cases l3
        refine ⟨CR, dx, [], p3, R.cl, R.nW, by decide, kg (by omega) g l _ (fun b u hb hne => ?_) upd_same ?_⟩
        · rw [upd_ne hne]
          exact v3.fr _ _ (s2 _ _ (v1.fr _ _ hb))
        · rw [upd_ne lp]
          exact l3
    · obtain ⟨t, ty, ka⟩ := hT2 H1 v1.fr
      exact ⟨_, tp0, _, t, _, false, rfl, hT, pc, ty, ka, .inl ⟨rfl, fun d hd => ke d _ (up id1 hd) upd_same⟩⟩
end
theorem shaped_tupI (ns : List Int) : SeqAt.shaped (.tuple (ns.map PyData.int)) = true := by
  have := shaped_ints ns
  first
    | exact this
    | simpa [SeqAt.shaped] using this
/-- a row object -/
def RowAt (CR : Addr) (H : Hp) (p : Addr) (xs : List V) : Prop := ∃ dx tp, H p = some (.ins CR dx [("waggons", .ref tp)]) ∧ H tp = some (.tup xs)
theorem RowAt.same {CR : Addr} {H H' : Hp} {p : Addr} {xs : List V} (h : RowAt CR H p xs) (s : Same H H') : RowAt CR H' p xs := by
  obtain ⟨dx, tp, h1, h2⟩ := h
  exact ⟨dx, tp, s _ _ h1, s _ _ h2⟩
local macro_rules | `(tactic| walk_at "s") => `(tactic| simp [tSeq, tAsg, tOp, tUn, tVar, tC, gName, tCons, tNil, tCB, tCall, rI, rI0, rU, tRet, tDrop, tIfS, tNext, tIf, tTest, tNot, tOr, tAnd, tB, L2.start, rLenF, sq_tup, tAndV, tFldF])
section
variable {P : Program} {w : World} {K : PySem.W.Frag} {mg : Str → Option Value} {base : Heap}
def spRLen (CR : Addr) : Sp := fun vs H Q _ => ∃ p xs, vs = [.ref p] ∧ RowAt CR H p xs ∧ Q (.int (xs.length : Nat)) H
theorem scRLen : FnScope ["self"] ["self"] (defScope sRLen) := ⟨rfl, rfl, rfl, by decide +kernel, rfl, by decide +kernel, by decide +kernel⟩
theorem ok_rlen {f CR : Addr} {fd : FuncData} (F : Fun K "__len__" "Row.__len__" sRLen f fd) (B : Blt mg) (R : RowC K mg CR) : FnOk P w K mg base CX0 1 f fd ["self"] (spRLen CR) := by
  refine F.ok scRLen (fun vs H Q E h => ?_) (fun cdv A outer s H vs Q E hr h => ?_)
  · obtain ⟨p, xs, rfl, _⟩ := h
    rfl
  · obtain ⟨p, xs, rfl, ⟨dx, tp, h1, h2⟩, k⟩ := h
    refine ⟨_, (pss_one (ps_ret (pe_callB lenF (by rfl) B.len (by decide +kernel) (pa_cons (pe_fldF (pv 0)) pa_nil)))), ?_⟩
    walk_at "s"
    exact ⟨CR, ⟨dx, _, h1, R.cl, R.nW, _, rfl, tp, rfl, _, h2, _, rfl, k⟩⟩
def spREq (CR : Addr) : Sp := fun vs H Q _ => ∃ (p q : Addr) (xs ys : List Int), vs = [.ref p, .ref q] ∧ RowAt CR H p (xs.map V.int) ∧ RowAt CR H q (ys.map V.int) ∧ Q (.bl (PyData.eqv (.tuple (xs.map PyData.int)) (.tuple (ys.map PyData.int)))) H
theorem scREq : FnScope ["self", "other"] ["self", "other"] (defScope sREq) := ⟨rfl, rfl, rfl, by decide +kernel, rfl, by decide +kernel, by decide +kernel⟩
theorem ok_req {f CR : Addr} {fd : FuncData} (F : Fun K "__eq__" "Row.__eq__" sREq f fd) (B : Blt mg) (R : RowC K mg CR) : FnOk P w K mg base CX0 1 f fd ["self", "other"] (spREq CR) := by
  refine F.ok scREq (fun vs H Q E h => ?_) (fun cdv A outer s H vs Q E hr h => ?_)
  · obtain ⟨p, q, xs, ys, rfl, _⟩ := h
    rfl
  · obtain ⟨p, q, xs, ys, rfl, ⟨dx, tp, h1, h2⟩, ⟨dy, tq, h3, h4⟩, k⟩ := h
    refine ⟨_, (pss_one (ps_ret (pe_and (pe_callB call_isi (by rfl) B.isinstance (by decide +kernel) (pa_cons (pv 1) (pa_cons (pe_cl (by rfl) R.mgR) pa_nil))) (pe_one (pe_cmpR (op_eqD hr.units) (pe_fldF (pv 0)) (pe_fldF (pv 1)) (nomark _)))))), ?_⟩
    walk_at "s"
    refine ⟨.ref q, .ref CR, .ref CR, .ref CR, true, rfl, .own _, .base (.ins h3 R.cl R.hc R.hn R.htk R.hm), R.ks, .inr ⟨rfl, CR, dx, _, h1, R.cl, R.nW, _, rfl, CR, dy, _, h3, R.cl, R.nW, _, rfl, ?_⟩⟩
    exact ⟨.tuple (xs.map PyData.int), .tuple (ys.map PyData.int), .tup (SqT.of h2) (dp_ints xs), .tup (SqT.of h4) (dp_ints ys), shaped_tupI xs, shaped_tupI ys, k⟩
end
end Fab
set_option maxHeartbeats 4000000
namespace Fab
open PySem L2 LamX
open PySem.Spec PyProof.Rows
/-- an empty table; a list as it is handed in -/
abbrev oTab : Obj := { cls := .none, data := .fields #[] }
abbrev oLst (vs : List Value) : Obj := { cls := .type "list", data := .seq vs.toArray }
section
variable {P : Program} {w : World} {K : PySem.W.Frag} {mg mb : Str → Option Value} {CX : CXT} {k : Nat} {fa a : Addr} {cs : List (Addr × Addr)} {fd : FuncData} {x : Str} {sp : Sp} {s : Shared} {vs : List Value} {ns : List Int}
/-- what is tracked at the start -/
def H00 (K : PySem.W.Frag) (T : List Addr) (a : Addr) (vs : List Value) (ns : List Int) : Hp := fun b =>
  if b ∈ T then some (.tbl #[]) else if b = a ∧ K.lookup a = none then some (.frz (oLst vs) (.lst (ns.map V.int))) else none
theorem h00_case {T : List Addr} {b : Addr} {u : HO} (h : H00 K T a vs ns b = some u) : (b ∈ T ∧ u = .tbl #[]) ∨ (b ∉ T ∧ b = a ∧ K.lookup a = none ∧ u = .frz (oLst vs) (.lst (ns.map V.int))) := by
  unfold H00 at h
  by_cases h1 : b ∈ T
  · simp [h1] at h
    exact .inl ⟨h1, h.symm⟩
  · by_cases h2 : b = a ∧ K.lookup a = none
    · simp only [if_neg h1, if_pos h2] at h
      exact .inr ⟨h1, h2.1, h2.2, (Option.some.inj h).symm⟩
    · rw [if_neg h1, if_neg h2] at h
      cases h
theorem law_goG (KX : K.In s.heap) (hns : s.heap.Ns mainGlobals mg) (hb : s.heap.Ns builtinsNs mb) (hbb : ∀ x : Str, x ≠ "__name__" → mb x = bootBuiltins x) (hlim : s.heap.NoLimit) (hg : s.gens = #[])
    (hT : ∀ p ∈ cs, s.heap.get? p.2 = some oTab) (nT : ∀ p ∈ cs, K.lookup p.2 = none) (C : ∀ p ∈ cs, PySem.W.CodeHd s.heap p.1 p.2)
    (hbm : ∃ (bm : Addr) (ob : Obj), mg "__builtins__" = some (.ref bm) ∧ bm ≠ builtinsNs ∧ s.heap.get? bm = some ob ∧ ob.cls = .type "module" ∧ ob.dict = some builtinsNs ∧ ob.data = .plain)
    (ha : s.heap.get? a = some (oLst vs)) (hi : IntsAre vs ns) (hl : ns.length ≤ sizeLine) (hr : Room k callerA)
    (F : ∀ base : Heap, K.In base → base.Ns mainGlobals mg → (∀ p ∈ cs, TabB base mg p.1 p.2) → FnG P w K mg base CX k fa fd [x] sp) (hbind : ∀ (s : Shared) (u : Value), BindsTo s fd ⟨[u], []⟩ [(x, u)])
    (hsp : ∀ H : Hp, (∀ p ∈ cs, H p.2 = some (.tbl #[])) → SqL K H a (ns.map V.int) → sp [.ref a] H (fun v _ => v = .bl true) fun _ _ _ => False)
    (hCX : ∀ H e s', CX [] H s (fun _ _ _ => False) e s' → False) :
    codeAny (model P w) callerA (.call (.ref fa) ⟨[.ref a], []⟩) (fun r s' => r = .ok (.ret (.bool true)) ∧ OldK s.heap s'.heap ∧ s'.os = s.os ∧ AllBare s'.gens) s := by
  have rv := vals_ints hi
  obtain ⟨T, eT⟩ : ∃ T, T = cs.map (·.2) := ⟨_, rfl⟩
  have inT : ∀ p ∈ cs, p.2 ∈ T := fun p hp => by
    rw [eT]
    exact List.mem_map_of_mem hp
  have atT : ∀ b ∈ T, s.heap.get? b = some oTab ∧ K.lookup b = none := fun b hb => by
    rw [eT] at hb
    obtain ⟨p, hp, rfl⟩ := List.mem_map.mp hb
    exact ⟨hT p hp, nT p hp⟩
  have aT : a ∉ T := fun z => by
    have q := (atT a z).1
    rw [ha] at q
    cases q
  obtain ⟨H, eH⟩ : ∃ H, H = H00 K T a vs ns := ⟨_, rfl⟩
  have cH : ∀ {b : Addr} {u : HO}, H b = some u → (b ∈ T ∧ u = .tbl #[]) ∨ (b ∉ T ∧ b = a ∧ K.lookup a = none ∧ u = .frz (oLst vs) (.lst (ns.map V.int))) := fun {b u} h => by
    rw [eH] at h
    exact h00_case h
  have tabH : ∀ b ∈ T, H b = some (.tbl #[]) := fun b hb => by
    rw [eH]
    unfold H00
    rw [if_pos hb]
  -- what is no table and no list is not tracked
  have free : ∀ {b : Addr} {o : Obj}, s.heap.get? b = some o → o ≠ oTab → o ≠ oLst vs → H b = none := fun {b o} e h1 h2 => by
    cases q : H b with
    | none => rfl
    | some u =>
      rcases cH q with ⟨z, _⟩ | ⟨_, z, _, _⟩
      · rw [(atT b z).1] at e
        exact absurd (Option.some.inj e).symm h1
      · rw [z, ha] at e
        exact absurd (Option.some.inj e).symm h2
  have lay : ∀ {b : Addr} {o : Obj}, s.heap.get? b = some o → o ≠ oTab → o ≠ oLst vs → (hidT s.heap H).get? b = some o := fun e h1 h2 => hidT_get e (free e h1 h2)
  have nsB : ∀ {b : Addr} {m : Str → Option Value}, s.heap.Ns b m → (hidT s.heap H).Ns b m := fun ⟨o, es, ep, e, d, r⟩ =>
    ⟨o, es, ep, lay e (fun z => by rw [z] at d; cases d) (fun z => by rw [z] at d; cases d), d, r⟩
  have KB : K.In (hidT s.heap H) := fun b o e => by
    refine hidT_get (KX b o e) ?_
    cases q : H b with
    | none => rfl
    | some u =>
      rcases cH q with ⟨z, _⟩ | ⟨_, z, z2, _⟩
      · rw [(atT b z).2] at e
        cases e
      · rw [z, z2] at e
        cases e
  have hM : L2.Mod K mg (hidT s.heap H) := ⟨KB, nsB hns, ⟨mb, nsB hb, hbb⟩, hlim.elim fun mc h => ⟨mc, nsB h.1, h.2⟩⟩
  have ok : HOk P w H s.heap := fun b u q => by
    rcases cH q with ⟨z, rfl⟩ | ⟨_, rfl, _, rfl⟩
    · exact (atT b z).1
    · exact ⟨ha, by rw [List.length_map]; exact hl, vs, _, rv, ha⟩
  have e0 : Env0 P w K mg (hidT s.heap H) callerA [] s H := ⟨rfl, hM, fun b o e => of_hidT e, Nat.le_of_eq (hidT_size _ _), trivial, fun b hb => absurd (show b ∈ ([] : List Addr) from hb) (by simp), ok, .of_eq hg⟩
  have TB : ∀ p ∈ cs, TabB (hidT s.heap H) mg p.1 p.2 := fun p hp => by
    refine ⟨?_, ?_, fun z => ?_⟩
    · obtain ⟨o, us, file, tf, flags, tg, inF, text, tt, e1, r1, r2, r⟩ := C p hp
      exact ⟨o, us, file, tf, flags, tg, inF, text, tt, lay e1 (fun z => by rw [z] at r1; cases r1) (fun z => by rw [z] at r2; cases r2), r1, r2, r⟩
    · obtain ⟨bm, ob, b1, b2, b3, b4, b5, b6⟩ := hbm
      refine ⟨bm, ob, b1, b2, fun q => ?_, fun q => ?_, lay b3 (fun z => by rw [z] at b4; cases b4) (fun z => by rw [z] at b6; cases b6), b4, b5, b6⟩
      · obtain ⟨o, es, ep, e, hd, _⟩ := hns
        rw [q, e] at b3
        cases b3
        rw [hd] at b6
        cases b6
      · rw [q, hT p hp] at b3
        cases b3
        cases b6
    · obtain ⟨o, es, ep, e, hd, _⟩ := hns
      rw [z, hT p hp] at e
      cases e
      cases hd
  have hS : SqL K H a (ns.map V.int) := by
    cases hk : K.lookup a with
    | none =>
      refine .inl (.inr ⟨oLst vs, ?_⟩)
      rw [eH]
      unfold H00
      rw [if_neg aT, if_pos ⟨rfl, hk⟩]
    | some o =>
      have e := KX a o hk
      rw [ha] at e
      cases e
      exact .inr ⟨_, vs.toArray, _, hk, rfl, rfl, rfl, by rw [List.size_toArray, hi.length]; exact hl, by simpa using rv⟩
  refine codeAny_mono ((F _ KB (nsB hns) TB).run callerA [] s H ⟨[.ref a], []⟩ [.ref a] [.ref a] _ _ guards_caller hr e0 (hbind s (.ref a)) (.cons rfl .nil) (hsp H (fun p hp => tabH _ (inT p hp)) hS)) ?_
  rintro (e | fl) s' h
  · exact (hCX H e s' h).elim
  · cases fl
    case ret u =>
      obtain ⟨v, H', os, bare, un, ok', r', q⟩ := h
      have q' : v = .bl true := q
      subst q'
      obtain rfl : u = Value.bool true := r'
      have no : ∀ b : Addr, b ∉ frs ([] : List Env) := fun b z => absurd (show b ∈ ([] : List Addr) from z) (by simp)
      have kept : ∀ b o, b ∉ T → s.heap.get? b = some o → s'.heap.get? b = some o := fun b o nb e => by
        cases q : H b with
        | none => exact un.keep b o e q (no b) (by simp)
        | some u =>
          rcases cH q with ⟨z, _⟩ | ⟨_, _, _, rfl⟩
          · exact absurd z nb
          · have e1 := (ok b _ q).1
            have e2 := (ok' b _ (un.frzs b _ _ q)).1
            rw [e] at e1
            cases e1
            exact e2
      have grown : ∀ b ∈ T, ∃ more : Array Value, s'.heap.get? b = some { cls := .none, data := .fields more } := fun b hb => by
        obtain ⟨more, z⟩ := un.tbls b #[] (tabH b hb)
        exact ⟨_, ok' b _ z⟩
      refine ⟨rfl, ⟨fun b o e => ?_, fun b o e => ?_⟩, os, bare⟩
      · by_cases hbT : b ∈ T
        · obtain ⟨more, hm⟩ := grown b hbT
          have hbT' := hbT
          rw [eT] at hbT'
          obtain ⟨p, hp, ep⟩ := List.mem_map.mp hbT'
          have e' := (atT b hbT).1
          rw [e] at e'
          cases e'
          subst ep
          exact .inr (.inl ⟨((C p hp).tab (hT p hp)).isCodeTable, rfl, #[], more, rfl, by rw [Array.empty_append]; exact hm⟩)
        · exact .inl (kept b o hbT e)
      · by_cases hbT : b ∈ T
        · obtain ⟨more, hm⟩ := grown b hbT
          exact ⟨_, hm⟩
        · exact ⟨o, kept b o hbT e⟩
    all_goals exact False.elim h
/-- what the law's text must give -/
def LawG (l : PySem.W.OpenLaw) (w : World) (K : PySem.W.Frag) (CX : CXT) (k n : Nat) (x : Str) (mg : Str → Option Value) (fa : Addr) (h : Heap) : Prop :=
  ∃ (fd : FuncData) (cs : List (Addr × Addr)) (sp : Sp), (∀ p ∈ cs, h.get? p.2 = some oTab) ∧ (∀ p ∈ cs, K.lookup p.2 = none) ∧ (∀ p ∈ cs, PySem.W.CodeHd h p.1 p.2) ∧ (∀ (s : Shared) (u : Value), BindsTo s fd ⟨[u], []⟩ [(x, u)]) ∧
    (∀ (H : Hp) (a : Addr) (ns : List Int), ns.length ≤ n → (∀ p ∈ cs, H p.2 = some (.tbl #[])) → SqL K H a (ns.map V.int) → sp [.ref a] H (fun v _ => v = .bl true) fun _ _ _ => False) ∧
    ∀ base : Heap, K.In base → base.Ns mainGlobals mg → (∀ p ∈ cs, TabB base mg p.1 p.2) → FnG l.prog w K mg base CX k fa fd [x] sp
def TabOf (q : Program) (K : PySem.W.Frag) (h : Heap) : Prop := ∀ (d : DefRec) (x : Str) (c P : Addr), (recsOf q).find? (fun e => e.name == x) = some d → PySem.W.tabIn K x = some (c, P) → PySem.W.CodeHd h c P ∧ h.get? P = some oTab
theorem walkG {l : PySem.W.OpenLaw} {n k : Nat} {q : Program} {loose : List Str} {XP : (Str → Option Value) → Heap → Prop} {YP : World → Heap → Prop} {d : DefRec} {K : Params → PySem.W.Frag} {CX : World → CXT} {x : Str}
    (hn : l.most = some n) (hn2 : n ≤ sizeLine) (hdf : d.params.defaults = []) (hr : Room k callerA) (hY : ∀ (w : World) (h : Heap), YP w h → (K w.params).In h)
    (F : ∀ (w : World) (mg : Str → Option Value) (fa : Addr) (h : Heap), YP w h → (K w.params).In h → TabOf q (K w.params) h → h.Ns mainGlobals mg → mg d.name = some (.ref fa) → LawG l w (K w.params) (CX w) k n x mg fa h)
    (hCX : ∀ (w : World) (H : Hp) (s : Shared) (e : Value) (s' : Shared), CX w [] H s (fun _ _ _ => False) e s' → False) : PySem.W.WalkO q loose XP YP l.row.toRowW d [] (fun f vs => PySem.call f vs) :=
  Att.attach_callB hn hdf fun w s₀ s₁ mg mb fa o pm cd doc a vs ns G Y ho hd hcd hmg hobj hints hlen hbits hg => by
    have KX := hY w _ Y
    obtain ⟨fd, cs, sp, hT, nT, C, hb, hsp, hF⟩ := F w mg fa _ Y KX (fun d x c P hr ht => PySem.W.tab_of G.T KX hr ht) G.T.g hmg
    exact law_goG KX G.T.g G.T.b G.T.builtins G.T.nolimit hg hT nT C G.T.bmain hobj hints (Nat.le_trans hlen hn2) hr hF hb (fun H hH hS => hsp H a ns hlen hH hS) fun H e s' => hCX w H s₁ e s'
end
end Fab
set_option maxHeartbeats 2000000
namespace Fab
open PySem L2 PySem.FabX
/-- a def as it stands in the text, its code object told -/
structure DL (K : PySem.W.Frag) (mg : Str → Option Value) (x : Str) (st : Stmt) (g : Addr) (cdv : Value) (ps : List Str) (oc kV doc pm ct : Value) (an od : Option Addr) (osl : Array (Option Value)) : Prop where
  mgf : mg x = some (.ref g)
  kp : PySem.W.keepIn K (.ref g) = true
  lk : K.lookup g = some ⟨oc, od, .func (PySem.W.fnOf x x (defArgs st) (defBody st) (defScope st) .none kV doc pm an cdv ct), osl⟩
  cd : PySem.W.codeIn K cdv x = true
  bi : Binds K (PySem.W.fnOf x x (defArgs st) (defBody st) (defScope st) .none kV doc pm an cdv ct) ps []
open PyProof.Rows (envOfC)
theorem fnL {P : Program} {w : World} {K : PySem.W.Frag} {mg : Str → Option Value} {base : Heap} {CX : CXT} {k : Nat} {f : Addr} {ps : List Str} {sp : Sp} {x qual : Str} {st : Stmt} {N : List Str} {oc kV doc pm cdv ct : Value} {an od : Option Addr} {osl : Array (Option Value)}
    (lk : K.lookup f = some ⟨oc, od, .func (PySem.W.fnOf x qual (defArgs st) (defBody st) (defScope st) .none kV doc pm an cdv ct), osl⟩) (hcd : PySem.W.codeIn K cdv qual = true) (S : FnScope N ps (defScope st)) (len : ∀ vs H Q E, sp vs H Q E → vs.length = ps.length)
    (hbody : ∀ (A : Around) (outer : List Env) (s : Shared) (H : Hp) (vs : List V) (Q : VK) (E : XK), A.guards = some [] → Room k (A.deeper (envOfC qual (defScope st) s.heap.objs.size f cdv)) → sp vs H Q E →
      ∃ t, PSs (cxOf CX P w K mg base N qual (defScope st) f cdv A outer s H E) (defBody st) t ∧ t { nx := fun _ H' => Q .non H', rt := Q } (L2.start N vs) H) : FnG P w K mg base CX (k + 1) f (PySem.W.fnOf x qual (defArgs st) (defBody st) (defScope st) .none kV doc pm an cdv ct) ps sp :=
  ⟨len, fun A outer s H args us vs Q E hg hr e0 hb hv h => LamX.run_ofS lk hcd S hr e0 hb hv (len _ _ _ _ h) fun hr' => hbody A outer s H vs Q E hg hr' h⟩
local macro_rules | `(tactic| walk_at "s") => `(tactic| simp [tSeq, tAsg, tOp, tUn, tVar, tC, gName, tCons, tNil, tCB, tCall, rI, rI0, rU, tRet, tDrop, tIfS, tNext, tIf, tTest, tNot, tOr, tAnd, tB, L2.start, CMul, rIxF, rLenF, rIntF, sq_lst, sq_tup, tLstF, tTupF, gSub, rCatF, rNe, rEq, tAndV, tOrV, tNotV, tSl, rSlF])
def noTbl : HO → Bool
  | .tbl _ => false
  | _ => true
theorem noTbl_ne {o : HO} (h : noTbl o = true) (ps : Array Value) : o ≠ .tbl ps := fun z => by
  subst z
  cases h
section
variable {H0 H H1 : Hp} {L : List (Addr × HO)} {T : List (Addr × List V)}
theorem VW.extN (v : VW H0 H L T) (h0 : ∀ b o, H0 b = some o → noTbl o = true) (hL : ∀ p ∈ L, noTbl p.2 = true) (e : LamX.ExtN H H1) : VW H0 H1 L T :=
  ⟨fun p hp => e _ _ (v.at_ p hp) (noTbl_ne (hL p hp)), v.nd, v.own, fun a o h => e _ _ (v.fr a o h) (noTbl_ne (h0 a o h)), fun p hp => e _ _ (v.tu p hp) (fun _ z => by cases z)⟩
theorem VW.ext (v : VW H0 H L T) (e : Same H H1) : VW H0 H1 L T := ⟨fun p hp => e _ _ (v.at_ p hp), v.nd, v.own, fun a o h => e _ _ (v.fr a o h), fun p hp => e _ _ (v.tu p hp)⟩
end
theorem GoodTo.le {xs : List V} {i j : Nat} (h : GoodTo xs j) (hij : i ≤ j) : GoodTo xs i := by
  obtain ⟨zs, e, l, b, n⟩ := h
  refine ⟨zs.take i, ?_, by rw [List.length_take]; omega, fun z hz => b z (List.mem_of_mem_take hz), ?_⟩
  · have := congrArg (List.take i) e
    rw [List.take_take, Nat.min_eq_left hij] at this
    rw [this, List.map_take]
  · rw [List.map_take]
    exact n.sublist (List.take_sublist _ _)
theorem row_mem {ws : List Int} {many : Nat} (h : IsRow ws many) : ∀ z ∈ ws, z ≠ 0 ∧ z.natAbs ≤ many := fun z hz => by
  have := (h.mem_iff (a := z.natAbs)).mp (List.mem_map_of_mem hz)
  rw [List.mem_range'] at this
  obtain ⟨i, hi, e⟩ := this
  omega
theorem row_nodup {ws : List Int} {many : Nat} (h : IsRow ws many) : (ws.map Int.natAbs).Nodup := h.nodup_iff.mpr List.nodup_range'
theorem good_take {ws : List Int} {many k : Nat} {xs : List V} (h : IsRow ws many) (hx : xs.take k = (ws.take k).map V.int) (hk : k ≤ many) (hl : xs.length = many) : GoodTo xs k := by
  refine ⟨ws.take k, hx, by rw [List.length_take, h.len]; omega, fun z hz => ?_, ?_⟩
  · have := row_mem h z (List.mem_of_mem_take hz)
    omega
  · rw [List.map_take]
    exact (row_nodup h).sublist (List.take_sublist _ _)
/-- a def whose promise is told where no repr runs -/
structure DnG (P : Program) (w : World) (K : PySem.W.Frag) (mg : Str → Option Value) (base : Heap) (k : Nat) (x : Str) (f : Addr) (fd : FuncData) (ps : List Str) (sp : Sp) : Prop where
  ok : FnG P w K mg base CX0 k f fd ps sp
  mgf : mg x = some (.ref f)
  kp : PySem.W.keepIn K (.ref f) = true
  bi : Binds K fd ps []
/-- an own method that stands behind an operator -/
structure OpM (K : PySem.W.Frag) (CR : Addr) (x : Str) (f : Addr) (fd : FuncData) (ps : List Str) : Prop where
  at_ : PySem.W.findIn K (.ref CR) x = some (some (.ref f))
  fn : PySem.W.isFn K (.ref f) = true
  bi : Binds K fd ps []
def Shw (d : PyData) : Prop := d.showable = true ∧ d.hasDict = false ∧ d.depth ≤ 60 ∧ d.shown.length ≤ sizeLine
def SmallI (z : Int) : Prop := z.natAbs ≤ 1000
theorem small_int {z : Int} (h : SmallI z) : (PyData.int z).showable = true ∧ (PyData.int z).intsShort 13 = true ∧ (PyData.int z).weight ≤ 11 := by
  have : z ∈ ((List.range 2001).map fun i : Nat => ((i : Nat) : Int) - 1000) := List.mem_map.mpr ⟨(z + 1000).toNat, List.mem_range.mpr (by unfold SmallI at h; omega), by unfold SmallI at h; omega⟩
  have all : (((List.range 2001).map fun i : Nat => ((i : Nat) : Int) - 1000).all fun z => (PyData.int z).showable && (PyData.int z).intsShort 13 && decide ((PyData.int z).weight ≤ 11)) = true := by decide +kernel
  have := List.all_eq_true.mp all z this
  simp only [Bool.and_eq_true, decide_eq_true_eq] at this
  exact ⟨this.1.1, this.1.2, this.2⟩
theorem shw_of {d : PyData} (h1 : d.showable = true) (h2 : d.canLay0 = true) (h3 : d.depth ≤ 60) (h4 : d.weight ≤ 2 ^ 20) (h5 : d.intsShort 13 = true) : Shw d := by
  refine ⟨h1, PyData.hasDict_of_canLay d h2, h3, ?_⟩
  have := PyProof.Rows.shown_le13 (d := d) (by
    show (PyData.canLay0 d && decide (PyData.depth d ≤ 64) && decide (PyData.weight d ≤ 2 ^ 20)) = true
    rw [h2, Bool.true_and, Bool.and_eq_true, decide_eq_true_eq, decide_eq_true_eq]
    exact ⟨by omega, h4⟩) h5
  exact Nat.le_trans this (by decide)
theorem ints_all : ∀ {zs : List Int}, (∀ z ∈ zs, SmallI z) → PyData.showableAll (zs.map PyData.int) = true ∧ PyData.canLayAll0 (zs.map PyData.int) = true ∧ PyData.depthAll (zs.map PyData.int) = 0 ∧ PyData.weightAll (zs.map PyData.int) ≤ 12 * zs.length ∧ PyData.intsShortAll 13 (zs.map PyData.int) = true
  | [], _ => by simp [PyData.showableAll, PyData.canLayAll0, PyData.depthAll, PyData.weightAll, PyData.intsShortAll]
  | z :: zs, h => by
    obtain ⟨a, b, c⟩ := small_int (h z List.mem_cons_self)
    obtain ⟨h1, h2, h3, h4, h5⟩ := ints_all (zs := zs) fun y hy => h y (List.mem_cons_of_mem _ hy)
    simp only [List.map_cons, PyData.showableAll, PyData.canLayAll0, PyData.depthAll, PyData.weightAll, PyData.intsShortAll, a, b, h1, h2, h3, h5, Bool.and_self, List.length_cons]
    refine ⟨trivial, by simp [PyData.canLay0], by simp [PyData.depth], by omega, trivial⟩
theorem shw_tup {zs : List Int} (h : ∀ z ∈ zs, SmallI z) (hl : zs.length ≤ 1000) : Shw (.tuple (zs.map PyData.int)) := by
  obtain ⟨h1, h2, h3, h4, h5⟩ := ints_all h
  refine shw_of ?_ ?_ ?_ ?_ ?_
  · simpa [PyData.showable] using h1
  · simpa [PyData.canLay0] using h2
  · simp [PyData.depth, h3]
  · simp only [PyData.weight]
    omega
  · simpa [PyData.intsShort] using h5
end Fab
set_option maxHeartbeats 4000000
namespace Fab
open PySem PySem.Spec PyProof.Rows L2 LamX
/-- the tuple of the defaults -/
def DfO (u : Addr) (n : Int) : HO := .ext fun g => ∃ k, g.get? u = some (PySem.W.kdv_tup [.int n k])
section
variable {X : Cx} {pins : List (Addr × Obj)} {σ : L2.St} {H : Hp} {s : Shared}
theorem df_ok {P : Program} {w : World} {H : Hp} {g : Heap} {u : Addr} {n : Int} {k : Tok} (e : g.get? u = some (PySem.W.kdv_tup [.int n k])) : ObjOk P w H g u (DfO u n) := ⟨⟨k, e⟩, ⟨_, e⟩, fun _ _ ⟨k', q⟩ st => ⟨k', st _ q⟩⟩
theorem df_ne {u : Addr} {n : Int} (ps : Array Value) : DfO u n ≠ .tbl ps := fun z => by
  unfold DfO at z
  cases z
/-- the names of such a lambda: its parameter alone is its own -/
structure DfS (p : Str) (around sc : Scope) : Prop where
  kd : sc.kind = .function
  nco : sc.isCoroutine = false
  nge : sc.isGenerator = false
  par : sc.names.lookup p = some .local
  loc : ∀ y ∈ sc.names, y.2 = .local → y.1 = p
  nce : ∀ y ∈ sc.names, y.2 ≠ .cell
  fre : ∀ y ∈ sc.names, y.2 = .free → around.names.lookup y.1 = some .cell ∨ around.names.lookup y.1 = some .free
theorem DfS.has {p : Str} {X : Cx} {sc : Scope} (S : DfS p X.env.scope sc) (ok : X.Ok) : ∀ y ∈ sc.names, y.2 = .free → ∃ c, X.env.cells.lookup y.1 = some c := fun y hy e => ok.has _ (S.fre y hy e)
end
end Fab
set_option maxHeartbeats 4000000
namespace Fab
open PySem PySem.Spec PyProof.Rows L2 LamX
/-- the code object at c: its name, its table -/
def CodeP (c : Addr) (q : Str) (P : Addr) : HO := .ext fun h => h.CodeRec (.ref c) q ∧ PySem.W.CodeHd h c P
theorem codeP_ne {c P : Addr} {q : Str} (ps : Array Value) : CodeP c q P ≠ .tbl ps := fun z => by
  unfold CodeP at z
  cases z
theorem codeP_ok {P' : Program} {w : World} {H : Hp} {g : Heap} {c P : Addr} {q : Str} (h1 : g.CodeRec (.ref c) q) (h2 : PySem.W.CodeHd g c P) : ObjOk P' w H g c (CodeP c q P) := by
  refine ⟨⟨h1, h2⟩, ?_, fun g1 g2 ⟨a, b⟩ st => ?_⟩
  · obtain ⟨o, _, _, _, _, _, _, _, _, e, _⟩ := h2
    exact ⟨o, e⟩
  · obtain ⟨c2, o, vs, t, e, ho, r⟩ := a
    cases e
    obtain ⟨o', vs', file, tf, flags, tg, inF, text, tt, e', r'⟩ := b
    exact ⟨⟨_, o, vs, t, rfl, st _ ho, r⟩, ⟨o', vs', file, tf, flags, tg, inF, text, tt, st _ e', r'⟩⟩
abbrev qIn (q : Str) : Str := q ++ ".<locals>." ++ "<lambda>"
/-- all tables that are known, by the name that the code objects in them bear -/
def AllT (base : Heap) (mg : Str → Option Value) (N : Addr → Option Str) (H : Hp) : Prop := ∀ P q, N P = some q → (base.BuiltinsAt mg P ∧ mainGlobals ≠ P) ∧ ∃ ps : Array Value, H P = some (.tbl ps) ∧ TriplesOk ps.toList ∧
  ∀ (pos : Pos) (cv : Value), codeAmong pos ps.toList = some cv → ∃ c P', cv = .ref c ∧ H c = some (CodeP c q P') ∧ N P' = some (qIn q)
def TabsN (base : Heap) (mg : Str → Option Value) (T : List (Addr × Str)) (H : Hp) : Prop := ∃ N : Addr → Option Str, (∀ p ∈ T, N p.1 = some p.2) ∧ AllT base mg N H
theorem AllT.ext {base : Heap} {mg : Str → Option Value} {N : Addr → Option Str} {H H' : Hp} (t : AllT base mg N H) (e : ∀ b o, H b = some o → (∀ ps, o = .tbl ps → H' b = some o) ∧ (∀ c q P, o = CodeP c q P → H' b = some o)) : AllT base mg N H' := fun P q n => by
  obtain ⟨b, ps, h1, h2, h3⟩ := t P q n
  refine ⟨b, ps, (e _ _ h1).1 ps rfl, h2, fun pos cv hc => ?_⟩
  obtain ⟨c, P', e1, e2, e3⟩ := h3 pos cv hc
  exact ⟨c, P', e1, (e _ _ e2).2 _ _ _ rfl, e3⟩
theorem TabsN.ext {base : Heap} {mg : Str → Option Value} {T : List (Addr × Str)} {H H' : Hp} (t : TabsN base mg T H) (e : ∀ b o, H b = some o → H' b = some o) : TabsN base mg T H' := by
  obtain ⟨N, h1, h2⟩ := t
  exact ⟨N, h1, h2.ext fun b o h => ⟨fun _ _ => e _ _ h, fun _ _ _ _ => e _ _ h⟩⟩
theorem TabsN.tail {base : Heap} {mg : Str → Option Value} {T : List (Addr × Str)} {p : Addr × Str} {H : Hp} (t : TabsN base mg (p :: T) H) : TabsN base mg T H := by
  obtain ⟨N, h1, h2⟩ := t
  exact ⟨N, fun q hq => h1 q (List.mem_cons_of_mem _ hq), h2⟩
/-- in the beginning every table is empty -/
theorem TabsN.start {base : Heap} {mg : Str → Option Value} {T : List (Addr × Str)} {H : Hp} (h : ∀ p ∈ T, H p.1 = some (.tbl #[]) ∧ base.BuiltinsAt mg p.1 ∧ mainGlobals ≠ p.1) (u : ∀ p ∈ T, ∀ q ∈ T, p.1 = q.1 → p.2 = q.2) : TabsN base mg T H := by
  refine ⟨fun a => (T.find? fun p => p.1 == a).map (·.2), fun p hp => ?_, fun P q n => ?_⟩
  · cases e : T.find? (fun y => y.1 == p.1) with
    | none =>
      have := List.find?_eq_none.mp e p hp
      simp at this
    | some y =>
      have h1 := List.mem_of_find?_eq_some e
      have h2 := List.find?_some e
      simp only [beq_iff_eq] at h2
      show (T.find? fun y => y.1 == p.1).map (·.2) = some p.2
      rw [e]
      show some y.2 = some p.2
      rw [u y h1 p hp h2]
  · cases e : T.find? (fun y => y.1 == P) with
    | none =>
      simp only [e, Option.map_none] at n
      cases n
    | some y =>
      have h1 := List.mem_of_find?_eq_some e
      have h2 := List.find?_some e
      simp only [beq_iff_eq] at h2
      obtain ⟨a, b, c⟩ := h y h1
      rw [h2] at a b c
      refine ⟨⟨b, c⟩, #[], a, True.intro, fun pos cv hc => ?_⟩
      simp [codeAmong] at hc
abbrev fnO (q : Str) (ps : Arguments) (e : Expr) (sc : Scope) (cl : List (Str × Addr)) (dV pm cv ct : Value) : FuncData :=
  { name := "<lambda>", qualname := q, params := ps, body := .expr e, scope := sc, globals := mainGlobals, closure := cl, defaults := dV, kwdefaults := .none, doc := .none, pyModule := pm, annotations := none, code := cv, closureTuple := ct, builtins := builtinsNs }
abbrev fnOb (q : Str) (ps : Arguments) (e : Expr) (sc : Scope) (cl : List (Str × Addr)) (dV pm cv ct : Value) : Obj := { cls := .type "function", data := .func (fnO q ps e sc cl dV pm cv ct) }
section
variable {M : Model} {A : Around} {E : Value → Shared → Prop} {s : Shared} {qual : Str} {params : Arguments} {body : Expr} {scope : Scope} {env : Env} {c P : Addr} {ps : Array Value} {pos : Pos} {firstLine : Nat} {mg : Str → Option Value} {clos : List (Str × Addr)} {dV : Value} {Q : Value → Shared → Prop}
theorem tail_new (hcl : closureFor scope env = pure clos) (hge0 : env.globals = mainGlobals) (hg : s.heap.Ns mainGlobals mg) (hcode : env.code = .ref c) (C : PySem.W.CodeHd s.heap c P) (hP : s.heap.get? P = some (PySem.W.tabObj ps)) (ht : TriplesOk ps.toList)
    (hnf : codeAmong pos ps.toList = none) (hgP : mainGlobals ≠ P) (hb : s.heap.BuiltinsAt mg P)
    (h : ∀ c' P' ctv h' tk, Heap.ExtBut P s.heap h' → s.heap.objs.size ≤ c' → c' < h'.objs.size → h'.CodeRec (.ref c') qual → h'.get? P = some (PySem.W.tabObj (ps ++ #[rawInt pos.line, rawInt pos.col, .ref c'])) → s.heap.objs.size ≤ P' → PySem.W.CodeHd h' c' P' → h'.get? P' = some (PySem.W.tabObj #[]) →
      Q (.ref h'.objs.size) { s with heap := h'.push (fnOb qual params body scope clos dV ((mg "__name__").getD .none) (.ref c') ctv), toks := tk }) :
    wpAny M A (makeTail "<lambda>" qual params (.expr body) scope env dV .none none pos firstLine) Q E s := by
  obtain ⟨bm, ob, hbm, hne0, _, hneP, hbo, hcls, hdict, hdata⟩ := hb
  unfold makeTail
  rw [hcl, hge0]
  refine wpAny_bind (wpAny_pure ?_)
  cases clos with
  | nil =>
    simp only [List.isEmpty_nil, if_true]
    refine wpAny_bind (wpAny_pure ?_)
    refine wpAny_bind (wpAny_functionCodeX hcode (C.code hP ht) (C.tab hP) hnf fun c' h' tk hx hge hlt _ hrec htb ⟨P', hP', hi, hta⟩ => ?_)
    have hg' := hg.extBut hx hgP
    refine wpAny_bind (wpAny_builtinsFor hg' hbm hne0 (hx _ _ hneP hbo) hcls hdict hdata ?_)
    refine wpAny_bind (wpAny_nsGet hg' ?_)
    exact wpAny_bind (wpAny_pure (wpAny_newObj_type (h c' P' .none h' tk hx hge hlt hrec htb.2 hP' (.of hi hta) hta.2) (by size_fits)))
  | cons q r =>
    simp only [List.isEmpty_cons, Bool.false_eq_true, if_false]
    refine wpAny_bind (wpAny_newTextTuple ?_)
    refine wpAny_bind (wpAny_functionCodeX hcode ((C.keeps fun b o e => Heap.get?_push_of_some _ e).code (Heap.get?_push_of_some _ hP) ht) ((C.keeps fun b o e => Heap.get?_push_of_some _ e).tab (Heap.get?_push_of_some _ hP)) hnf fun c' h' tk hx hge hlt _ hrec htb ⟨P', hP', hi, hta⟩ => ?_)
    have hg' := (hg.push _).extBut hx hgP
    have hx' : Heap.ExtBut P s.heap h' := fun b o hb' e => hx b o hb' (Heap.get?_push_of_some _ e)
    have up : ∀ {n : Nat}, (s.heap.push { cls := .type "tuple", dict := none, data := .seq (((q :: r).mergeSort fun a b => a.1.cps.toList ≤ b.1.cps.toList).map (fun y => Value.ref y.2)).toArray }).objs.size ≤ n → s.heap.objs.size ≤ n := fun z => Nat.le_trans (by rw [Heap.size_push]; omega) z
    refine wpAny_bind (wpAny_builtinsFor hg' hbm hne0 (hx' _ _ hneP hbo) hcls hdict hdata ?_)
    refine wpAny_bind (wpAny_nsGet hg' ?_)
    exact wpAny_bind (wpAny_pure (wpAny_newObj_type (h c' P' _ h' tk hx' (up hge) hlt hrec htb.2 (up hP') (.of hi hta) hta.2) (by size_fits)))
theorem tail_hit {cv : Value} (hcl : closureFor scope env = pure clos) (hge0 : env.globals = mainGlobals) (hg : s.heap.Ns mainGlobals mg) (hcode : env.code = .ref c) (C : PySem.W.CodeHd s.heap c P) (hP : s.heap.get? P = some (PySem.W.tabObj ps)) (ht : TriplesOk ps.toList)
    (hf : codeAmong pos ps.toList = some cv) (hb : s.heap.BuiltinsAt mg P)
    (h : ∀ (ctv : Value) (h' : Heap) (tk : Tok), (∀ b o, s.heap.get? b = some o → h'.get? b = some o) → s.heap.objs.size ≤ h'.objs.size →
      Q (.ref h'.objs.size) { s with heap := h'.push (fnOb qual params body scope clos dV ((mg "__name__").getD .none) cv ctv), toks := tk }) :
    wpAny M A (makeTail "<lambda>" qual params (.expr body) scope env dV .none none pos firstLine) Q E s := by
  obtain ⟨bm, ob, hbm, hne0, _, hneP, hbo, hcls, hdict, hdata⟩ := hb
  unfold makeTail
  rw [hcl, hge0]
  refine wpAny_bind (wpAny_pure ?_)
  cases clos with
  | nil =>
    simp only [List.isEmpty_nil, if_true]
    refine wpAny_bind (wpAny_pure ?_)
    refine wpAny_bind (wpAny_functionCode_hit hcode (C.code hP ht) hf ?_)
    refine wpAny_bind (wpAny_builtinsFor hg hbm hne0 hbo hcls hdict hdata ?_)
    refine wpAny_bind (wpAny_nsGet hg ?_)
    exact wpAny_bind (wpAny_pure (wpAny_newObj_type (h .none s.heap s.toks (fun _ _ e => e) (Nat.le_refl _)) (by size_fits)))
  | cons q r =>
    simp only [List.isEmpty_cons, Bool.false_eq_true, if_false]
    refine wpAny_bind (wpAny_newTextTuple ?_)
    refine wpAny_bind (wpAny_functionCode_hit hcode ((C.keeps fun b o e => Heap.get?_push_of_some _ e).code (Heap.get?_push_of_some _ hP) ht) hf ?_)
    refine wpAny_bind (wpAny_builtinsFor (hg.push _) hbm hne0 (Heap.get?_push_of_some _ hbo) hcls hdict hdata ?_)
    refine wpAny_bind (wpAny_nsGet (hg.push _) ?_)
    have hsz : ∀ oT : Obj, s.heap.objs.size ≤ (s.heap.push oT).objs.size := fun oT => by rw [Heap.size_push]; omega
    exact wpAny_bind (wpAny_pure (wpAny_newObj_type (h _ _ s.toks (fun b o e => Heap.get?_push_of_some _ e) (hsz _)) (by size_fits)))
end
section
variable {X : Cx} {pins : List (Addr × Obj)} {σ : L2.St} {H : Hp} {s : Shared}
/-- a table is written, a code object and its own table are new and known from now on -/
theorem inv_tables {P c P' : Addr} {q : Str} {ps more : Array Value} {h' : Heap} {t' : Nat} (I : Inv X pins σ H s) (hP : H P = some (.tbl ps)) (k : ∀ b o, b ≠ P → s.heap.get? b = some o → h'.get? b = some o)
    (hm : h'.get? P = some { cls := .none, data := .fields (ps ++ more) }) (hc : s.heap.objs.size ≤ c) (hc' : s.heap.objs.size ≤ P') (ho : h'.CodeRec (.ref c) q) (hh : PySem.W.CodeHd h' c P') (hn : h'.get? P' = some (PySem.W.tabObj #[])) :
    Inv X pins σ (upd (upd (upd H P (.tbl (ps ++ more))) c (CodeP c q P')) P' (.tbl #[])) { s with heap := h', toks := t' } := by
  have nC : H c = none := I.hok.fresh hc
  have nD : H P' = none := I.hok.fresh hc'
  have nPc : P ≠ c := ne_of_none hP nC
  have nPd : P ≠ P' := ne_of_none hP nD
  have ncd : c ≠ P' := by
    obtain ⟨_, _, _, _, _, _, _, _, _, _, _, _, _, _, _, _, _, _, r⟩ := hh
    exact r
  have at_ : ∀ b, b ≠ P → b ≠ c → b ≠ P' → upd (upd (upd H P (.tbl (ps ++ more))) c (CodeP c q P')) P' (.tbl #[]) b = H b := fun b h1 h2 h3 => by rw [upd_ne h3, upd_ne h2, upd_ne h1]
  have atP : upd (upd (upd H P (.tbl (ps ++ more))) c (CodeP c q P')) P' (.tbl #[]) P = some (.tbl (ps ++ more)) := by rw [upd_ne nPd, upd_ne nPc, upd_same]
  have atC : upd (upd (upd H P (.tbl (ps ++ more))) c (CodeP c q P')) P' (.tbl #[]) c = some (CodeP c q P') := by rw [upd_ne ncd, upd_same]
  have nP : ∀ b u, H b = some u → (∀ q, u ≠ .tbl q) → b ≠ P := fun b u e q z => by
    rw [z, hP] at e
    exact q ps (Option.some.inj e).symm
  have nN : ∀ b, H b = none → b ≠ P := fun b e z => by
    rw [z, hP] at e
    cases e
  have lt' : ∀ b o, s.heap.get? b = some o → b ≠ c ∧ b ≠ P' := fun b o e => ⟨fun z => by
    rw [z] at e
    exact Nat.lt_irrefl _ (Nat.lt_of_lt_of_le (Heap.lt_size e) hc), fun z => by
    rw [z] at e
    exact Nat.lt_irrefl _ (Nat.lt_of_lt_of_le (Heap.lt_size e) hc')⟩
  have sm : ∀ b u, H b = some u → b ≠ c ∧ b ≠ P' := fun b u e => ⟨ne_of_none e nC, ne_of_none e nD⟩
  refine I.step (g' := s.gens) (d' := s.drawn) (ch := []) (fun b hb => absurd hb (by simp)) (fun b o _ _ _ e n => k b o (nN b n) e) (fun b o _ _ _ e n => ⟨o.slots, k b o (nN b n) e⟩)
    (fun b o _ e n => by rw [at_ b (nN b n) (lt' b o e).1 (lt' b o e).2]; exact n) (fun b o _ e => ?_) (fun b xs e => by rw [at_ b (nP b _ e (fun q z => by cases z)) (sm b _ e).1 (sm b _ e).2]; exact e) (fun b o u e => by rw [at_ b (nP b _ e (fun q z => by cases z)) (sm b _ e).1 (sm b _ e).2]; exact e) (fun b qs e => ?_) (fun m hn => ?_) (fun b u e => ?_) I.bare
  · by_cases hb : b = P
    · rw [hb]
      exact ⟨_, hm⟩
    · exact ⟨o, k b o hb e⟩
  · by_cases hb : b = P
    · rw [hb, hP] at e
      cases e
      rw [hb, atP]
      exact ⟨more, rfl⟩
    · rw [at_ b hb (sm b _ e).1 (sm b _ e).2, e]
      exact ⟨#[], by simp⟩
  · obtain ⟨ob, es, ep, ho, r⟩ := hn
    exact ⟨ob, es, ep, k _ ob (nN _ I.free) ho, r⟩
  · by_cases hd : b = P'
    · rw [hd, upd_same] at e
      cases e
      rw [hd]
      exact hn
    by_cases hb : b = c
    · rw [hb, atC] at e
      cases e
      rw [hb]
      exact codeP_ok ho hh
    · by_cases hb2 : b = P
      · rw [hb2, atP] at e
        cases e
        rw [hb2]
        exact hm
      · rw [at_ b hb2 hb hd] at e
        refine (I.hok b u e).stay (fun d v hd q => k d v ?_ q) (fun d q => by rw [at_ d (nP d _ q (fun q z => by cases z)) (sm d _ q).1 (sm d _ q).2]; exact q) fun d xs q => by rw [at_ d (nP d _ q (fun q z => by cases z)) (sm d _ q).1 (sm d _ q).2]; exact q
        rcases hd with z | z
        · rw [z]
          exact hb2
        · exact nP d _ z (fun q z => by cases z)
/-- the maker's own code object: of the text, or made -/
def OwnC (base : Heap) (H : Hp) (c P : Addr) : Prop := PySem.W.CodeHd base c P ∨ ∃ q, H c = some (CodeP c q P)
theorem OwnC.hd {c P : Addr} (o : OwnC X.base H c P) (I : Inv X pins σ H s) : PySem.W.CodeHd s.heap c P := by
  rcases o with h | ⟨q, h⟩
  · exact h.keeps I.bk
  · exact (I.hok c _ h).1.2
theorem OwnC.ext {H' : Hp} {c P : Addr} {base : Heap} (o : OwnC base H c P) (e : ExtN H H') : OwnC base H' c P := o.imp id fun ⟨q, h⟩ => ⟨q, e _ _ h codeP_ne⟩
/-- behind the making of the function object -/
theorem made_tail {T : List (Addr × Str)} {c P : Addr} {params : Arguments} {body : Expr} {scope : Scope} {pos : Pos} {line : Nat} {dV : Value} {E : Value → Shared → Prop} {Q : Value → Shared → Prop} (I : Inv X pins σ H s) (own : OwnC X.base H c P) (hcode : X.env.code = .ref c)
    (hT : TabsN X.base X.mg T H) (hm : (P, X.env.qual ++ "<lambda>") ∈ T) (hfree : ∀ y ∈ scope.names, y.2 = .free → ∃ c, X.env.cells.lookup y.1 = some c)
    (h : ∀ (f c' P' : Addr) (pm ctv : Value) (H1 : Hp) (s' : Shared), Inv X pins σ H1 s' → ExtN H H1 → TabsN X.base X.mg ((P', qIn (X.env.qual ++ "<lambda>")) :: T) H1 →
      s'.heap.get? f = some (fnOb (X.env.qual ++ "<lambda>") params body scope (cloFrom X.env.cells scope.names []) dV pm (.ref c') ctv) → H1 f = none → f ∉ frs X.stack → H1 c' = some (CodeP c' (X.env.qual ++ "<lambda>") P') → Q (.ref f) s') :
    wpAny (model X.prog X.w) X.A (makeTail "<lambda>" (X.env.qual ++ "<lambda>") params (.expr body) scope X.env dV .none none pos line) Q E s := by
  obtain ⟨N, n1, n2⟩ := hT
  have nP := n1 _ hm
  obtain ⟨⟨bA, gP⟩, ps, hP, ht, ha⟩ := n2 _ _ nP
  have bP : s.heap.BuiltinsAt X.mg P := bA.keeps I.bk
  have hP' : s.heap.get? P = some { cls := .none, data := .fields ps } := I.hok P _ hP
  have C := own.hd I
  have nofr : ∀ f, s.heap.objs.size ≤ f → f ∉ frs X.stack := fun f hf z => by
    rcases List.mem_cons.mp (I.stkSub _ z) with e | e
    · have h1 := I.lt
      rw [← e] at h1
      exact Nat.lt_irrefl _ (Nat.lt_of_lt_of_le h1 hf)
    · exact I.nofs hf e
  cases hc : codeAmong pos ps.toList with
  | none =>
    refine tail_new (mg := X.mg) (c := c) (P := P) (ps := ps) (closure_ok hfree) I.ok.glob (I.mod.glob.keeps I.bk) hcode C hP' ht hc gP bP fun c' D ctv h' tk hx hge hlt hrec htb hD hh hn => ?_
    have hsz : s.heap.objs.size ≤ h'.objs.size := Nat.le_trans hge (Nat.le_of_lt hlt)
    have nC : H c' = none := I.hok.fresh hge
    have nD : H D = none := I.hok.fresh hD
    have up : ∀ b o, h'.get? b = some o → (h'.push (fnOb (X.env.qual ++ "<lambda>") params body scope (cloFrom X.env.cells scope.names []) dV ((X.mg "__name__").getD .none) (.ref c') ctv)).get? b = some o := fun b o e => Heap.get?_push_of_some _ e
    have hrec' : (h'.push (fnOb (X.env.qual ++ "<lambda>") params body scope (cloFrom X.env.cells scope.names []) dV ((X.mg "__name__").getD .none) (.ref c') ctv)).CodeRec (.ref c') (X.env.qual ++ "<lambda>") := by
      obtain ⟨c2, o, vs, t, e, ho, r⟩ := hrec
      exact ⟨c2, o, vs, t, e, up _ _ ho, r⟩
    have I1 := inv_tables (t' := tk) (more := #[rawInt pos.line, rawInt pos.col, .ref c']) (h' := h'.push (fnOb (X.env.qual ++ "<lambda>") params body scope (cloFrom X.env.cells scope.names []) dV ((X.mg "__name__").getD .none) (.ref c') ctv)) I hP
      (fun b o hb e => up _ _ (hx b o hb e)) (up _ _ htb) hge hD hrec' (hh.keeps up) (up _ _ hn)
    have ncd : c' ≠ D := by
      obtain ⟨_, _, _, _, _, _, _, _, _, _, _, _, _, _, _, _, _, _, r⟩ := hh
      exact r
    have ePD : P ≠ D := ne_of_none hP nD
    have hE : ExtN H (upd (upd (upd H P (.tbl (ps ++ #[rawInt pos.line, rawInt pos.col, .ref c']))) c' (CodeP c' (X.env.qual ++ "<lambda>") D)) D (.tbl #[])) := fun b o e n => by
      rw [upd_ne (ne_of_none e nD), upd_ne (ne_of_none e nC), upd_ne (fun z => n ps (Option.some.inj (e.symm.trans (by rw [z]; exact hP))))]
      exact e
    have atC : upd (upd (upd H P (.tbl (ps ++ #[rawInt pos.line, rawInt pos.col, .ref c']))) c' (CodeP c' (X.env.qual ++ "<lambda>") D)) D (.tbl #[]) c' = some (CodeP c' (X.env.qual ++ "<lambda>") D) := by rw [upd_ne ncd, upd_same]
    have eL : (ps ++ #[rawInt pos.line, rawInt pos.col, .ref c']).toList = ps.toList ++ [rawInt pos.line, rawInt pos.col, .ref c'] := by simp
    have nND : ∀ q, N D ≠ some q := fun q z => by
      obtain ⟨_, ps', z', _⟩ := n2 D q z
      rw [nD] at z'
      cases z'
    have kN : ∀ a q, N a = some q → (if a = D then some (qIn (X.env.qual ++ "<lambda>")) else N a) = some q := fun a q z => by
      rw [if_neg (fun y => nND q (by rw [← y]; exact z))]
      exact z
    refine h h'.objs.size c' D ((X.mg "__name__").getD .none) ctv _ _ I1 hE ⟨fun a => if a = D then some (qIn (X.env.qual ++ "<lambda>")) else N a, fun p hp => ?_, fun R q hR => ?_⟩ (Heap.get?_push_size _ rfl) ?_ (nofr _ hsz) atC
    · rcases List.mem_cons.mp hp with e | e
      · rw [e]
        exact if_pos rfl
      · have := n1 p e
        show (if p.1 = D then _ else N p.1) = some p.2
        rw [if_neg (fun z => nND p.2 (by rw [← z]; exact this))]
        exact this
    · by_cases hRD : R = D
      · have hR : (if R = D then some (qIn (X.env.qual ++ "<lambda>")) else N R) = some q := hR
        rw [if_pos hRD] at hR
        subst hRD
        refine ⟨⟨?_, ?_⟩, #[], upd_same, True.intro, fun pos cv hc => by simp [codeAmong] at hc⟩
        · obtain ⟨bm, ob, a1, a2, a3, a4, a5, a6⟩ := bA
          refine ⟨bm, ob, a1, a2, a3, fun z => ?_, a5, a6⟩
          have h1 := Heap.lt_size (I.bk _ _ a5)
          rw [z] at h1
          exact Nat.lt_irrefl _ (Nat.lt_of_lt_of_le h1 hD)
        · intro z
          obtain ⟨ob, es, ep, hg, _⟩ := I.mod.glob.keeps I.bk
          have h1 := Heap.lt_size hg
          rw [z] at h1
          exact Nat.lt_irrefl _ (Nat.lt_of_lt_of_le h1 hD)
      · have hR : (if R = D then some (qIn (X.env.qual ++ "<lambda>")) else N R) = some q := hR
        rw [if_neg hRD] at hR
        obtain ⟨b, ps', a1, a2, a3⟩ := n2 R q hR
        by_cases hb : R = P
        · have hb' := hb
          subst hb'
          rw [nP] at hR
          have hq := Option.some.inj hR
          subst hq
          rw [hP] at a1
          cases a1
          refine ⟨b, _, by rw [upd_ne ePD, upd_ne (ne_of_none hP nC), upd_same], by rw [eL]; exact PySem.TriplesOk_snoc _ _ _ _ ht, fun p' cv hcv => ?_⟩
          rw [eL] at hcv
          rcases among_app _ ht hcv with z | z
          · obtain ⟨c0, P0, e1, e2, e3⟩ := a3 p' cv z
            exact ⟨c0, P0, e1, hE _ _ e2 codeP_ne, kN _ _ e3⟩
          · exact ⟨c', D, z, atC, if_pos rfl⟩
        · refine ⟨b, ps', by rw [upd_ne hRD, upd_ne (ne_of_none a1 nC), upd_ne hb]; exact a1, a2, fun p' cv hcv => ?_⟩
          obtain ⟨c0, P0, e1, e2, e3⟩ := a3 p' cv hcv
          exact ⟨c0, P0, e1, hE _ _ e2 codeP_ne, kN _ _ e3⟩
    · have n1' : h'.objs.size ≠ c' := Nat.ne_of_gt hlt
      have n2' : h'.objs.size ≠ P := Nat.ne_of_gt (Nat.lt_of_lt_of_le (Heap.lt_size hP') hsz)
      have n3' : h'.objs.size ≠ D := Nat.ne_of_gt (Heap.lt_size hn)
      rw [upd_ne n3', upd_ne n1', upd_ne n2']
      exact I.hok.fresh hsz
  | some cv =>
    obtain ⟨c', D, e, hco, nD⟩ := ha pos cv hc
    subst e
    refine tail_hit (mg := X.mg) (c := c) (P := P) (ps := ps) (closure_ok hfree) I.ok.glob (I.mod.glob.keeps I.bk) hcode C hP' ht hc bP fun ctv h' tk hx hsz => ?_
    have I1 : Inv X pins σ H { s with heap := h'.push (fnOb (X.env.qual ++ "<lambda>") params body scope (cloFrom X.env.cells scope.names []) dV ((X.mg "__name__").getD .none) (.ref c') ctv), toks := tk } := I.kept fun b o e => Heap.get?_push_of_some _ (hx b o e)
    exact h h'.objs.size c' D ((X.mg "__name__").getD .none) ctv H _ I1 (ExtN.refl H) ⟨N, fun p hp => (List.mem_cons.mp hp).elim (fun e => by rw [e]; exact nD) (n1 p), n2⟩ (Heap.get?_push_size _ rfl) (I.hok.fresh hsz) (nofr _ hsz) hco
end
end Fab
set_option maxHeartbeats 4000000
namespace Fab
open PySem PySem.Spec PyProof.Rows L2 LamX
/-- the lambda's names: its parameter alone is its own -/
structure LaS (o : Option Str) (around sc : Scope) : Prop where
  kd : sc.kind = .function
  nco : sc.isCoroutine = false
  nge : sc.isGenerator = false
  par : ∀ p, o = some p → sc.names.lookup p = some .local
  loc : ∀ y ∈ sc.names, y.2 = .local → o = some y.1
  nce : ∀ y ∈ sc.names, y.2 ≠ .cell
  fre : ∀ y ∈ sc.names, y.2 = .free → around.names.lookup y.1 = some .cell ∨ around.names.lookup y.1 = some .free
def laSB (o : Option Str) (around sc : Scope) : Bool := decide (sc.kind = .function) && !sc.isCoroutine && !sc.isGenerator && (match o with | some p => decide (sc.names.lookup p = some .local) | none => true) &&
  sc.names.all fun y => (!decide (y.2 = .local) || decide (o = some y.1)) && !decide (y.2 = .cell) && (!decide (y.2 = .free) || decide (around.names.lookup y.1 = some .cell) || decide (around.names.lookup y.1 = some .free))
theorem laS_by {o : Option Str} {around sc : Scope} (h : laSB o around sc = true) : LaS o around sc := by
  simp only [laSB, Bool.and_eq_true, Bool.or_eq_true, Bool.not_eq_true', decide_eq_true_eq, decide_eq_false_iff_not, List.all_eq_true] at h
  obtain ⟨⟨⟨⟨k1, k2⟩, k3⟩, k4⟩, k5⟩ := h
  refine ⟨k1, k2, k3, fun p e => ?_, fun y hy e => ?_, fun y hy => (k5 y hy).1.2, fun y hy e => ?_⟩
  · subst e
    exact of_decide_eq_true k4
  · exact (k5 y hy).1.1.elim (fun z => absurd e z) id
  · rcases (k5 y hy).2 with (z | z) | z
    · exact absurd e z
    · exact .inl z
    · exact .inr z
theorem LaS.has {o : Option Str} {X : Cx} {sc : Scope} (S : LaS o X.env.scope sc) (ok : X.Ok) : ∀ y ∈ sc.names, y.2 = .free → ∃ c, X.env.cells.lookup y.1 = some c := fun y hy e => ok.has _ (S.fre y hy e)
/-- the name stands for nothing yet -/
def UnS (N : List Str) (σ : L2.St) (p : Str) : Prop := ∀ (i : Nat) (v : V), N[i]? = some p → σ[i]? = some (some v) → False
theorem UnS.of {N : List Str} {σ : L2.St} {p : Str} (h : p ∉ N) : UnS N σ p := fun _ _ e _ => h (List.mem_of_getElem? e)
/-- the context of its body -/
def laCx (X : Cx) (o : Option Str) (A : Around) (outer : List Env) (s : Shared) (H : Hp) (E : XK) (scope : Scope) (f c' : Addr) : Cx where
  prog := X.prog
  w := X.w
  K := X.K
  mg := X.mg
  base := X.base
  A := A.deeper (lamEnv X scope s.heap.objs.size f c')
  N := X.N ++ o.toList
  s_0 := s
  H_0 := H
  env := lamEnv X scope s.heap.objs.size f c'
  outer := outer
  stack := lamEnv X scope s.heap.objs.size f c' :: outer
  ex := []
  fn := fun _ => false
  calm := true
  pn := []
  xe := fun e s' => wpAny (model X.prog X.w) (A.deeper (lamEnv X scope s.heap.objs.size f c')) (leaving (lamEnv X scope s.heap.objs.size f c') e) (fun _ s'' => L2.CX X.prog X.w outer H s E e s'') (fun e' s'' => L2.CX X.prog X.w outer H s E e' s'') s'
section
variable {X : Cx} {pins : List (Addr × Obj)} {σ : L2.St} {H HZ : Hp} {s s1 : Shared}
theorem la_start {o : Option Str} {A : Around} {outer : List Env} {E : XK} {sc : Scope} {f d : Addr} {g : Heap} {tk : Nat} {vs : List V} {us : List Value} (I : L2.Inv X pins σ H s) (S : LaS o X.env.scope sc) (np : ∀ p, o = some p → UnS X.N σ p) (hl : vs.length = o.toList.length) (r : Vals vs us) (e0 : Env0 X.prog X.w X.K X.mg X.base A outer s1 HZ) (hd : A.handled = none)
    (un : Un (frs X.stack) [] H HZ s.heap s1.heap) (ns : g.Ns s1.heap.objs.size fun y => (o.toList.zip us).reverse.lookup y) (kp : ∀ b o, s1.heap.get? b = some o → g.get? b = some o) : L2.Inv (laCx X o A outer s1 HZ E sc f d) [] (σ ++ vs.map some) HZ { s1 with heap := g, toks := tk } := by
  have fr := S.has I.ok
  have seen : ∀ {y}, sc.names.lookup y = some .free → ∃ c, (cloFrom X.env.cells sc.names []).lookup y = some c := fun {y} q => mem_lookup (cloFrom_has (cells := X.env.cells) (acc := []) (PySem.mem_of_lookup q))
  have back : ∀ {y c}, (cloFrom X.env.cells sc.names []).lookup y = some c → X.env.cells.lookup y = some c := fun {y c} q => by
    cases cloFrom_mem (PySem.mem_of_lookup q) with
    | inl z => cases z
    | inr z =>
      obtain ⟨z1, z2⟩ := z
      obtain ⟨c1, z3⟩ := fr _ z1 rfl
      have z3 : X.env.cells.lookup y = some c1 := z3
      rw [z3] at z2
      rw [z3, z2]
      rfl
  have cells : ∀ {c : Addr} {v : Option Value}, H c = none → s.heap.IsCell c v → g.IsCell c v := fun {c v} n ⟨o, ho, hv⟩ => by
    obtain ⟨sl, q⟩ := un.any ho n (by simp)
    exact ⟨_, kp _ _ q, hv⟩
  have nil_ : ∀ b : Addr, b ∉ (laCx X o A outer s1 HZ E sc f d).ex := fun b z => absurd (show b ∈ ([] : List Addr) from z) (by simp)
  have isF : ∀ {y}, sc.names.lookup y = some .cell ∨ sc.names.lookup y = some .free → sc.names.lookup y = some .free := fun {y} q => q.elim (fun z => absurd rfl (S.nce _ (PySem.mem_of_lookup z))) id
  refine ⟨⟨e0.mod, S.kd, rfl, rfl, Nat.le_refl _, fun y z c q1 q2 => I.ok.inj y z c (back q1) (back q2), fun y hy => seen (isF hy), fun y c z _ => ?_, fun _ => hd, Around.frames_deeper e0.frames, .inr ⟨rfl, rfl⟩, fun b z => absurd z (nil_ b), e0.bs, e0.bsz, fun b _ _ => nil_ b,
      fun b z => absurd z (nil_ b), e0.funs, e0.frf⟩, rfl, e0.bare, Un.kept kp, ⟨_, ns, fun i y v q1 q2 q3 => ?_⟩, fun y c q => ?_, e0.hok.fresh (Nat.le_refl _), fun y c q => ?_, fun q hq => absurd (show q ∈ ([] : List (Addr × Obj)) ++ [] from hq) (by simp), e0.hok.kept kp, ?_⟩
  · have z : false = true := z
    cases z
  · have q1 : (X.N ++ o.toList)[i]? = some y := q1
    by_cases hi : i < X.N.length
    · have q1' : X.N[i]? = some y := by
        rw [List.getElem?_append_left hi] at q1
        exact q1
      have q2' : σ[i]? = some (some v) := by
        rw [List.getElem?_append_left (by rw [I.len]; exact hi)] at q2
        exact q2
      have hy : sc.names.lookup y = some .free := by
        rcases (show Vis sc y from q3) with z | z | z
        · have := S.loc _ (PySem.mem_of_lookup z) rfl
          exact (np _ this i v q1' q2').elim
        · exact isF (.inl z)
        · exact z
      obtain ⟨m0, _, hl⟩ := I.loc
      have vis : Vis X.env.scope y := (S.fre _ (PySem.mem_of_lookup hy) rfl).elim (fun z => .inr (.inl z)) (fun z => .inr (.inr z))
      obtain ⟨u, ru, st⟩ := hl i y v q1' q2' vis
      obtain ⟨c2, h2⟩ := seen hy
      refine ⟨u, ru, .inr ⟨.inr hy, c2, h2, ?_⟩⟩
      have c1 := back h2
      cases st with
      | inl z =>
        have z1 : X.env.scope.names.lookup y = some .local := z.1
        rcases S.fre _ (PySem.mem_of_lookup hy) rfl with z2 | z2
        · rw [show X.env.scope.names.lookup y = _ from z2] at z1
          cases z1
        · rw [show X.env.scope.names.lookup y = _ from z2] at z1
          cases z1
      | inr z =>
        obtain ⟨_, c3, z3, z4⟩ := z
        rw [c1] at z3
        cases z3
        exact cells (I.freeC y _ c1) z4
    · rw [List.getElem?_append_right (by omega)] at q1
      rw [List.getElem?_append_right (by rw [I.len]; omega), I.len] at q2
      cases o with
      | none => simp at q1
      | some p =>
        cases r with
        | nil => simp at hl
        | @cons v1 u1 vs1 us1 r1 r2 =>
          cases r2 with
          | cons _ _ => simp at hl
          | nil =>
            have e0 : i - X.N.length = 0 := by
              have h := (List.getElem?_eq_some_iff.mp q1).1
              simp at h
              omega
            rw [e0] at q1 q2
            simp at q1 q2
            subst q1 q2
            exact ⟨u1, r1, .inl ⟨S.par _ rfl, by simp⟩⟩
  · obtain ⟨v, z⟩ := I.cell y c (back q)
    exact ⟨v, cells (I.freeC y c (back q)) z⟩
  · obtain ⟨v, o, ho, _⟩ := I.cell y c (back q)
    exact un.free c o ho (I.freeC y c (back q)) (by simp)
  · show (σ ++ vs.map some).length = (X.N ++ o.toList).length
    rw [List.length_append, List.length_map, List.length_append, hl, I.len]
/-- the context of the def that got the lambda -/
abbrev zCx (X : Cx) (CXg : CXT) (Eg : XK) (Ng : List Str) (qg : Str) (sg : Scope) (g : Addr) (cdg : Value) (s : Shared) (H : Hp) (pn : List (Addr × Obj)) (xe : Value → Shared → Prop) : Cx := (cxOf CXg X.prog X.w X.K X.mg X.base Ng qg sg g cdg X.A X.stack s H Eg).tr pn xe
theorem la_run {o : Option Str} {CXg : CXT} {Eg : XK} {Ng : List Str} {qg : Str} {sg : Scope} {g f d P' : Addr} {cdg pm ct dV : Value} {ps : Arguments} {e : Expr} {sc : Scope} {k : Nat} {pn pz : List (Addr × Obj)} {xe : Value → Shared → Prop} {W : WX} {E : XK} {tb : TE} {σz : L2.St} {us0 us : List Value} {vs : List V} {Q : VK}
    (I : L2.Inv X pins σ H s) (S : LaS o X.env.scope sc) (np : ∀ p, o = some p → UnS X.N σ p) (hf : s.heap.get? f = some (fnOb (X.env.qual ++ "<lambda>") ps e sc (cloFrom X.env.cells sc.names []) dV pm (.ref d) ct)) (nf : H f = none) (nst : f ∉ frs X.stack)
    (tk : Takes (zCx X CXg Eg Ng qg sg g cdg s H pn xe) W) (hW : ∀ cls d σ' H', E cls d H' → W cls d σ' H') (room : Room (k + 1) (X.A.deeper (envOfC qg sg s.heap.objs.size g cdg)))
    (does : ∀ (A : Around) (outer : List Env) (s : Shared) (H : Hp), Room k (A.deeper (lamEnv X sc s.heap.objs.size f d)) → PE (laCx X o A outer s H E sc f d) e tb)
    (I1 : L2.Inv (zCx X CXg Eg Ng qg sg g cdg s H pn xe) pz σz HZ s1) (hc : HZ d = some (CodeP d (X.env.qual ++ "<lambda>") P')) (bd : BindsTo s1 (fnO (X.env.qual ++ "<lambda>") ps e sc (cloFrom X.env.cells sc.names []) dV pm (.ref d) ct) ⟨us0, []⟩ (o.toList.zip us)) (r : Vals vs us) (hl : vs.length = o.toList.length)
    (ht : tb (σ ++ vs.map some) HZ Q) : wpAny (model X.prog X.w) (X.A.deeper (envOfC qg sg s.heap.objs.size g cdg)) (call (.ref f) us0) (EP (zCx X CXg Eg Ng qg sg g cdg s H pn xe) pz σz Q) xe s1 := by
  have fn := I1.base.keep f _ hf nf nst (fun z => nomatch (show f ∈ ([] : List Addr) from z))
  obtain ⟨⟨⟨c2, oc, vc, t, ec, hoc, hdat, hname⟩, _⟩, _, _⟩ := I1.hok d _ hc
  cases ec
  have unz : Un (frs X.stack) [] H HZ s.heap s1.heap := I1.base
  have ran : codeAny (model X.prog X.w) (X.A.deeper (envOfC qg sg s.heap.objs.size g cdg)) (.call (.ref f) ⟨us0, []⟩) (CR (L2.CX X.prog X.w) (envOfC qg sg s.heap.objs.size g cdg :: X.stack) X.prog X.w HZ s1 Q E) s1 := by
    refine PySem.W.kla_callFunE room.depth fn rfl S.nco S.nge rfl ⟨d, oc, vc, t, rfl, hoc, hdat, hname⟩ ?_
    refine bd _ _ _ _ ?_
    refine wpAny_newFunctionEnv (fun y hy => S.nce y hy) (fun y hy => ?_) (fun g2 ns sb => ⟨I1.nolimit.fresh _ sb, ?_⟩) S.kd
    · cases o with
      | none => simp at hy
      | some p =>
        cases us with
        | nil => simp at hy
        | cons u us =>
          simp at hy
          rw [hy]
          exact S.par _ rfl
    · show codeAny _ _ (.expr e (lamEnv X sc s1.heap.objs.size f d)) _ _
      have kp : ∀ b o, s1.heap.get? b = some o → g2.get? b = some o := fun b o q => sb.extBut b o (Nat.ne_of_lt (Heap.lt_size q)) (Heap.get?_push_of_some _ q)
      refine PySem.W.kla_codeExpr (wpAny_mono ((does _ _ s1 HZ (room.deeper _)).run [] _ _ HZ Q (la_start I S np hl r I1.env0 room.hd unz ns kp) ht) (fun v s2 ⟨w2, H2, J, rw2, q2⟩ => ?_) fun _ _ q => q)
      exact ⟨w2, H2, J.os, J.bare, J.base, J.hok, rw2, q2⟩
  have ps_ : Passes (L2.CX X.prog X.w) (zCx X CXg Eg Ng qg sg g cdg s H pn xe) E := passes_call tk hW
  refine wpAny_call (codeAny_mono ran fun r s2 hq => ?_)
  match r, hq with
  | .error er, hq => exact ps_ pz σz HZ s1 er s2 I1 hq
  | .ok (.ret _), hq => exact I1.after hq
  | .ok .next, hq => exact hq.elim
  | .ok .brk, hq => exact hq.elim
  | .ok .cont, hq => exact hq.elim
/-- a(), in the def that got it -/
theorem pe_la0 {o : Option Str} {CXg : CXT} {Eg : XK} {Ng : List Str} {qg : Str} {sg : Scope} {g f d P' : Addr} {cdg pm ct dV : Value} {ps : Arguments} {e : Expr} {sc : Scope} {k i : Nat} {a : Str} {pn : List (Addr × Obj)} {xe : Value → Shared → Prop} {W : WX} {E : XK} {tb : TE} {vs : List V} {F : Hp → Prop} {p1 p2 : Pos}
    (I : L2.Inv X pins σ H s) (S : LaS o X.env.scope sc) (np : ∀ p, o = some p → UnS X.N σ p) (hf : s.heap.get? f = some (fnOb (X.env.qual ++ "<lambda>") ps e sc (cloFrom X.env.cells sc.names []) dV pm (.ref d) ct)) (nf : H f = none) (nst : f ∉ frs X.stack)
    (tk : Takes (zCx X CXg Eg Ng qg sg g cdg s H pn xe) W) (hW : ∀ cls d σ' H', E cls d H' → W cls d σ' H') (room : Room (k + 1) (X.A.deeper (envOfC qg sg s.heap.objs.size g cdg)))
    (does : ∀ (A : Around) (outer : List Env) (s : Shared) (H : Hp), Room k (A.deeper (lamEnv X sc s.heap.objs.size f d)) → PE (laCx X o A outer s H E sc f d) e tb)
    (hF : ∀ HZ, F HZ → HZ d = some (CodeP d (X.env.qual ++ "<lambda>") P')) (bd : ∀ (HZ : Hp) (s1 : Shared), F HZ → HOk X.prog X.w HZ s1.heap → ∃ us, Vals vs us ∧ BindsTo s1 (fnO (X.env.qual ++ "<lambda>") ps e sc (cloFrom X.env.cells sc.names []) dV pm (.ref d) ct) ⟨[], []⟩ (o.toList.zip us)) (hl : vs.length = o.toList.length)
    (at_ : Ng[i]? = some a) (vis : Vis sg a) (nd : (a == ("__debug__" : Str)) = false := by decide) (nc : (a == ("__classdict__" : Str)) = false := by decide) :
    PE (zCx X CXg Eg Ng qg sg g cdg s H pn xe) (.Call (.Name a p1) [] [] p2) (fun σZ HZ Q => σZ[i]? = some (some (.ref f)) ∧ F HZ ∧ tb (σ ++ vs.map some) HZ Q) := by
  refine ⟨fun pz sz σz Hz Q Iz h => ?_⟩
  obtain ⟨h1, h2, h4⟩ := h
  refine wpAny_Call_Name_kw (thn ((pe_var (pos := p1) (i := i) at_ vis nd nc).run pz sz σz Hz (fun v H1 => v = .ref f ∧ H1 = Hz) Iz ⟨.ref f, h1, rfl, rfl⟩) fun x s1 ⟨v, H1, I1, rv, ev, eh⟩ => ?_)
  subst ev
  obtain rfl : Hz = H1 := eh.symm
  obtain rfl : x = Value.ref f := rv
  have fn := I1.base.keep f _ hf nf nst (fun z => nomatch (show f ∈ ([] : List Addr) from z))
  refine PySem.W.callWith_F0 ⟨_, _, _, _, fn⟩ ?_
  obtain ⟨us, r, b⟩ := bd Hz s1 h2 I1.hok
  exact la_run I S np hf nf nst tk hW room does I1 (hF _ h2) b r hl h4
/-- a(e0), in the def that got it -/
theorem pe_la1 {p : Str} {CXg : CXT} {Eg : XK} {Ng : List Str} {qg : Str} {sg : Scope} {g f d P' : Addr} {cdg pm ct dV : Value} {ps : Arguments} {e e0 : Expr} {sc : Scope} {k i : Nat} {a : Str} {pn : List (Addr × Obj)} {xe : Value → Shared → Prop} {W : WX} {E : XK} {tb t0 : TE} {F : Hp → Prop} {p1 p2 : Pos}
    (I : L2.Inv X pins σ H s) (S : LaS (some p) X.env.scope sc) (np : UnS X.N σ p) (hf : s.heap.get? f = some (fnOb (X.env.qual ++ "<lambda>") ps e sc (cloFrom X.env.cells sc.names []) dV pm (.ref d) ct)) (nf : H f = none) (nst : f ∉ frs X.stack)
    (tk : Takes (zCx X CXg Eg Ng qg sg g cdg s H pn xe) W) (hW : ∀ cls d σ' H', E cls d H' → W cls d σ' H') (room : Room (k + 1) (X.A.deeper (envOfC qg sg s.heap.objs.size g cdg)))
    (does : ∀ (A : Around) (outer : List Env) (s : Shared) (H : Hp), Room k (A.deeper (lamEnv X sc s.heap.objs.size f d)) → PE (laCx X (some p) A outer s H E sc f d) e tb)
    (hF : ∀ HZ, F HZ → HZ d = some (CodeP d (X.env.qual ++ "<lambda>") P')) (bd : ∀ u, bindArgs (fnO (X.env.qual ++ "<lambda>") ps e sc (cloFrom X.env.cells sc.names []) dV pm (.ref d) ct) ⟨[u], []⟩ = pure [(p, u)])
    (h0 : PE (zCx X CXg Eg Ng qg sg g cdg s H pn xe) e0 t0) (at_ : Ng[i]? = some a) (vis : Vis sg a) (nd : (a == ("__debug__" : Str)) = false := by decide) (nc : (a == ("__classdict__" : Str)) = false := by decide)
    (hst : starEach [e0] (zCx X CXg Eg Ng qg sg g cdg s H pn xe).env = (false, eval e0 (zCx X CXg Eg Ng qg sg g cdg s H pn xe).env) :: starEach [] (zCx X CXg Eg Ng qg sg g cdg s H pn xe).env := by rfl) :
    PE (zCx X CXg Eg Ng qg sg g cdg s H pn xe) (.Call (.Name a p1) [e0] [] p2) (fun σZ HZ Q => σZ[i]? = some (some (.ref f)) ∧ t0 σZ HZ fun y H1 => F H1 ∧ tb (σ ++ [some y]) H1 Q) := by
  refine ⟨fun pz sz σz Hz Q Iz h => ?_⟩
  obtain ⟨h1, h2⟩ := h
  refine wpAny_Call_Name_kw (thn ((pe_var (pos := p1) (i := i) at_ vis nd nc).run pz sz σz Hz (fun v H1 => v = .ref f ∧ H1 = Hz) Iz ⟨.ref f, h1, rfl, rfl⟩) fun x s1 ⟨v, H1, I1, rv, ev, eh⟩ => ?_)
  subst ev
  obtain rfl : Hz = H1 := eh.symm
  obtain rfl : x = Value.ref f := rv
  have fn := I1.base.keep f _ hf nf nst (fun z => nomatch (show f ∈ ([] : List Addr) from z))
  refine PySem.W.callWith_F ⟨_, _, _, _, fn⟩ (thn ((pa_cons h0 pa_nil hst).run p2 pz s1 σz Hz (fun vs H1 => match vs with | [y] => F H1 ∧ tb (σ ++ [some y]) H1 Q | _ => False) I1 h2) fun us s2 ⟨vs, H2, I2, r, q⟩ => ?_) hst rfl
  match vs, r, q with
  | [y], .cons r1 .nil, ⟨q1, q2⟩ =>
    have fn2 := I2.base.keep f _ hf nf nst (fun z => nomatch (show f ∈ ([] : List Addr) from z))
    exact ⟨⟨_, _, _, _, fn2⟩, la_run (o := some p) (us0 := [_]) (us := [_]) (vs := [y]) I S (fun q e => by cases e; exact np) hf nf nst tk hW room does I2 (hF _ q1) (.of_eq (bd _)) (.cons r1 .nil) rfl q2⟩
end
end Fab
set_option maxHeartbeats 4000000
namespace Fab
open PySem PySem.Spec PyProof.Rows L2 LamX
section
variable {X : Cx} {pins : List (Addr × Obj)} {σ : L2.St} {H HZ : Hp} {s s1 : Shared}
/-- the lambda, without defaults -/
theorem la_make {T : List (Addr × Str)} {c P : Addr} {params : Arguments} {body : Expr} {scope : Scope} {pos : Pos} {E : Value → Shared → Prop} {Q : Value → Shared → Prop} (I : L2.Inv X pins σ H s) (own : OwnC X.base H c P) (hcode : X.env.code = .ref c)
    (hT : TabsN X.base X.mg T H) (hm : (P, X.env.qual ++ "<lambda>") ∈ T) (hdef : defaultsOf params X.env = ([], [])) (hfree : ∀ y ∈ scope.names, y.2 = .free → ∃ c, X.env.cells.lookup y.1 = some c)
    (h : ∀ (f c' P' : Addr) (pm ctv : Value) (H1 : Hp) (s' : Shared), L2.Inv X pins σ H1 s' → ExtN H H1 → TabsN X.base X.mg ((P', qIn (X.env.qual ++ "<lambda>")) :: T) H1 →
      s'.heap.get? f = some (fnOb (X.env.qual ++ "<lambda>") params body scope (cloFrom X.env.cells scope.names []) .none pm (.ref c') ctv) → H1 f = none → f ∉ frs X.stack → H1 c' = some (CodeP c' (X.env.qual ++ "<lambda>") P') → Q (.ref f) s') :
    wpAny (model X.prog X.w) X.A (eval (.Lambda params body scope pos) X.env) Q E s := by
  refine PySem.W.kla_eval hdef ?_
  rw [makeFunction_eq]
  simp only [List.zip_nil_right, List.filterMap_nil, List.isEmpty_nil, if_true, pure_bind]
  exact made_tail I own hcode hT hm hfree h
/-- the lambda with one int as its default -/
theorem la_makeD {T : List (Addr × Str)} {c P : Addr} {n : Int} {k : Nat} {params : Arguments} {body : Expr} {scope : Scope} {pos cp : Pos} {E : Value → Shared → Prop} {Q : Value → Shared → Prop} (I : L2.Inv X pins σ H s) (own : OwnC X.base H c P) (hcode : X.env.code = .ref c)
    (hT : TabsN X.base X.mg T H) (hm : (P, X.env.qual ++ "<lambda>") ∈ T) (dv : params.defaults = [.Constant (.int n) k cp]) (kw : params.kw_defaults = []) (hfree : ∀ y ∈ scope.names, y.2 = .free → ∃ c, X.env.cells.lookup y.1 = some c)
    (h : ∀ (f c' P' u : Addr) (pm ctv : Value) (H1 : Hp) (s' : Shared), L2.Inv X pins σ H1 s' → ExtN H H1 → TabsN X.base X.mg ((P', qIn (X.env.qual ++ "<lambda>")) :: T) H1 →
      s'.heap.get? f = some (fnOb (X.env.qual ++ "<lambda>") params body scope (cloFrom X.env.cells scope.names []) (.ref u) pm (.ref c') ctv) → H1 f = none → f ∉ frs X.stack → H1 c' = some (CodeP c' (X.env.qual ++ "<lambda>") P') → H1 u = some (DfO u n) → Q (.ref f) s') :
    wpAny (model X.prog X.w) X.A (eval (.Lambda params body scope pos) X.env) Q E s := by
  refine PySem.W.kdv_lam (by rw [dv]; rfl) kw ?_
  rw [dv]
  refine PySem.W.kdv_all1 (thn ((pe_int (X := X) (i := n) (j := k) (pos := cp)).run pins s σ H (fun v H' => v = .int n ∧ H' = H) I ⟨rfl, rfl⟩) fun v s0 ⟨y, H0, I0, ry, ey, eh⟩ => PySem.W.kdv_all0 ?_)
  subst ey
  obtain rfl : H = H0 := eh.symm
  obtain ⟨t, rfl⟩ := ry
  rw [makeFunction_eq]
  simp only [List.zip_nil_right, List.filterMap_nil, List.isEmpty_nil, List.isEmpty_cons, if_true, pure_bind, Bool.false_eq_true, if_false]
  refine wpAny_bind (wpAny_newTextTuple ?_)
  have hz : H s0.heap.objs.size = none := I0.hok.fresh (Nat.le_refl _)
  have grow : ∀ b o, s0.heap.get? b = some o → (s0.heap.push (PySem.W.kdv_tup [.int n t])).get? b = some o := fun b o q => Heap.get?_push_of_some _ q
  have I2 := Inv.laidN (t' := s0.toks) (o := DfO s0.heap.objs.size n) I0 grow (Heap.get?_none_of_le (Nat.le_refl _)) hz (df_ok (Heap.get?_push_size _ rfl))
  have ex2 : Same H (upd H s0.heap.objs.size (DfO s0.heap.objs.size n)) := fun b o q => by
    rw [upd_ne (ne_of_none q hz)]
    exact q
  have hu2 : (upd H s0.heap.objs.size (DfO s0.heap.objs.size n)) s0.heap.objs.size = some (DfO s0.heap.objs.size n) := upd_same
  exact made_tail I2 (own.ext (.of ex2)) hcode (hT.ext ex2) hm hfree fun f c' P' pm ctv H1 s' I' e T1 hf nf nst hc => h f c' P' _ pm ctv H1 s' I' ((ExtN.of ex2).trans e) T1 hf nf nst hc (e _ _ hu2 df_ne)
end
def GivesN (X : Cx) (Ng : List Str) (x : Str) (sg : Scope) (g : Addr) (cdg : Value) (bg : List Stmt) (a : Str) (TT : (XK → Hp → VK → Prop) → Hp → VK → Prop) : Prop :=
  ∀ (f : Addr) (s : Shared) (H : Hp) (Q : VK) (tl : XK → Hp → VK → Prop) (F : Hp → Prop), (∀ H H', Same H H' → F H → F H') →
    (∀ (W : WX) (pn : List (Addr × Obj)) (xe : Value → Shared → Prop) (E : XK) (p1 p2 : Pos), Takes (zCx X C8.CX0 C8.E0 Ng x sg g cdg s H pn xe) W → (∀ cls d σ' H', E cls d H' → W cls d σ' H') →
      PE (zCx X C8.CX0 C8.E0 Ng x sg g cdg s H pn xe) (.Call (.Name a p1) [] [] p2) (fun σZ HZ Q => σZ[0]? = some (some (.ref f)) ∧ F HZ ∧ tl E HZ Q)) →
    F H → TT tl H Q → ∃ t, PSs (cxOf C8.CX0 X.prog X.w X.K X.mg X.base Ng x sg g cdg X.A X.stack s H C8.E0).nox bg t ∧ t { nx := fun _ H' => Q .non H', rt := Q } (L2.start Ng [.ref f]) H
def tLamN (base : Heap) (mg : Str → Option Value) (cc tp : Addr) (T : List (Addr × Str)) (q : Str) (TT : (XK → Hp → VK → Prop) → Hp → VK → Prop) (vs : List V) (t : Addr → Addr → XK → TE) : TE := fun σ H Q =>
  TabsN base mg T H ∧ OwnC base H cc tp ∧ ∀ (c' P' : Addr) (H1 : Hp), ExtN H H1 → TabsN base mg ((P', qIn q) :: T) H1 → H1 c' = some (CodeP c' q P') → TT (fun E H' Q' => t c' P' E (σ ++ vs.map some) H' Q') H1 Q
/-- .. with a parameter whose name stands for nothing yet -/
def tLamND (N : List Str) (y : Str) (base : Heap) (mg : Str → Option Value) (cc tp : Addr) (T : List (Addr × Str)) (q : Str) (TT : (XK → Hp → VK → Prop) → Hp → VK → Prop) (vs : List V) (t : Addr → Addr → XK → TE) : TE := fun σ H Q => UnS N σ y ∧ tLamN base mg cc tp T q TT vs t σ H Q
section
variable {X : Cx}
/-- x(lambda: e) -/
theorem pe_lamN {T : List (Addr × Str)} {TT : (XK → Hp → VK → Prop) → Hp → VK → Prop} {x a : Str} {g c P : Addr} {k : Nat} {pg : Arguments} {bg : List Stmt} {sg : Scope} {dV kV doc pm cdv ct oc : Value} {an od : Option Addr} {osl : Array (Option Value)} {Ng : List Str}
    {params : Arguments} {body : Expr} {scope : Scope} {t : Addr → Addr → XK → TE} {p lpos pos : Pos} (hg : Gl X x) (hm : X.mg x = some (.ref g)) (hk : PySem.W.keepIn X.K (.ref g) = true)
    (lk : X.K.lookup g = some ⟨oc, od, .func (PySem.W.fnOf x x pg bg sg dV kV doc pm an cdv ct), osl⟩) (hcg : PySem.W.codeIn X.K cdv x = true) (hb : L2.Binds X.K (PySem.W.fnOf x x pg bg sg dV kV doc pm an cdv ct) [a] []) (Sg : FnScope Ng [a] sg) (hNg : Ng[0]? = some a) (hva : Vis sg a)
    (hG : GivesN X Ng x sg g cdv bg a TT) (hcode : X.env.code = .ref c) (hmT : (P, X.env.qual ++ "<lambda>") ∈ T) (hr : Room (k + 2) X.A) (L : LaS none X.env.scope scope) (hdef : defaultsOf params X.env = ([], []))
    (hbind : ∀ (q : Str) (cl : List (Str × Addr)) (pm cv ctv : Value), bindArgs (fnO q params body scope cl .none pm cv ctv) ⟨[], []⟩ = pure [])
    (hbody : ∀ (A : Around) (outer : List Env) (s : Shared) (H : Hp) (E : XK) (f c' P' : Addr), Room k (A.deeper (lamEnv X scope s.heap.objs.size f c')) → PE (laCx X none A outer s H E scope f c') body (t c' P' E))
    (hdb : (x == ("__debug__" : Str)) = false := by decide) (hd : (a == ("__debug__" : Str)) = false := by decide) (hcd : (a == ("__classdict__" : Str)) = false := by decide) :
    PE X (.Call (.Name x p) [.Lambda params body scope lpos] [] pos) (tLamN X.base X.mg c P T (X.env.qual ++ "<lambda>") TT [] t) := by
  refine ⟨fun pins s σ H Q I h => ?_⟩
  obtain ⟨hT, own, h⟩ := h
  refine wpAny_Call_Name_kw (ld_glob I hg hm ?_ hdb)
  refine PySem.W.callWith_K (h₀ := X.base) I.ok.mod.kin hk ?_ (by rfl) (by rfl)
  show wpAny _ _ (spliced ((false, eval (.Lambda params body scope lpos) X.env) :: backTo pos (starEach [] X.env))) _ _ s
  refine Calls.spliced_cons (la_make I own hcode hT hmT hdef (L.has I.ok) fun f c' P' pm' ctv H1 s' I1 eN T1 hf hfn hfr hco => ?_)
  refine Calls.spliced_nil ⟨I1.kIn, ?_⟩
  have rc : codeAny (model X.prog X.w) X.A (.call (.ref g) ⟨[.ref f], []⟩) (CR C8.CX0 X.stack X.prog X.w H1 s' Q C8.E0) s' := by
    refine run_ofS (N := Ng) (ps := [a]) (us := [.ref f]) (vs := [.ref f]) lk hcg Sg hr I1.env0 (hb s' [.ref f] I1.kIn rfl) (.cons rfl .nil) rfl fun hr' => ?_
    obtain ⟨t', ht', hq'⟩ := hG f s' H1 Q (fun E H' Q' => t c' P' E (σ ++ ([] : List V).map some) H' Q') (fun HZ => HZ c' = some (CodeP c' (X.env.qual ++ "<lambda>") P')) (fun _ _ st q => st _ _ q)
      (fun W pn xe E p1 p2 tk hW => pe_la0 (i := 0) (vs := []) I1 L (fun _ e => nomatch e) hf hfn hfr tk hW hr' (fun A outer s H hr2 => hbody A outer s H E f c' P' hr2) (fun _ q => q) (fun _ _ _ _ => ⟨[], .nil, .of_eq (hbind _ _ _ _ _)⟩) rfl hNg hva hd hcd) hco (h c' P' H1 eN T1 hco)
    exact ⟨t', ht'.nox, hq'⟩
  refine wpAny_call (codeAny_mono rc fun r s2 hq => ?_)
  cases r with
  | error e => exact (show False from hq).elim
  | ok fl =>
    cases fl with
    | ret u => exact I1.after hq
    | next => exact False.elim hq
    | brk => exact False.elim hq
    | cont => exact False.elim hq
/-- how the call of a lambda with a default binds -/
def DfN (p : Str) (n : Int) (ps : Arguments) (e : Expr) (sc : Scope) : Prop := ∀ (q : Str) (cl : List (Str × Addr)) (u : Addr) (pm cv ct : Value), ∃ k : Option (Array Value) → Sem (List (Str × Value)), bindArgs (fnO q ps e sc cl (.ref u) pm cv ct) ⟨[], []⟩ = seqItems? (.ref u) >>= k ∧ ∀ t, k (some #[.int n t]) = pure [(p, .int n t)]
/-- x(lambda p=n: e) -/
theorem pe_lamND {T : List (Addr × Str)} {TT : (XK → Hp → VK → Prop) → Hp → VK → Prop} {x a y : Str} {n : Int} {kk : Nat} {cp : Pos} {g c P : Addr} {k : Nat} {pg : Arguments} {bg : List Stmt} {sg : Scope} {dV kV doc pm cdv ct oc : Value} {an od : Option Addr} {osl : Array (Option Value)} {Ng : List Str}
    {params : Arguments} {body : Expr} {scope : Scope} {t : Addr → Addr → XK → TE} {p lpos pos : Pos} (hg : Gl X x) (hm : X.mg x = some (.ref g)) (hk : PySem.W.keepIn X.K (.ref g) = true)
    (lk : X.K.lookup g = some ⟨oc, od, .func (PySem.W.fnOf x x pg bg sg dV kV doc pm an cdv ct), osl⟩) (hcg : PySem.W.codeIn X.K cdv x = true) (hb : L2.Binds X.K (PySem.W.fnOf x x pg bg sg dV kV doc pm an cdv ct) [a] []) (Sg : FnScope Ng [a] sg) (hNg : Ng[0]? = some a) (hva : Vis sg a)
    (hG : GivesN X Ng x sg g cdv bg a TT) (hcode : X.env.code = .ref c) (hmT : (P, X.env.qual ++ "<lambda>") ∈ T) (hr : Room (k + 2) X.A) (L : LaS (some y) X.env.scope scope) (dv : params.defaults = [.Constant (.int n) kk cp]) (kw : params.kw_defaults = []) (bd : DfN y n params body scope)
    (hbody : ∀ (A : Around) (outer : List Env) (s : Shared) (H : Hp) (E : XK) (f c' P' : Addr), Room k (A.deeper (lamEnv X scope s.heap.objs.size f c')) → PE (laCx X (some y) A outer s H E scope f c') body (t c' P' E))
    (hdb : (x == ("__debug__" : Str)) = false := by decide) (hd : (a == ("__debug__" : Str)) = false := by decide) (hcd : (a == ("__classdict__" : Str)) = false := by decide) :
    PE X (.Call (.Name x p) [.Lambda params body scope lpos] [] pos) (tLamND X.N y X.base X.mg c P T (X.env.qual ++ "<lambda>") TT [.int n] t) := by
  refine ⟨fun pins s σ H Q I h => ?_⟩
  obtain ⟨np, hT, own, h⟩ := h
  refine wpAny_Call_Name_kw (ld_glob I hg hm ?_ hdb)
  refine PySem.W.callWith_K (h₀ := X.base) I.ok.mod.kin hk ?_ (by rfl) (by rfl)
  show wpAny _ _ (spliced ((false, eval (.Lambda params body scope lpos) X.env) :: backTo pos (starEach [] X.env))) _ _ s
  refine Calls.spliced_cons (la_makeD I own hcode hT hmT dv kw (L.has I.ok) fun f c' P' u pm' ctv H1 s' I1 eN T1 hf hfn hfr hco hu => ?_)
  refine Calls.spliced_nil ⟨I1.kIn, ?_⟩
  have rc : codeAny (model X.prog X.w) X.A (.call (.ref g) ⟨[.ref f], []⟩) (CR C8.CX0 X.stack X.prog X.w H1 s' Q C8.E0) s' := by
    refine run_ofS (N := Ng) (ps := [a]) (us := [.ref f]) (vs := [.ref f]) lk hcg Sg hr I1.env0 (hb s' [.ref f] I1.kIn rfl) (.cons rfl .nil) rfl fun hr' => ?_
    obtain ⟨t', ht', hq'⟩ := hG f s' H1 Q (fun E H' Q' => t c' P' E (σ ++ [V.int n].map some) H' Q') (fun HZ => HZ c' = some (CodeP c' (X.env.qual ++ "<lambda>") P') ∧ HZ u = some (DfO u n)) (fun _ _ st q => ⟨st _ _ q.1, st _ _ q.2⟩)
      (fun W pn xe E p1 p2 tk hW => pe_la0 (i := 0) (vs := [.int n]) I1 L (fun _ e => by cases e; exact np) hf hfn hfr tk hW hr' (fun A outer s H hr2 => hbody A outer s H E f c' P' hr2) (fun _ q => q.1) (fun HZ s2 q ok => by
        obtain ⟨⟨t0, hu⟩, _, _⟩ := ok u _ q.2
        obtain ⟨kk, b1, b2⟩ := bd (X.env.qual ++ "<lambda>") (cloFrom X.env.cells scope.names []) u pm' (.ref c') ctv
        exact ⟨[.int n t0], .cons ⟨t0, rfl⟩ .nil, BindsTo.of_defaults (binds := [(y, .int n t0)]) rfl hu rfl b1 (b2 t0)⟩) rfl hNg hva hd hcd) ⟨hco, hu⟩ (h c' P' H1 eN T1 hco)
    exact ⟨t', ht'.nox, hq'⟩
  refine wpAny_call (codeAny_mono rc fun r s2 hq => ?_)
  cases r with
  | error e => exact (show False from hq).elim
  | ok fl =>
    cases fl with
    | ret u => exact I1.after hq
    | next => exact False.elim hq
    | brk => exact False.elim hq
    | cont => exact False.elim hq
end
def GivesT (X : Cx) (Ng : List Str) (x : Str) (sg : Scope) (g : Addr) (cdg : Value) (bg : List Stmt) (a : Str) (TT : V → (V → XK → Hp → VK → Prop) → Hp → VK → XK → Prop) : Prop :=
  ∀ (f : Addr) (s : Shared) (H : Hp) (Q : VK) (E : XK) (v : V) (tl : V → XK → Hp → VK → Prop) (F : Hp → Prop), (∀ H H', Same H H' → F H → F H') →
    (∀ (W : WX) (pn : List (Addr × Obj)) (xe : Value → Shared → Prop) (E' : XK) (p1 p2 : Pos) (e0 : Expr) (t0 : TE), Takes (zCx X (L2.CX X.prog X.w) E Ng x sg g cdg s H pn xe) W → (∀ cls d σ' H', E' cls d H' → W cls d σ' H') → PE (zCx X (L2.CX X.prog X.w) E Ng x sg g cdg s H pn xe) e0 t0 →
      (starEach [e0] (zCx X (L2.CX X.prog X.w) E Ng x sg g cdg s H pn xe).env = (false, eval e0 (zCx X (L2.CX X.prog X.w) E Ng x sg g cdg s H pn xe).env) :: starEach [] (zCx X (L2.CX X.prog X.w) E Ng x sg g cdg s H pn xe).env) →
      PE (zCx X (L2.CX X.prog X.w) E Ng x sg g cdg s H pn xe) (.Call (.Name a p1) [e0] [] p2) (fun σZ HZ Q => σZ[1]? = some (some (.ref f)) ∧ t0 σZ HZ fun y H1 => F H1 ∧ tl y E' H1 Q)) →
    F H → TT v tl H Q E → ∃ t, PSs (cxOf (L2.CX X.prog X.w) X.prog X.w X.K X.mg X.base Ng x sg g cdg X.A X.stack s H E) bg t ∧ t { nx := fun _ H' => Q .non H', rt := Q } (L2.start Ng [v, .ref f]) H
def tLamT (base : Heap) (mg : Str → Option Value) (cc tp : Addr) (T : List (Addr × Str)) (q : Str) (E : XK) (TT : V → (V → XK → Hp → VK → Prop) → Hp → VK → XK → Prop) (t0 : TE) (t : Addr → Addr → XK → TE) : TE := fun σ H Q => t0 σ H fun v H0 =>
  TabsN base mg T H0 ∧ OwnC base H0 cc tp ∧ ∀ (c' P' : Addr) (H1 : Hp), ExtN H0 H1 → TabsN base mg ((P', qIn q) :: T) H1 → H1 c' = some (CodeP c' q P') → TT v (fun y E' H' Q' => t c' P' E' (σ ++ [some y]) H' Q') H1 Q E
section
variable {X : Cx}
/-- x(e0, lambda p: e) -/
theorem pe_lamT {T : List (Addr × Str)} {TT : V → (V → XK → Hp → VK → Prop) → Hp → VK → XK → Prop} {x b a y : Str} {g c P : Addr} {k : Nat} {E : XK} {pg : Arguments} {bg : List Stmt} {sg : Scope} {dV kV doc pm cdv ct oc : Value} {an od : Option Addr} {osl : Array (Option Value)} {Ng : List Str}
    {params : Arguments} {e0 body : Expr} {scope : Scope} {t0 : TE} {t : Addr → Addr → XK → TE} {p lpos pos : Pos} (hg : Gl X x) (hm : X.mg x = some (.ref g)) (hk : PySem.W.keepIn X.K (.ref g) = true)
    (lk : X.K.lookup g = some ⟨oc, od, .func (PySem.W.fnOf x x pg bg sg dV kV doc pm an cdv ct), osl⟩) (hcg : PySem.W.codeIn X.K cdv x = true) (hb : L2.Binds X.K (PySem.W.fnOf x x pg bg sg dV kV doc pm an cdv ct) [b, a] []) (Sg : FnScope Ng [b, a] sg) (hNg : Ng[1]? = some a) (hva : Vis sg a)
    (hG : GivesT X Ng x sg g cdv bg a TT) (hcode : X.env.code = .ref c) (hmT : (P, X.env.qual ++ "<lambda>") ∈ T) (hr : Room (k + 2) X.A) (L : LaS (some y) X.env.scope scope) (np : y ∉ X.N) (hdef : defaultsOf params X.env = ([], [])) (hx : Passes (L2.CX X.prog X.w) X E)
    (hbind : ∀ (q : Str) (cl : List (Str × Addr)) (pm cv ctv u : Value), bindArgs (fnO q params body scope cl .none pm cv ctv) ⟨[u], []⟩ = pure [(y, u)]) (h0 : PE X e0 t0)
    (hbody : ∀ (A : Around) (outer : List Env) (s : Shared) (H : Hp) (E' : XK) (f c' P' : Addr), Room k (A.deeper (lamEnv X scope s.heap.objs.size f c')) → PE (laCx X (some y) A outer s H E' scope f c') body (t c' P' E'))
    (hst : starEach [e0, .Lambda params body scope lpos] X.env = (false, eval e0 X.env) :: starEach [.Lambda params body scope lpos] X.env := by rfl) (hdb : (x == ("__debug__" : Str)) = false := by decide) (hd : (a == ("__debug__" : Str)) = false := by decide) (hcd : (a == ("__classdict__" : Str)) = false := by decide) :
    PE X (.Call (.Name x p) [e0, .Lambda params body scope lpos] [] pos) (tLamT X.base X.mg c P T (X.env.qual ++ "<lambda>") E TT t0 t) := by
  refine ⟨fun pins s σ H Q I h => ?_⟩
  refine wpAny_Call_Name_kw (ld_glob I hg hm ?_ hdb)
  refine PySem.W.callWith_K (h₀ := X.base) I.ok.mod.kin hk ?_ hst (by rfl)
  rw [hst]
  show wpAny _ _ (spliced ((false, eval e0 X.env) :: (backTo pos (starEach [.Lambda params body scope lpos] X.env)))) _ _ s
  refine Calls.spliced_cons (thn (h0.run pins s σ H _ I h) fun u s0 ⟨v, H0, I0, rv, hT, own, h⟩ => ?_)
  refine Calls.spliced_cons (la_make I0 own hcode hT hmT hdef (L.has I0.ok) fun f c' P' pm' ctv H1 s' I1 eN T1 hf hfn hfr hco => ?_)
  refine Calls.spliced_nil ⟨I1.kIn, ?_⟩
  have rc : codeAny (model X.prog X.w) X.A (.call (.ref g) ⟨[u, .ref f], []⟩) (CR (L2.CX X.prog X.w) X.stack X.prog X.w H1 s' Q E) s' := by
    refine run_ofS (N := Ng) (ps := [b, a]) (us := [u, .ref f]) (vs := [v, .ref f]) lk hcg Sg hr I1.env0 (hb s' [u, .ref f] I1.kIn rfl) (.cons rv (.cons rfl .nil)) rfl fun hr' => ?_
    obtain ⟨t', ht', hq'⟩ := hG f s' H1 Q E v (fun y E' H' Q' => t c' P' E' (σ ++ [some y]) H' Q') (fun HZ => HZ c' = some (CodeP c' (X.env.qual ++ "<lambda>") P')) (fun _ _ st q => st _ _ q)
      (fun W pn xe E' p1 p2 e1 t1 tk hW h1 hst1 => pe_la1 (i := 1) I1 L (.of np) hf hfn hfr tk hW hr' (fun A outer s H hr2 => hbody A outer s H E' f c' P' hr2) (fun _ q => q) (fun _ => hbind _ _ _ _ _ _) h1 hNg hva hd hcd hst1) hco (h c' P' H1 eN T1 hco)
    exact ⟨t', ht', hq'⟩
  refine wpAny_call (codeAny_mono rc fun r s2 hq => ?_)
  cases r with
  | error e => exact hx _ _ _ _ _ _ I1 hq
  | ok fl =>
    cases fl with
    | ret u => exact I1.after hq
    | next => exact False.elim hq
    | brk => exact False.elim hq
    | cont => exact False.elim hq
end
end Fab
set_option maxHeartbeats 4000000
namespace Fab
open PySem PySem.Spec PyProof.Rows L2
def lineAlong (full l : List Value) (name : Str) : Sem (Option Value × List Value) := do
  for c in l do
    if let some x ← classOwn c name then return (some x, full)
  return (none, full)
theorem line_eq (v : Value) (name : Str) : specialOnItsLine v name = typeOf v >>= fun t => mroOf t >>= fun l => lineAlong l l name := rfl
theorem lineAlong_cons (full : List Value) (c : Value) (l : List Value) (name : Str) :
    lineAlong full (c :: l) name = classOwn c name >>= fun r => match r with | some v => pure (some v, full) | none => lineAlong full l name := by
  unfold lineAlong
  simp only [List.forIn_cons, bind_assoc]
  congr 1
  funext r
  cases r <;> simp
theorem looks_line {K : PySem.W.Frag} {M : Model} {h : Heap} (x : K.In h) {full : List Value} {name : Str} : ∀ {l : List Value} {r : Option Value}, PySem.W.alongIn K name l = some r → PySem.W.Looks M h (lineAlong full l name) (r, full)
  | [], r, e => by cases e; exact .of_pure rfl
  | c :: l, r, e => by
    intro A Q E s k q
    rw [lineAlong_cons]
    simp only [PySem.W.alongIn] at e
    split at e
    · rename_i v hv; cases e; exact wpAny_bind (PySem.W.looks_ownIn x hv A _ E s k (wpAny_pure q))
    · rename_i hv; exact wpAny_bind (PySem.W.looks_ownIn x hv A _ E s k (looks_line x e A Q E s k q))
    · cases e
theorem looks_spec {K : PySem.W.Frag} {M : Model} {h : Heap} {C : Addr} {name : Str} {r : Option Value} {v : Value} (x : K.In h) (e : PySem.W.findIn K (.ref C) name = some r) (L : PySem.W.Looks M h (typeOf v) (.ref C)) : ∃ line, PySem.W.Looks M h (specialOnItsLine v name) (r, line) := by
  simp only [PySem.W.findIn] at e
  split at e
  · rename_i c d cd sl ho
    refine ⟨cd.mro, fun A Q E s k q => ?_⟩
    rw [line_eq]
    exact wpAny_bind (L A _ E s k (wpAny_bind (wpAny_bind (wpAny_bind (wpAny_load (k _ _ (x _ _ ho)) (wpAny_pure (wpAny_pure (looks_line x e A Q E s k q))))))))
  · cases e
structure FnQ (P : Program) (w : World) (K : PySem.W.Frag) (mg : Str → Option Value) (base : Heap) (k : Nat) (f : Addr) (fd : FuncData) (ps : List Str) (sp : Sp) : Prop where
  len : ∀ vs H Q E, sp vs H Q E → vs.length = ps.length
  run : ∀ (A : Around) (outer : List Env) (s : Shared) (H : Hp) (args : Args) (us : List Value) (vs : List V) (Q : VK) (p : Addr × Obj), L2H.RoomH k A → L2H.PinOk outer H s p → Env0 P w K mg base A outer s H → BindsTo s fd args (ps.zip us) → Vals vs us → sp vs H Q C8.E0 →
    codeAny (model P w) A (.call (.ref f) args) (CR C8.CX0 outer P w H s Q C8.E0) s
theorem fn_ofQ {P : Program} {w : World} {K : PySem.W.Frag} {mg : Str → Option Value} {base : Heap} {k : Nat} {f : Addr} {name qual : Str} {params : Arguments} {body : List Stmt} {scope : Scope} {dV kV doc pm cdv ct oc : Value} {an od : Option Addr}
    {osl : Array (Option Value)} {N ps : List Str} {sp : Sp} (lk : K.lookup f = some ⟨oc, od, .func (PySem.W.fnOf name qual params body scope dV kV doc pm an cdv ct), osl⟩) (hcd : PySem.W.codeIn K cdv qual = true) (S : FnScope N ps scope)
    (len : ∀ vs H Q E, sp vs H Q E → vs.length = ps.length)
    (hbody : ∀ (A : Around) (outer : List Env) (s : Shared) (H : Hp) (vs : List V) (Q : VK) (p : Addr × Obj), sp vs H Q C8.E0 →
      ∃ t, PSs (L2H.cxH C8.CX0 P w K mg base N qual scope f cdv A outer s H C8.E0 p) body t ∧ t { nx := fun _ H' => Q .non H', rt := Q } (L2.start N vs) H) :
    FnQ P w K mg base (k + 1) f (PySem.W.fnOf name qual params body scope dV kV doc pm an cdv ct) ps sp := by
  refine ⟨len, fun A outer s H args us vs Q p hr hpin e0 hb r hsp => ?_⟩
  have hl := len _ _ _ _ hsp
  have KX : K.In s.heap := e0.mod.kin.keeps fun b o e => (e0.bs b o e).1
  have lim : s.heap.NoLimit := e0.mod.nolimit.keeps fun b o e => (e0.bs b o e).1
  refine codeAny_call_function hr.depth (KX _ _ lk) rfl S.co S.gen rfl (PySem.W.codeRec_of KX hcd) (hb _ _ _ _ ?_)
  refine wpAny_newFunctionEnv_cells S.kind (fun ⟨n, v⟩ hy => ?_) fun env he s1 x => ?_
  · rcases S.par n (List.of_mem_zip hy).1 with q | q
    · exact .inl q
    · exact .inr ⟨q, PySem.W.cellsFrom_some _ _ _ (.inl q)⟩
  subst he
  refine ⟨lim.keeps x.toInCall.keep, codeAny_func ?_⟩
  obtain ⟨t, ht, hq⟩ := hbody A outer s H vs Q p hsp
  have I : Inv (L2H.cxH C8.CX0 P w K mg base N qual scope f cdv A outer s H C8.E0 p) [] (L2.start N vs) H s1 := L2H.inv_startH S hpin e0 hl r x
  refine wpAny_mono (ht.run [] s1 (L2.start N vs) H _ I hq) (fun fl s' hs => ?_) fun e s' hs => hs
  have fin : ∀ {σ' : L2.St} {H' : Hp} {v : V} {u : Value}, Inv (L2H.cxH C8.CX0 P w K mg base N qual scope f cdv A outer s H C8.E0 p) [] σ' H' s' → RelV v u → Q v H' → CE outer P w H s Q u s' :=
    fun {σ' H' v u} J rv q => ⟨v, H', J.os, J.bare, J.base, J.hok, rv, q⟩
  cases fl with
  | ret u =>
    obtain ⟨v, σ', H', J, rv, q⟩ := hs
    exact fin J rv q
  | next =>
    obtain ⟨σ', H', J, q⟩ := hs
    exact fin (v := V.non) (u := Value.none) J rfl q
  | brk =>
    obtain ⟨_, _, _, q⟩ := hs
    exact False.elim q
  | cont =>
    obtain ⟨_, _, _, q⟩ := hs
    exact False.elim q
theorem Fun.okQ {P : Program} {w : World} {K : PySem.W.Frag} {mg : Str → Option Value} {base : Heap} {x qual : Str} {st : Stmt} {f : Addr} {fd : FuncData} {N ps : List Str} {k : Nat} {sp : Sp} (F : L2.Fun K x qual st f fd) (S : FnScope N ps (defScope st)) (len : ∀ vs H Q E, sp vs H Q E → vs.length = ps.length)
    (hbody : ∀ (cdv : Value) (A : Around) (outer : List Env) (s : Shared) (H : Hp) (vs : List V) (Q : VK) (p : Addr × Obj), sp vs H Q C8.E0 →
      ∃ t, PSs (L2H.cxH C8.CX0 P w K mg base N qual (defScope st) f cdv A outer s H C8.E0 p).nox (defBody st) t ∧ t { nx := fun _ H' => Q .non H', rt := Q } (L2.start N vs) H) : FnQ P w K mg base (k + 1) f fd ps sp := by
  obtain ⟨oc, od, kV, doc, pm, an, cdv, ct, osl, rfl, lk, hcd⟩ := F.ex
  refine fn_ofQ lk hcd S len fun A outer s H vs Q p hsp => ?_
  obtain ⟨t, h, q⟩ := hbody cdv A outer s H vs Q p hsp
  exact ⟨t, h.nox, q⟩
/-- what is wished of an exception of the body: the way out is taken, then Wout -/
def wWith (spX : Sp) (t : Addr) (Wout : WX) : WX := fun cls d σ H => ∃ vc, RelV vc cls ∧ ∀ (a : Addr) (vt : V), spX [.ref t, vc, .ref a, vt] H (fun z H5 => z = .non ∧ Wout cls d σ H5) C8.E0
def tWith (CT : Addr) (spE spX : Sp) (tc : TE) (tg : TG) (teb : WX → TE) (Wout : WX) : TS := fun D σ H => tc σ H fun x H1 => ∃ (t dx : Addr) (fs : List (Str × V)), x = .ref t ∧ H1 t = some (.ins CT dx fs) ∧
  spE [.ref t] H1 (fun v H2 => tg v σ H2 fun σ3 H3 => teb (wWith spX t Wout) σ3 H3 fun r H4 => spX [.ref t, .non, .non, .non] H4 (fun _ H5 => D.rt r H5) C8.E0) C8.E0
theorem wp_holdSt {α : Type} {M : Model} {A : Around} {E : Value → Shared → Prop} {s : Shared} {vs : List Value} {m : Sem α} {Q : α → Shared → Prop} (h : wpAny M A m Q E s) : wpAny M A (holdingForTheStatement vs m) Q E s := fun Γ p hΓ => by
  unfold holdingForTheStatement
  split
  · exact h Γ p hΓ
  · rw [Sem.wp_keep]
    exact h Γ p hΓ
section
variable {X : Cx} {ctx tgt e : Expr} {rp pos : Pos} {tc : TE} {tg : TG} {teb : WX → TE} {Wout : WX} {CT fE fX t : Addr} {fdE fdX : FuncData} {spE spX : Sp} {k : Nat}
/-- behind the exception's note: the way out, and on it goes -/
def RestW (X : Cx) (pins : List (Addr × Obj)) (D : Ends) (t fX : Addr) (e : Value) (s : Shared) : Prop := e ≠ byPass ∧ wpAny (model X.prog X.w) X.A (typeOf e) (fun ty s4 => wpAny (model X.prog X.w) X.A (tracebackOf e) (fun tb s5 =>
  codeAny (model X.prog X.w) (X.A.mark (some e)) (.call (.ref fX) ⟨[.ref t, ty, e, tb], []⟩) (fun r s6 => match r with | .ok (.ret .none) => wpAny (model X.prog X.w) X.A (PySem.passOn (α := Flow) "with" e X.env) (SP X pins D) X.xe s6 | _ => False) s5) X.xe s4) X.xe s
def xeW (X : Cx) (pins : List (Addr × Obj)) (D : Ends) (t fX : Addr) : Value → Shared → Prop := fun e s₁ => wpAny (model X.prog X.w) X.A (noteFrame e X.env) (fun _ s₂ => wpAny (model X.prog X.w) X.A (setFlight e none) (fun _ s₃ => RestW X pins D t fX e s₃) X.xe s₂) X.xe s₁
theorem with_exc {pins : List (Addr × Obj)} {D : Ends} {u : Value} {s' : Shared} (hs : X.stack = X.env :: X.outer) (hf : X.env.frame = some X.env.locals) (hex : X.ex = []) (ok : X.Ok) (tk : Takes X Wout) (FQ : FnQ X.prog X.w X.K X.mg X.base k fX fdX ["self", "kind", "value", "trace"] spX) (bX : L2.Binds X.K fdX ["self", "kind", "value", "trace"] []) (hr : Room k X.A)
    (xx : XE (X.tr (X.pn ++ pins) (xeW X pins D t fX)) (wWith spX t Wout) u s') : xeW X pins D t fX u s' := by
  have hfr : X.A.frames = some (X.env :: X.outer) := by rw [ok.frames, hs]
  obtain ⟨a, B, sI, pins', σ', H', cls, d, rfl, J', nb, up, sky, na, os, ag, vc, rvc, hw⟩ := xx
  have J : Inv X pins σ' H' sI := J'.ofTry ok
  have sky' : Sky B (X.env :: X.outer) a (Zc cls d) X.env.locals s'.heap := by rw [← hs]; exact sky
  show wpAny (model X.prog X.w) X.A (noteFrame (.ref a) X.env) _ _ _
  refine Sky.land Zc.steady hfr hf sky' fun h3 fl3 up3 => ?_
  have J3 : Inv X pins σ' H' { s' with heap := h3 } := J.landed nb fl3.1 (up.trans up3) os ag
  obtain ⟨k1, k2, k3, oe, vs, T, oT, ts, he3, hz, hd, hv1, hnT, hTe, hT, hdT, ht3⟩ := id fl3
  have nT : H' T = none := (J.inGround nb).gone hnT
  have notFr : ∀ (b : Addr) (o : Obj) (fv : Array Value), h3.get? b = some o → o.data = .fields fv → b ∉ frs (X.env :: X.outer) := fun b o fv e dd hm => by
    obtain ⟨_, o', e', hnf⟩ := k3.mem hm
    have eo : o = o' := Option.some.inj (e.symm.trans e')
    rw [← eo] at hnf
    exact hnf _ dd
  have fa := notFr a oe vs he3 hd
  have fT := notFr T oT ts hT hdT
  have faS : a ∉ frs X.stack := by rw [hs]; exact fa
  have fTS : T ∉ frs X.stack := by rw [hs]; exact fT
  -- the way out
  have out : ∀ (vt : V) (ut : Value), RelV vt ut → codeAny (model X.prog X.w) (X.A.mark (some (.ref a))) (.call (.ref fX) ⟨[.ref t, cls, .ref a, ut], []⟩) (fun r s6 => match r with | .ok (.ret .none) => wpAny (model X.prog X.w) X.A (PySem.passOn (α := Flow) "with" (.ref a) X.env) (SP X pins D) X.xe s6 | _ => False) { s' with heap := h3 } := fun vt ut rt => by
    have e0 := J3.env0
    have b := bX { s' with heap := h3 } [.ref t, cls, .ref a, ut] J3.kIn rfl
    rw [List.append_nil] at b
    refine codeAny_mono (FQ.run (X.A.mark (some (.ref a))) X.stack { s' with heap := h3 } H' ⟨[.ref t, cls, .ref a, ut], []⟩ [.ref t, cls, .ref a, ut] [.ref t, vc, .ref a, vt] _ (a, oe) ⟨hr.dp, hr.un⟩ ⟨he3, na, faS, fun v z => by
      have z' : oe.data = .cell v := z
      rw [hd] at z'
      cases z'⟩ ⟨e0.frames, e0.mod, e0.bs, e0.bsz, e0.funs, e0.frf, e0.hok, e0.bare⟩ b (.cons rfl (.cons rvc (.cons rfl (.cons rt .nil)))) (hw a vt)) fun r s6 hq => ?_
    match r, hq with
    | .error er, hq => exact (show False from hq).elim
    | .ok .next, hq => exact (show False from hq).elim
    | .ok .brk, hq => exact (show False from hq).elim
    | .ok .cont, hq => exact (show False from hq).elim
    | .ok (.ret u6), hq =>
      have hq' : CE X.stack X.prog X.w H' { s' with heap := h3 } _ u6 s6 := hq
      obtain ⟨v6, H6, o6, b6, un6, ok6, r6, e6, q6⟩ := hq'
      subst e6
      obtain rfl : u6 = Value.none := r6
      have J6 : Inv X pins σ' H6 s6 := J3.call' o6 un6 ok6 b6 (fun _ z => nomatch z)
      have ga : s6.heap.get? a = some oe := un6.keep a oe he3 na faS (by simp)
      have gT : s6.heap.get? T = some oT := un6.keep T oT hT nT fTS (by simp)
      have na6 : H6 a = none := un6.free a oe he3 na (by simp)
      have nT6 : H6 T = none := un6.free T oT hT nT (by simp)
      show wpAny (model X.prog X.w) X.A (PySem.passOn (α := Flow) "with" (.ref a) X.env) (SP X pins D) X.xe s6
      have far : ∀ b o, sI.heap.get? b = some o → b ≠ a ∧ b ≠ T := fun b o e => by
        by_cases hb : b ∈ frs X.stack
        · exact ⟨fun z => faS (by rw [← z]; exact hb), fun z => fTS (by rw [← z]; exact hb)⟩
        · have q := nb b o e hb
          exact ⟨fun z => by
            rw [z, k2] at q
            exact (nomatch q), fun z => by
            rw [z, hnT] at q
            cases q⟩
      have far0 : ∀ b o, X.s_0.heap.get? b = some o → b ≠ a ∧ b ≠ T := fun b o e => by
        obtain ⟨o', q⟩ := J.base.there b o e (by rw [hex]; simp)
        exact far b o' q
      have farP : ∀ p ∈ X.pn ++ pins, p.1 ≠ a ∧ p.1 ≠ T := fun p hp => far p.1 p.2 (J.pin p hp).1
      obtain ⟨G, g1, g2⟩ := restrict s6.heap fun b => !(decide (b = a) || decide (b = T))
      have gIn : ∀ b o, G.get? b = some o → s6.heap.get? b = some o ∧ b ≠ a ∧ b ≠ T := fun b o e => by
        cases q : (!(decide (b = a) || decide (b = T))) with
        | false =>
          rw [g2 b q] at e
          cases e
        | true =>
          rw [g1 b q] at e
          simp only [Bool.not_eq_true', Bool.or_eq_false_iff, decide_eq_false_iff_not] at q
          exact ⟨e, q.1, q.2⟩
      have gOf : ∀ b o, b ≠ a → b ≠ T → s6.heap.get? b = some o → G.get? b = some o := fun b o h1 h2 e => by
        rw [g1 b (by simp [h1, h2])]
        exact e
      have I6 : Inv X pins σ' H6 { s6 with heap := G } := J6.less (fun b o e => (gIn b o e).1) gOf ⟨oe, vs, ga, hd⟩ ⟨oT, ts, gT, hdT⟩ na6 nT6 far0 farP
      have B6in : ∀ b o, (PySem.W.hideAll G (frs X.stack)).get? b = some o → s6.heap.get? b = some o := fun b o e => (gIn b o (PySem.W.of_hideAll _ e)).1
      have Bno : ∀ b, (b = a ∨ b = T) → (PySem.W.hideAll G (frs X.stack)).get? b = none := fun b hb => by
        cases q : (PySem.W.hideAll G (frs X.stack)).get? b with
        | none => rfl
        | some o =>
          obtain ⟨_, n1, n2⟩ := gIn b o (PySem.W.of_hideAll _ q)
          rcases hb with z | z
          · exact absurd z n1
          · exact absurd z n2
      have fl6 : HandSPX.FlyingZ (PySem.W.hideAll G (frs X.stack)) (X.env :: X.outer) a (Zc cls d) s6.heap := by
        refine ⟨B6in, Bno a (.inl rfl), ?_, oe, vs, T, oT, ts, ga, hz, hd, hv1, Bno T (.inr rfl), hTe, gT, hdT, ht3⟩
        have ff := funFrames_none (B := PySem.W.hideAll G (frs X.stack)) J6.stack fun b hb => PySem.W.hideAll_none _ hb
        rw [← hs]
        exact ff
      unfold PySem.passOn
      refine wpAny_bind (wpAny_field ga hd hv1 ?_)
      rw [if_neg (show ¬ ((Value.ref T == Value.none) = true) from by simp)]
      have goOn : wpAny (model X.prog X.w) X.A (setFlight (.ref a) X.env.frame) (fun _ s7 => wpAny (model X.prog X.w) X.A (throw (.ref a) : Sem Flow) (SP X pins D) X.xe s7) X.xe s6 := by
        rw [hf]
        refine HandSPX.setFlight_upZ fl6 fun h7 hh7 up7 => wpAny_throw (tk _ _ ?_)
        refine ⟨a, PySem.W.hideAll G (frs X.stack), { s6 with heap := G }, pins, σ', H6, cls, d, rfl, I6, fun b o e hb => PySem.W.hideAll_get _ e hb, ?_, .inr (.inr (by rw [← hs] at hh7; exact hh7)), na6, rfl, J6.bare, q6⟩
        exact Heap.UpToSlots.trans (Heap.UpToSlots.of_keeps fun b o e => (gIn b o e).1) up7
      first
        | exact wpAny_bind (wpAny_pure (wpAny_bind goOn))
        | exact wpAny_bind goOn
  refine ⟨ref_ne_byPass a, wpAny_typeOf_ref he3 ?_⟩
  rw [hz.1]
  unfold tracebackOf
  refine wpAny_bind (wpAny_field he3 hd hv1 ?_)
  obtain ⟨x, hx⟩ : ∃ x, ts[1]? = some x := ⟨_, Array.getElem?_eq_getElem (by have := (Array.getElem?_eq_some_iff.mp ht3).1; omega)⟩
  show wpAny _ _ (field (.ref T) 1 >>= _) _ _ _
  refine wpAny_bind (wpAny_field hT hdT hx ?_)
  cases hxn : (x == Value.none) with
  | true =>
    rw [if_pos rfl]
    exact wpAny_pure (out .non .none rfl)
  | false =>
    rw [if_neg (by decide)]
    first
    | exact wpAny_pure (out (.ref T) (.ref T) rfl)
    | exact wpAny_bind (wpAny_pure (wpAny_pure (out (.ref T) (.ref T) rfl)))
theorem ps_withRet (hs : X.stack = X.env :: X.outer) (hf : X.env.frame = some X.env.locals) (hex : X.ex = []) (tk : Takes X Wout) (hc : PE X ctx tc) (mE : Meth X.K CT "__enter__" fE) (mX : Meth X.K CT "__exit__" fX)
    (FE : FnOk X.prog X.w X.K X.mg X.base C8.CX0 k fE fdE ["self"] spE) (bE : L2.Binds X.K fdE ["self"] []) (FX : FnOk X.prog X.w X.K X.mg X.base C8.CX0 k fX fdX ["self", "kind", "value", "trace"] spX) (FQ : FnQ X.prog X.w X.K X.mg X.base k fX fdX ["self", "kind", "value", "trace"] spX) (bX : L2.Binds X.K fdX ["self", "kind", "value", "trace"] []) (hr : Room k X.A)
    (hg : ∀ (pn : List (Addr × Obj)) (xe : Value → Shared → Prop), PG (X.tr pn xe) tgt tg) (he : ∀ (W : WX) (pn : List (Addr × Obj)) (xe : Value → Shared → Prop), Takes (X.tr pn xe) W → PassesOwn (model X.prog X.w) X.A X.env xe → PE (X.tr pn xe) e (teb W)) :
    PS X (.With [⟨ctx, some tgt⟩] [.Return (some e) rp] pos) (tWith CT spE spX tc tg teb Wout) := by
  refine ⟨fun pins s σ H D I h => ?_⟩
  have ok := I.ok
  rw [arm_exec_With]
  refine wpAny_bind (wpAny_standAt ?_)
  show wpAny _ _ (withItem false ctx.pos X.env (eval ctx X.env) (some (assign tgt X.env)) (execs [.Return (some e) rp] X.env)) _ _ s
  unfold withItem
  simp only [Bool.false_eq_true, if_false]
  refine wpAny_bind (thn (hc.run pins s σ H _ I h) fun u s1 ⟨x, H1, I1, rx, t, dx, fs, ex, ea, q1⟩ => ?_)
  subst ex
  obtain rfl : u = Value.ref t := rx
  obtain ⟨mA, O, _⟩ := ins_get I1.hok ea
  obtain ⟨od, J, _⟩ := O.look
  obtain ⟨l1, L1⟩ := looks_spec (M := model X.prog X.w) I1.kIn mE.at_ J.type
  obtain ⟨l2, L2⟩ := looks_spec (M := model X.prog X.w) I1.kIn mX.at_ J.type
  refine wpAny_bind (wpAny_standAt (wpAny_bind (wpAny_holding (wpAny_bind (L1.here ?_)))))
  show wpAny _ _ ((pure () : Sem Unit) >>= _) _ _ s1
  refine wpAny_bind (wpAny_pure ?_)
  refine wpAny_bind ((PySem.W.bind_fn I1.kIn _ (beq_iff_eq.mp mE.fn)).here (wpAny_holding (wpAny_bind (L2.here ?_))))
  show wpAny _ _ ((pure () : Sem Unit) >>= _) _ _ s1
  refine wpAny_bind (wpAny_pure ?_)
  refine wpAny_bind ((PySem.W.bind_fn I1.kIn _ (beq_iff_eq.mp mX.fn)).here (wpAny_pure ?_))
  refine wpAny_holding (wpAny_bind (thn (run_fn (us := [.ref t]) (vs := [.ref t]) FE hr bE .nil pass0 I1 (.cons rfl .nil) q1) fun u2 s2 ⟨v, H2, I2, r2, q2⟩ => ?_))
  refine wpAny_bind (wpAny_pure ?_)
  refine wpAny_bind (wpAny_attempt (wp_holdSt ?_))
  refine wpAny_mono (Q := fun f s' => ∃ u4 v4 σ4 H4, f = Flow.ret u4 ∧ Inv X pins σ4 H4 s' ∧ RelV v4 u4 ∧ spX [.ref t, .non, .non, .non] H4 (fun _ H5 => D.rt v4 H5) C8.E0) (E := xeW X pins D t fX) ?_ (fun f s4 ⟨u4, v4, σ4, H4, ef, I4, r4, q4⟩ => ?_) (fun e s4 he => ?_)
  · have tkW : Takes (X.tr (X.pn ++ pins) (xeW X pins D t fX)) (wWith spX t Wout) := fun u s' xx => with_exc hs hf hex ok tk FQ bX hr xx
    refine wpAny_bind (thn ((hg (X.pn ++ pins) (xeW X pins D t fX)).run [] s2 σ H2 v u2 _ (I2.toTry _) r2 q2) fun _ s3 ⟨σ3, H3, I3, q3⟩ => ?_)
    refine wpAny_execs_cons (wpAny_Return_some (thn ((he (wWith spX t Wout) (X.pn ++ pins) (xeW X pins D t fX) tkW PassesOwn.looking).run [] s3 σ3 H3 _ I3 q3) fun u4 s4 ⟨v4, H4, I4, r4, q4⟩ => ?_))
    exact ⟨u4, v4, σ3, H4, rfl, I4.ofTry ok, r4, q4⟩
  · subst ef
    refine wpAny_bind (wpAny_standAt (wpAny_bind (wpAny_holding (thn (run_fn (us := [.ref t, .none, .none, .none]) (vs := [.ref t, .non, .non, .non]) FX hr bX .nil pass0 I4 (.cons rfl (.cons rfl (.cons rfl (.cons rfl .nil)))) q4) fun u5 s5 ⟨v5, H5, I5, r5, q5⟩ => wpAny_pure ?_))))
    exact ⟨v4, σ4, H5, I5, r4, q5⟩
  · have he' : wpAny (model X.prog X.w) X.A (noteFrame e X.env) (fun _ s₂ => wpAny (model X.prog X.w) X.A (setFlight e none) (fun _ s₃ => RestW X pins D t fX e s₃) X.xe s₂) X.xe s4 := he
    refine wpAny_bind (wpAny_mono he' (fun _ s5 h5 => wpAny_bind (wpAny_mono h5 (fun _ s6 h6 => ?_) fun _ _ z => z)) fun _ _ z => z)
    obtain ⟨nby, h6⟩ := h6
    refine wpAny_bind (wpAny_standAt (wpAny_holding (wpAny_bind (wpAny_mono h6 (fun ty s7 h7 => ?_) fun _ _ z => z))))
    refine wpAny_bind (wpAny_mono h7 (fun tb s8 h8 => ?_) fun _ _ z => z)
    unfold withItem.marked
    refine wpAny_bind (wpAny_bind (wpAny_run (codeAny_mono h8 fun r s9 h9 => ?_) (by intro z; exact nby (Option.some.inj z))))
    match r, h9 with
    | .ok (.ret .none), h9 =>
      refine wpAny_pure ?_
      refine wpAny_bind (wpAny_pure ?_)
      exact wpAny_bind (wpAny_pure h9)
end
end Fab
set_option maxHeartbeats 2000000
namespace Fab
open PySem L2 PySem.FabX
theorem Same.tr2 {H H1 H2 : Hp} (a : Same H H1) (b : Same H1 H2) : Same H H2 := fun x o h => b _ _ (a _ _ h)
/-- tables by their names -/
abbrev TbL := List (Addr × Str)
/-- the tables of the text: its heap, its names, the tables by their names -/
structure TbN where
  base : Heap
  mg : Str → Option Value
  T : List (Addr × Str)
def TabsZ (Tb : TbN) (H : Hp) : Prop := TabsN Tb.base Tb.mg Tb.T H
theorem TabsZ.ext {Tb : TbN} {H H' : Hp} (t : TabsZ Tb H) (e : ∀ b o, H b = some o → H' b = some o) : TabsZ Tb H' := TabsN.ext t e
theorem TabsZ.but {Tb : TbN} {H H' : Hp} (t : TabsZ Tb H) (e : ∀ b o, H b = some o → (∀ ps, o = .tbl ps → H' b = some o) ∧ (∀ c q P, o = CodeP c q P → H' b = some o)) : TabsZ Tb H' := by
  obtain ⟨N, h1, h2⟩ := t
  exact ⟨N, h1, h2.ext e⟩
theorem tabsZ_of {H H' : Hp} {Tb : TbN} (hT : TabsZ Tb H) (m g : Addr) (hm : ∃ c n, H m = some (dm c g n)) (hg : ∃ gs : List Int, H g = some (.lst (gs.map V.int))) (h : ∀ b o, H b = some o → b ≠ m → b ≠ g → H' b = some o) : TabsZ Tb H' := by
  obtain ⟨c, n, h1⟩ := hm
  obtain ⟨gs, h2⟩ := hg
  refine hT.but fun b o hb => ⟨fun ps e => ?_, fun c q P e => ?_⟩
  · subst e
    exact h _ _ hb (fun z => by rw [z, h1] at hb; unfold dm at hb; cases hb) (fun z => by rw [z, h2] at hb; cases hb)
  · subst e
    exact h _ _ hb (fun z => by rw [z, h1] at hb; unfold dm CodeP at hb; cases hb) (fun z => by rw [z, h2] at hb; unfold CodeP at hb; cases hb)
theorem tabs_put {H : Hp} {Tb : TbN} {s : Addr} {xs ys : List V} (hT : TabsZ Tb H) (hs : H s = some (.lst xs)) : TabsZ Tb (upd H s (.lst ys)) := hT.but fun b o hb => ⟨fun ps e => by
    subst e
    rw [upd_ne (fun z => by rw [z, hs] at hb; cases hb)]
    exact hb, fun c q P e => by
    subst e
    rw [upd_ne (fun z => by rw [z, hs] at hb; unfold CodeP at hb; cases hb)]
    exact hb⟩
end Fab
set_option maxHeartbeats 4000000
namespace Fab
open PySem L2 PySem.Spec PyProof.Rows
section
variable {prog : Program} {w : World} {A : Around} {E : Value → Shared → Prop} {s : Shared}
theorem adjust_rev (n : Nat) : Builtin.Slice.sliceAdjust none none (-1) (n : Int) = ((n : Int) - 1, -1) := by
  unfold Builtin.Slice.sliceAdjust
  simp
theorem places_rev (n : Nat) : Builtin.Slice.slicePlaces ((n : Int) - 1) (-1) (-1) = n := by
  unfold Builtin.Slice.slicePlaces
  simp
  all_goals omega
theorem pick_rev (xs : Array Value) : ((List.range xs.size).filterMap fun (m : Nat) => xs[(((xs.size : Nat) : Int) - 1 + (m : Int) * (-1)).toNat]?).toArray = xs.toList.reverse.toArray := by
  congr 1
  have e : ∀ k, k ≤ xs.size → ((List.range k).filterMap fun (m : Nat) => xs[(((xs.size : Nat) : Int) - 1 + (m : Int) * (-1)).toNat]?) = xs.toList.reverse.take k := by
    intro k
    induction k with
    | zero => intro _; simp
    | succ k ih =>
      intro hk
      rw [List.range_succ, List.filterMap_append, ih (by omega), List.take_succ]
      congr 1
      have h1 : (((xs.size : Nat) : Int) - 1 + (k : Int) * (-1)).toNat = xs.size - 1 - k := by omega
      have h2 : xs.toList.reverse[k]? = some xs[xs.size - 1 - k] := by
        rw [List.getElem?_reverse (by simp; omega)]
        simp
      simp only [List.filterMap_cons, List.filterMap_nil, h1, h2, Array.getElem?_eq_getElem (by omega : xs.size - 1 - k < xs.size)]
      rfl
  rw [e _ (Nat.le_refl _)]
  exact List.take_of_length_le (by simp)
theorem sliceApplied_rev {sl : Addr} {t : Tok} {n : Nat} {Q : Int × Int × Nat → Shared → Prop} (hs : s.heap.IsSliceOf sl .none .none (.int (-1) t)) (h : Q ((n : Int) - 1, -1, n) s) : wpAny (model prog w) A (Builtin.Slice.sliceApplied (.ref sl) (pure (n : Int))) Q E s := by
  obtain ⟨os, hos, hcs, hds⟩ := id hs
  unfold Builtin.Slice.sliceApplied Builtin.Slice.sliceFields
  refine wpAny_bind (wpAny_bind (wpAny_field hos hds (x := .none) rfl (wpAny_bind (wpAny_field hos hds (x := .none) rfl (wpAny_bind (wpAny_field hos hds (x := .int (-1) t) rfl (wpAny_pure ?_)))))))
  refine wpAny_bind (HT.slicePart_ (.int (-1) t) ?_)
  show wpAny _ _ (if ((-1 : Int) == 0) = true then _ else _) _ _ s
  rw [if_neg (by decide)]
  refine wpAny_bind (HT.slicePart_ .none (wpAny_bind (HT.slicePart_ .none (wpAny_bind (wpAny_pure ?_)))))
  show wpAny _ _ (match Builtin.Slice.sliceAdjust none none (-1) (n : Int) with | (lo, hi) => pure (lo, (-1 : Int), Builtin.Slice.slicePlaces lo hi (-1))) _ _ s
  rw [adjust_rev n]
  show wpAny _ _ (pure ((n : Int) - 1, (-1 : Int), Builtin.Slice.slicePlaces ((n : Int) - 1) (-1) (-1))) _ _ s
  rw [places_rev]
  exact wpAny_pure h
theorem getItem_tuple_rev {t sl : Addr} {items : Array Value} {tk : Tok} {Q : Value → Shared → Prop} (ht : IsTup s.heap t items) (hs : s.heap.IsSliceOf sl .none .none (.int (-1) tk))
    (h : Q (.ref s.heap.objs.size) { s with heap := s.heap.push { cls := .type "tuple", data := .seq items.toList.reverse.toArray } }) (hsz : items.size ≤ sizeLine) : wpAny (model prog w) A (getItem (.ref t) (.ref sl)) Q E s := by
  have htake : sizeOk (.seq items.toList.reverse.toArray) := by
    show items.toList.reverse.toArray.size ≤ sizeLine
    rw [List.size_toArray, List.length_reverse, Array.length_toList]
    exact hsz
  obtain ⟨os, hos, hcs, hds⟩ := id hs
  have hTs : s.TypeIs (.ref sl) "slice" := ⟨os, hos, hcs⟩
  unfold getItem
  try with_reducible refine wpAny_holding ?_
  first | refine wpAny_bind (wpAny_pure ?_) | skip
  refine wpAny_bind (wpAny_sequenceKey ht.typeIs (by decide) ?_)
  refine wpAny_bind (wpAny_callSpecial?_slot (name := Str.ofString "__getitem__") ht.typeIs PyProof.Rows.slot_tuple_getitem
    (wpAny_call_entry PyProof.Rows.slot_tuple_getitem ht.typeIs entry_tuple_getitem ?_ (args_tuple_getitem _ _)))
  show wpAny _ _ (Builtin.Tuple.tupleItemsOf (.ref t) >>= _) _ _ s
  refine wpAny_bind (PyProof.Rows.tupleItemsOf_ ht ?_)
  refine wpAny_bind (wpAny_typeOf hTs ?_)
  rw [if_pos (by decide)]
  refine wpAny_bind (sliceApplied_rev (n := items.size) hs ?_)
  show wpAny _ _ (if (((items.size : Nat) : Int) - 1 == 0 && (-1 : Int) == 1 && items.size == items.size) = true then _ else _) _ _ s
  rw [if_neg (by simp), pick_rev]
  first
    | exact wpAny_bind (m := Builtin.Tuple.tupleExact _) (wpAny_newObj_type (wpAny_pure ⟨_, rfl, wpAny_pure h⟩) htake)
    | exact wpAny_bind (m := Builtin.Tuple.tupleExact _) (wpAny_newObj_type (wpAny_bind (wpAny_pure (wpAny_pure ⟨_, rfl, wpAny_pure h⟩))) htake)
    | exact wpAny_bind (wpAny_bind (m := Builtin.Tuple.tupleExact _) (wpAny_newObj_type (wpAny_pure (wpAny_pure ⟨_, rfl, wpAny_pure h⟩)) htake))
    | exact wpAny_bind (wpAny_bind (m := Builtin.Tuple.tupleExact _) (wpAny_newObj_type (wpAny_pure ⟨_, rfl, wpAny_pure h⟩) htake))
end
section
variable {X : Cx}
def tRevTF (te : TE) : TE := fun σ H Q => te σ H fun x H1 => ∃ a, x = .ref a ∧ ∃ xs, H1 a = some (.tup xs) ∧ newTup H1 xs.reverse fun p H' => Q (.ref p) H'
theorem pe_revTF {e : Expr} {te : TE} {k : Nat} {p1 p2 p3 pos : Pos} (he : PE X e te) : PE X (.Subscript e (.Slice none none (some (.UnaryOp .USub (.Constant (.int 1) k p1) p2)) p3) pos) (tRevTF te) := by
  refine ⟨fun pins s σ H Q I h => ?_⟩
  refine Subscript_ (thn (he.run pins s σ H _ I h) fun v s1 ⟨x, H1, I1, r1, q1⟩ => ?_)
  obtain ⟨a, ex, xs, hx, q⟩ := q1
  subst ex
  cases r1
  have hst : PO X (some (.UnaryOp .USub (.Constant (.int 1) k p1) p2)) (tPart (tUn (rU fun i => .int (-i)) (tC (.int 1)))) := po_some (pe_un un_neg pe_int)
  refine wpAny_Slice (thn (po_none.run pins s1 σ H1 (fun o H2 => o = none ∧ H2 = H1) I1 ⟨rfl, rfl⟩) fun vl s2 ⟨l, H2, I2, pl, el, e2⟩ => ?_)
  subst el e2
  refine thn (po_none.run pins s2 σ H2 (fun o H3 => o = none ∧ H3 = H2) I2 ⟨rfl, rfl⟩) fun vu s3 ⟨u, H3, I3, pu, eu, e3⟩ => ?_
  subst eu e3
  refine thn (hst.run pins s3 σ H3 (fun o H4 => o = some (-1) ∧ H4 = H3) I3 ⟨1, rfl, -1, rfl, rfl, rfl⟩) fun vs s4 ⟨o, H4, I4, ps, eo, e4⟩ => ?_
  subst eo e4
  have I5 : Inv X pins σ H4 { s4 with heap := s4.heap.push { cls := .type "slice", data := .fields #[vl, vu, vs] } } := I4.kept (t' := s4.toks) fun b ob q => Heap.get?_push_of_some _ q
  obtain ⟨its, r, ht, hz⟩ := I5.tuple (SqT.of hx)
  have hlen := r.length
  cases pl
  cases pu
  cases ps with
  | int i t =>
    show wpAny (model X.prog X.w) X.A (subscriptTail e (.Slice none none (some (.UnaryOp .USub (.Constant (.int 1) k p1) p2)) p3) (.ref a) (.ref s4.heap.objs.size)) (EP X pins σ Q) X.xe { s4 with heap := s4.heap.push { cls := .type "slice", data := .fields #[.none, .none, .int (-1) t] } }
    refine tail_any (ops := [.ref a, .ref s4.heap.objs.size]) ht.typeIs (PyProof.Rows.slot_tuple_getitem.lookup) ?_ (by with_unfolding_all rfl)
    refine getItem_tuple_rev ht (Heap.IsSliceOf.new _ .none .none (.int (-1) t)) ?_ (by rw [List.size_toArray]; omega)
    refine ⟨.ref _, _, I5.laid (t' := s4.toks) (o := .tup xs.reverse) (fun b ob q => Heap.get?_push_of_some _ q) (Nat.le_refl _) ?_, rfl, q.mk _ (I5.hok.fresh (Nat.le_refl _))⟩
    exact ⟨by rw [List.length_reverse]; exact hz, _, r.reverse, by
      have := IsTup.new (s4.heap.push { cls := .type "slice", data := .fields #[.none, .none, .int (-1) t] }) its.reverse.toArray
      simpa using this⟩
end
end Fab
set_option maxHeartbeats 4000000
namespace Fab
open PySem L2
open PyProof.Rows (envOfC)
section
variable {X : Cx}
/-- x is told by repr as d is -/
inductive Rp (K : PySem.W.Frag) (H : Hp) : V → PyData → Prop
  | dp {x : V} {d : PyData} (h : Dp K H x d) (hs : d.showable = true) (hn : d.hasDict = false) (hd : d.depth ≤ 60) (hz : d.shown.length ≤ sizeLine) : Rp K H x d
  | nd {p : Addr} (h : H p = some (.dK [])) : Rp K H (.ref p) (.dict [])
  | wd {t p : Addr} {w : Str} (h : H t = some (.tup [.str w, .ref p])) (hp : H p = some (.dK [])) (hz : (PyData.tuple [.str w, .dict []]).shown.length ≤ sizeLine) : Rp K H (.ref t) (.tuple [.str w, .dict []])
theorem dk0_reads {pins : List (Addr × Obj)} {σ : St} {H : Hp} {s : Shared} {p : Addr} (I : Inv X pins σ H s) (h : H p = some (.dK [])) : (p == sysModules) = false ∧ Reads s.heap (.ref p) (.dict []) [p] := by
  have q : ObjOk X.prog X.w H s.heap p (.dK []) := I.hok p _ h
  obtain ⟨_, hsys, vs, hv, o, es, ep, ho, hx, hd, _, he, _⟩ := q
  cases hv
  refine ⟨hsys, ?_⟩
  have e0 : es.toList = [] := by
    cases hl : es.toList with
    | nil => rfl
    | cons a l => rw [hl] at he; cases he
  have := Reads.dict (h := s.heap) (kvs := []) (as := []) (bs := []) ho hx.1 hd (by rw [e0]; exact .nil) (by rw [e0]; exact .nil)
  simpa using this
def rReprQ (K : PySem.W.Frag) : List V → Hp → VK → Prop := fun xs H Q => ∃ x d, xs = [x] ∧ Rp K H x d ∧ Q (.str d.shown) H
theorem call_reprQ (hg : X.A.guards = some []) (hu : X.A.units + 64 < cLine) : CallR X (.builtin "repr") (rReprQ X.K) := by
  intro pins s σ H xs us Q I r h
  obtain ⟨x, d, rfl, hd, q⟩ := h
  cases hd with
  | dp h hs hn hd hz => exact call_repr hg hu pins s σ H _ us Q I r ⟨x, d, rfl, h, hs, hn, hd, hz, q⟩
  | nd h =>
    obtain ⟨u, rfl, rx⟩ := vals1 r
    cases rx
    obtain ⟨hsys, rd⟩ := dk0_reads I h
    refine repr_of_reads' rd (by decide) (fun _ hm => ?_) hg (by simp [PyData.depth, PyData.depthKv]; omega) (fun _ _ z => z) (fun h' t tk kp => ⟨.str _, H, I.kept kp, ⟨_, rfl⟩, q⟩) (by decide)
    rw [List.mem_singleton.mp hm] at hsys
    simp at hsys
  | @wd t p w h hp hz =>
    obtain ⟨u, rfl, rx⟩ := vals1 r
    cases rx
    obtain ⟨hsys, rd⟩ := dk0_reads I hp
    have rt : ∃ as, Reads s.heap (.ref t) (.tuple [.str w, .dict []]) as ∧ ∀ a ∈ as, (a == sysModules) = false := by
      obtain ⟨its, rv, ⟨o, ho, hc, n, hd⟩, _⟩ := I.tuple (SqT.of h)
      cases rv with
      | cons r1 rr =>
        cases rr with
        | cons r2 rn =>
          cases rn
          obtain ⟨t1, rfl⟩ := r1
          cases r2
          refine ⟨_, Reads.tuple ho hc hd (.cons (.str _ t1) (.cons rd .nil)), fun a ha => ?_⟩
          simp at ha
          subst ha
          exact hsys
    obtain ⟨as, rd2, hno⟩ := rt
    refine repr_of_reads' rd2 (by simp [PyData.showable, PyData.showableAll, PyData.showableKv]) (fun _ hm => ?_) hg (by simp [PyData.depth, PyData.depthAll, PyData.depthKv]; omega) (fun _ _ z => z) (fun h' t tk kp => ⟨.str _, H, I.kept kp, ⟨_, rfl⟩, q⟩) hz
    have := hno _ hm
    simp at this
end
end Fab
set_option maxHeartbeats 2000000
namespace Fab
open PySem L2 PySem.FabX
abbrev sPair : Stmt := top 14
abbrev sStretch : Stmt := top 15
abbrev sTurning : Stmt := top 24
abbrev sPTurned : Stmt := top 25
local macro_rules | `(tactic| walk_at "s") => `(tactic| simp [tSeq, tAsg, tOp, tUn, tVar, tC, gName, tCons, tNil, tCB, tCall, rI, rI0, rU, tRet, tDrop, tIfS, tNext, tIf, tTest, tNot, tOr, tAnd, tB, L2.start, CMul, CDiv, rIxF, rLenF, rIntF, sq_lst, sq_tup, tLstF, tTupF, gSub, rCatF, rCatTF, rInF, rNe, rEq, tAndV, tOrV, tNotV, tChain, rTupF, tFldF, tRx, tMake, tSl, tPart, tNoPart, rSlTF, rSlF, tRevTF, gTup, gCons, gNil])
theorem make_at {K : PySem.W.Frag} {C : Kd → Addr} {CR : Addr} {H : Hp} {b : Addr} {o : HO} {ws : List Int} {many : Nat} {Q : Addr → Hp → Prop} {E : XK} (hb : H b = some o) (hs : sq o = some (ws.map V.int)) (hr : IsRow ws many) (hm : many ≤ 24)
    (k : ∀ p H', Same H H' → RowAt CR H' p (ws.map V.int) → Q p H') : ∀ x dx, H x = none → H dx = none → dx ≠ x → spRI K C CR [.ref x, .ref b] (upd (upd H dx (.own x)) x (.ins CR dx [])) (fun v H2 => v = .non ∧ Q x H2) E := by
  intro x dx nx ndx nex
  have lw := hr.len
  have gd : GoodTo (ws.map V.int) many := good_take hr (by rw [List.map_take]) (Nat.le_refl _) (by rw [List.length_map, lw])
  have lx : (ws.map V.int).length = many := by rw [List.length_map, lw]
  have e1 : Same H (upd (upd H dx (.own x)) x (.ins CR dx [])) := fun c u hc => by
    rw [upd_ne (ne_of_none hc nx), upd_ne (ne_of_none hc ndx)]
    exact hc
  refine ⟨x, dx, .ref b, rfl, upd_same, .inl ⟨b, o, _, rfl, e1 _ _ hb, hs, ne_of_none hb nx, by omega, fun H' s' y hy => ?_, fun _ _ tp H9 fr9 hx9 htp => ⟨rfl, k x H9 (fun b o h => fr9 b o (e1 b o h) (ne_of_none h nx)) ⟨dx, tp, hx9, htp⟩⟩, fun h => by omega, fun _ k _ _ _ hk _ ng _ => absurd (gd.le (by omega)) ng⟩⟩
  obtain ⟨z, _, rfl⟩ := List.mem_map.mp hy
  exact .int z
/-- [f z for z in a tuple of ints], the list made last -/
theorem lc_mapT {K : PySem.W.Frag} {H0 H : Hp} {L : List (Addr × HO)} {T : List (Addr × List V)} {a D : Addr} {ws : List Int} {g : Int → Int} {n : Nat} {te : TE} {σ : St} {Qd : Hp → Prop} (v : VW H0 H L T) (hD : H D = none)
    (hA : ∀ H' acc, VW H0 H' ((D, .lst acc) :: L) T → SqT K H' a (ws.map V.int)) (hw : ∀ x, wipe ((wipe σ [n]).set n x) [n] = wipe σ [n]) (hte : ∀ z H' Q, Q (.int (g z)) H' → te ((wipe σ [n]).set n (some (.int z))) H' Q) (hz : ws.length ≤ 1000)
    (hd : ∀ H', VW H0 H' ((D, .lst ((ws.map g).map V.int)) :: L) T → Qd H') :
    ∃ W : Nat → Nat → Hp → Prop, (∃ m, W 0 m (upd H D (.lst []))) ∧ ∀ i m H, W i m H →
      ((Itt K a).stop i H ∧ Qd H) ∨ ((Itt K a).go i H ∧ ∃ Nx : Hp → Prop, (∀ H', Nx H' → ∃ m', m' < m ∧ W (i + 1) m' H') ∧ ∀ x H', (Itt K a).yld i H x H' → gName n x (wipe σ [n]) H' fun σ2 H2 => wipe σ2 [n] = wipe σ [n] ∧ tYes σ2 H2 fun b H3 =>
        if b = true then te σ2 H3 fun y H4 => ∃ acc, H4 D = some (.lst acc) ∧ acc.length < sizeLine ∧ Nx (upd H4 D (.lst (acc ++ [y]))) else Nx H3) := by
  refine lc_it (walk_tup (K := K) (a := a) (xs := ws.map V.int)) (fun i H' => VW H0 H' ((D, .lst (((ws.take i).map g).map V.int)) :: L) T) ?_ (fun i H' _ v' => hA H' _ v') ?_ (fun H' v' => hd H' ?_)
  · have := v.push (o := .lst []) hD
    simpa using this
  · rintro i x H' H2 hi v' ⟨rfl, hx⟩
    rw [List.length_map] at hi
    rw [List.getElem?_map, List.getElem?_eq_getElem hi] at hx
    cases hx
    refine ⟨hw _, ?_⟩
    simp only [tYes, if_true]
    refine hte _ _ _ ⟨_, v'.facts.1, sz_lt (by simp; omega), ?_⟩
    have := v'.put (o := .lst (((ws.take i).map g).map V.int ++ [V.int (g ws[i])])) 0 rfl rfl
    have e : ws.take (i + 1) = ws.take i ++ [ws[i]] := by rw [List.take_succ, List.getElem?_eq_getElem hi]; rfl
    rw [e, List.map_append, List.map_append]
    simpa using this
  · rw [List.length_map, List.take_length] at v'
    exact v'
theorem yes_if {σ : St} {H : Hp} {F G : Hp → Prop} (h : F H) : tYes σ H fun b H3 => if b = true then F H3 else G H3 := by
  show (if true = true then F H else G H)
  rw [if_pos rfl]
  exact h
/-- what a value is to is_stretch: no pair, or the pair of these -/
def StV (K : PySem.W.Frag) (H : Hp) (x : V) : Option (V × V) → Prop
  | none => (∃ t, TyX K H x t ∧ PySem.W.kitOne K t (.type "tuple") = some false) ∨ ∃ p xs, x = .ref p ∧ H p = some (.tup xs) ∧ xs.length ≠ 2
  | some (a, b) => ∃ p, x = .ref p ∧ H p = some (.tup [a, b]) ∧ Asked K H a ∧ Asked K H b
def stOk (hi : Int) : Option (V × V) → Bool
  | some (.int i, b) => decide (0 ≤ i) && decide (i ≤ hi) && wholeV b i hi
  | _ => false
section
variable {P : Program} {w : World} {K : PySem.W.Frag} {mg : Str → Option Value} {base : Heap} {C : Kd → Addr} {CR : Addr}
theorem tyOf_same {K : PySem.W.Frag} {H H' : Hp} {x : V} {t : Value} (h : TyOf K H x t) (s : Same H H') : TyOf K H' x t := by
  cases h
  case non => exact .non
  case bl => exact .bl _
  case int => exact .int _
  case str => exact .str _
  case flt => exact .flt _
  case lst e => exact .lst (s _ _ e)
  case frz e => exact .frz (s _ _ e)
  case tup e => exact .tup (s _ _ e)
  case dK e => exact .dK (s _ _ e)
  case dT e => exact .dT (s _ _ e)
  case ins e cl ha hn htk hm => exact .ins (s _ _ e) cl ha hn htk hm
theorem tyX_same {K : PySem.W.Frag} {H H' : Hp} {x : V} {t : Value} (h : TyX K H x t) (s : Same H H') : TyX K H' x t := by
  cases h
  case base h => exact .base (tyOf_same h s)
  case byt => exact .byt _
  case set e => exact .set (s _ _ e)
  case kList e c => exact .kList e c
  case kTuple e c => exact .kTuple e c
  case kDict e c => exact .kDict e c
  case fTuple e => exact .fTuple (s _ _ e)
  case fDict e => exact .fDict (s _ _ e)
theorem Asked.same {K : PySem.W.Frag} {H H' : Hp} {x : V} (h : Asked K H x) (s : Same H H') : Asked K H' x := by
  cases h with
  | int i => exact .int i
  | bl b => exact .bl b
  | other ty no h1 => exact .other (tyX_same ty s) no h1
/-- both are whole numbers from 0 to most -/
def pairOk (hi : Int) : Option (V × V) → Bool
  | some (a, b) => wholeV a 0 hi && wholeV b 0 hi
  | none => false
def spPair (K : PySem.W.Frag) : Sp := fun vs H Q _ => ∃ (x : V) (hi : Int) (o : Option (V × V)), vs = [x, .int hi] ∧ StV K H x o ∧ ∀ H', Same H H' → Q (.bl (pairOk hi o)) H'
theorem scPair : FnScope ["value", "most", "item"] ["value", "most"] (defScope sPair) := ⟨rfl, rfl, rfl, by decide +kernel, rfl, by decide +kernel, by decide +kernel⟩
theorem ok_pair {f fW : Addr} {fd fdW : FuncData} (F : Fun K "is_pair" "is_pair" sPair f fd) (B : Blt mg) (cWhole : Dn P w K mg base 1 "is_whole" fW fdW ["value", "least", "most"] (spWhole K)) : FnOk P w K mg base CX0 2 f fd ["value", "most"] (spPair K) := by
  refine F.ok scPair (fun vs H Q E h => ?_) (fun cdv A outer s H vs Q E hr h => ?_)
  · obtain ⟨x, hi, o, rfl, _⟩ := h
    rfl
  · obtain ⟨x, hi', o, rfl, ha, k⟩ := h
    refine ⟨_, (pss_one (ps_ret (pe_and (pe_callB call_isi (by rfl) B.isinstance (by decide +kernel) (pa_cons (pv 0) (pa_cons (pe_bltn (v := .ty "tuple") (by rfl) B.tuple (by decide +kernel) rfl) pa_nil))) (pe_and (pe_cmpR op_eq (pe_callB lenF (by rfl) B.len (by decide +kernel) (pa_cons (pv 0) pa_nil)) pe_int (nomark _)) (pe_one (pe_callB (cr_all rfl) (by rfl) B.all (by decide +kernel) (pa_cons (pe_lc (own := [("item", 2)]) (tt := tYes) rfl scPair.nd (pi_tup (pv 0)) (blkOk_by (own := [("item", 2)]) (N := ["value", "most", "item"]) (sc := defScope sPair) (by decide +kernel)) (fun _ _ _ _ _ => (pg_name (i := 2) scPair.nd rfl (by first | exact Or.inl rfl | exact Or.inr rfl))) (fun _ _ _ _ _ => pts_nil) (fun _ _ _ _ _ => (pe_call cWhole.ok (hr.mono (by decide)) rfl cWhole.mgf cWhole.kp cWhole.bi .nil pass0 (pa_cons (pv 2) (pa_cons pe_int (pa_cons (pv 1) pa_nil)))))) pa_nil))))))), ?_⟩
    walk_at "s"
    have kt : PySem.W.kitOne K (.type "tuple") (.type "tuple") = some true := kit_ty (by decide +kernel)
    cases o with
    | none =>
      rcases ha with ⟨t, ht, hk⟩ | ⟨p, xs, rfl, hp, hne⟩
      · exact ⟨x, .ty "tuple", t, .type "tuple", false, rfl, .ty _, ht, hk, .inl ⟨rfl, k H fun _ _ z => z⟩⟩
      · refine ⟨.ref p, .ty "tuple", .type "tuple", .type "tuple", true, rfl, .ty _, .base (.tup hp), kt, .inr ⟨rfl, p, rfl, _, hp, _, rfl, rfl, ?_⟩⟩
        rw [if_neg (by omega)]
        exact k H fun _ _ z => z
    | some ab =>
      obtain ⟨a, b⟩ := ab
      obtain ⟨p, rfl, hp, hA, hB⟩ := ha
      refine ⟨.ref p, .ty "tuple", .type "tuple", .type "tuple", true, rfl, .ty _, .base (.tup hp), kt, .inr ⟨rfl, p, rfl, _, hp, _, rfl, rfl, ?_⟩⟩
      rw [if_pos (by rfl)]
      refine ⟨_, rfl, p, rfl, ⟨_, SqT.of hp⟩, fun D hD => ?_⟩
      refine lc_it (walk_tup (K := K) (a := p) (xs := [a, b])) (fun i H' => VW H H' [(D, .lst (([wholeV a 0 hi', wholeV b 0 hi'].take i).map V.bl))] []) (VW.start.push hD) (fun i H' _ v' => SqT.of (v'.fr _ _ hp)) ?_ ?_
      · rintro i y H1 H2 hi v1 ⟨rfl, hy⟩
        refine ⟨rfl, yes_if ?_⟩
        refine ⟨_, rfl, _, rfl, ?_⟩
        obtain ⟨w', hA', e1, e2⟩ : ∃ w', Asked K H2 y ∧ wholeV y 0 hi' = w' ∧ ([wholeV a 0 hi', wholeV b 0 hi'].take (i + 1)).map V.bl = ([wholeV a 0 hi', wholeV b 0 hi'].take i).map V.bl ++ [V.bl w'] := by
          have : i = 0 ∨ i = 1 := by simp at hi; omega
          rcases this with rfl | rfl
          · cases hy
            exact ⟨_, hA.same v1.fr, rfl, rfl⟩
          · cases hy
            exact ⟨_, hB.same v1.fr, rfl, rfl⟩
        refine ⟨y, 0, hi', rfl, hA', _, v1.facts.1, sz_lt (by simp; omega), ?_⟩
        rw [e2, e1]
        exact v1.put 0 rfl rfl
      · intro H1 v1
        exact ⟨D, _, rfl, SqL.of v1.facts.1, by simpa [pairOk] using k H1 v1.fr⟩
def spStretch (K : PySem.W.Frag) : Sp := fun vs H Q _ => ∃ (x : V) (hi : Int) (o : Option (V × V)), vs = [x, .int hi] ∧ StV K H x o ∧ ∀ H', Same H H' → Q (.bl (stOk hi o)) H'
theorem scStretch : FnScope ["value", "most"] ["value", "most"] (defScope sStretch) := ⟨rfl, rfl, rfl, by decide +kernel, rfl, by decide +kernel, by decide +kernel⟩
theorem ok_stretch {f fW : Addr} {fd fdW : FuncData} (F : Fun K "is_stretch" "is_stretch" sStretch f fd) (B : Blt mg) (cPair : Dn P w K mg base 2 "is_pair" fW fdW ["value", "most"] (spPair K)) : FnOk P w K mg base CX0 3 f fd ["value", "most"] (spStretch K) := by
  refine F.ok scStretch (fun vs H Q E h => ?_) (fun cdv A outer s H vs Q E hr h => ?_)
  · obtain ⟨x, hi, o, rfl, _⟩ := h
    rfl
  · obtain ⟨x, hi, o, rfl, ha, k⟩ := h
    refine ⟨_, (pss_one (ps_ret (pe_and (pe_call cPair.ok (hr.mono (by decide)) rfl cPair.mgf cPair.kp cPair.bi .nil pass0 (pa_cons (pv 0) (pa_cons (pv 1) pa_nil))) (pe_one (pe_cmpR op_le (pe_ix ixF (pv 0) pe_int (fun _ _ => rfl)) (pe_ix ixF (pv 0) pe_int (fun _ _ => rfl)) (nomark _)))))), ?_⟩
    walk_at "s"
    refine ⟨x, hi, o, rfl, ha, fun H1 s1 => ?_⟩
    cases o with
    | none => exact .inl ⟨rfl, k H1 s1⟩
    | some ab =>
      obtain ⟨a, b⟩ := ab
      obtain ⟨p, rfl, hp, hA, hB⟩ := ha
      cases e : pairOk hi (some (a, b)) with
      | false =>
        refine .inl ⟨rfl, ?_⟩
        have e2 : stOk hi (some (a, b)) = false := by
          cases a with
          | int i =>
            cases b with
            | int j =>
              simp only [pairOk, wholeV, Bool.and_eq_false_iff, decide_eq_false_iff_not] at e
              simp only [stOk, wholeV, Bool.and_eq_false_iff, decide_eq_false_iff_not]
              omega
            | _ => simp [stOk, wholeV]
          | _ => rfl
        rw [← e2]
        exact k H1 s1
      | true =>
        refine .inr ⟨rfl, p, rfl, _, s1 _ _ hp, _, rfl, _, rfl, p, rfl, _, s1 _ _ hp, _, rfl, _, rfl, ?_⟩
        cases a with
        | int i =>
          cases b with
          | int j =>
            refine ⟨i, rfl, j, rfl, ?_⟩
            have e2 : stOk hi (some (.int i, .int j)) = decide (i ≤ j) := by
              simp only [pairOk, wholeV, Bool.and_eq_true, decide_eq_true_eq] at e
              simp only [stOk, wholeV]
              by_cases h : i ≤ j
              · rw [decide_eq_true h]
                simp
                omega
              · rw [decide_eq_false h]
                simp [h]
            rw [← e2]
            exact k H1 s1
          | _ => simp [pairOk, wholeV] at e
        | _ => simp [pairOk, wholeV] at e
def spTurning (K : PySem.W.Frag) (CR : Addr) : Sp := fun vs H Q _ => ∃ (p : Addr) (x : V) (xs : List V) (o : Option (V × V)), vs = [.ref p, x] ∧ RowAt CR H p xs ∧ xs.length ≤ 1000 ∧ StV K H x o ∧ ∀ H', Same H H' → Q (.bl (stOk ((xs.length : Int) - 1) o)) H'
theorem scTurning : FnScope ["row", "value"] ["row", "value"] (defScope sTurning) := ⟨rfl, rfl, rfl, by decide +kernel, rfl, by decide +kernel, by decide +kernel⟩
theorem ok_turning {f fS fN : Addr} {fd fdS fdN : FuncData} (F : Fun K "is_turning" "is_turning" sTurning f fd) (B : Blt mg) (cStretch : Dn P w K mg base 3 "is_stretch" fS fdS ["value", "most"] (spStretch K)) (FLen : FnOk P w K mg base CX0 1 fN fdN ["self"] (spRLen CR)) (RL : OpM K CR "__len__" fN fdN ["self"]) :
    FnOk P w K mg base CX0 4 f fd ["row", "value"] (spTurning K CR) := by
  refine F.ok scTurning (fun vs H Q E h => ?_) (fun cdv A outer s H vs Q E hr h => ?_)
  · obtain ⟨p, x, xs, o, rfl, _⟩ := h
    rfl
  · obtain ⟨p, x, xs, o, rfl, hrow, hz, ho, k⟩ := h
    refine ⟨_, (pss_one (ps_ret (pe_call cStretch.ok (hr.mono (by decide)) rfl cStretch.mgf cStretch.kp cStretch.bi .nil pass0 (pa_cons (pv 1) (pa_cons (pe_op op_sub (pe_callB (call_lenO FLen RL.at_ RL.fn (hr.mono (by decide)) RL.bi pass0) (by rfl) B.len (by decide +kernel) (pa_cons (pv 0) pa_nil)) pe_int) pa_nil))))), ?_⟩
    walk_at "s"
    obtain ⟨dx, tp, h1, h2⟩ := id hrow
    exact ⟨p, dx, _, rfl, h1, p, xs, rfl, hrow, _, rfl, by omega, by omega, _, rfl, x, _, o, rfl, ho, k⟩
def spPTurned (K : PySem.W.Frag) (C : Kd → Addr) (CR : Addr) : Sp := fun vs H Q E => ∃ (p : Addr) (x : V) (ws : List Int) (many : Nat) (o : Option (V × V)), vs = [.ref p, x] ∧ RowAt CR H p (ws.map V.int) ∧ IsRow ws many ∧ many ≤ 24 ∧ StV K H x o ∧
  (∀ i j : Nat, o = some (.int (i : Nat), .int (j : Nat)) → i ≤ j → j < many → ∀ q H', Same H H' → RowAt CR H' q ((turnL ws i j).map V.int) → Q (.ref q) H') ∧ (stOk ((many : Int) - 1) o = false → ∀ d H', Same H H' → H' d = some (.xd [("place", .int 0)]) → E (.ref (C .turn)) (some d) H')
theorem scPTurned : FnScope ["row", "turning", "first", "last", "stretch", "about", "waggon"] ["row", "turning"] (defScope sPTurned) := ⟨rfl, rfl, rfl, by decide +kernel, rfl, by decide +kernel, by decide +kernel⟩
theorem ok_pturned {f fI fT : Addr} {fd fdI fdT : FuncData} (F : Fun K "turned" "turned" sPTurned f fd) (B : Blt mg) (R : RowC K mg CR) (XB : ∀ k, hasK k = true → XDs P w K mg base C k) (RM : Mk K CR fI) (RI : FnOk P w K mg base (L2.CX P w) 3 fI fdI ["self", "waggons"] (spRI K C CR)) (rb : Binds K fdI ["self", "waggons"] [])
    (cTurning : Dn P w K mg base 4 "is_turning" fT fdT ["row", "value"] (spTurning K CR)) : FnOk P w K mg base (L2.CX P w) 5 f fd ["row", "turning"] (spPTurned K C CR) := by
  refine F.okX scPTurned (fun vs H Q E h => ?_) (fun cdv A outer s H vs Q E hr h => ⟨_, (pss_cons (ps_if (pt_not (pt_val (pe_call cTurning.ok (hr.mono (by decide)) rfl cTurning.mgf cTurning.kp cTurning.bi .nil pass0 (pa_cons (pv 0) (pa_cons (pv 1) pa_nil))))) (pss_one (ps_raiseX (k := .turn) rfl (XB .turn (by decide)) (hr.mono (by decide)) (takes_of rfl rfl rfl rfl) pe_int (by rfl))) pss_nil)
      (pss_cons (ps_asg (pv 1) (pg_tup (by rfl) (pgs_cons (pg_name (i := 2) scPTurned.nd rfl (by first | exact Or.inl rfl | exact Or.inr rfl)) (pgs_cons (pg_name (i := 3) scPTurned.nd rfl (by first | exact Or.inl rfl | exact Or.inr rfl)) pgs_nil))))
      (pss_cons (ps_set (i := 4) scPTurned.nd rfl (by first | exact Or.inl rfl | exact Or.inr rfl) (pe_slice slTF (pe_fldF (pv 0)) (po_some (pv 2)) (po_some (pe_op op_add (pv 3) pe_int))))
      (pss_cons (ps_set (i := 5) scPTurned.nd rfl (by first | exact Or.inl rfl | exact Or.inr rfl) (pe_callTy tupF (by rfl) B.tuple (by decide +kernel) (pa_cons (pe_lc (own := [("waggon", 6)]) (tt := tYes) rfl scPTurned.nd (pi_tup (pe_revTF (pv 4))) (blkOk_by (own := [("waggon", 6)]) (N := ["row", "turning", "first", "last", "stretch", "about", "waggon"]) (sc := defScope sPTurned) (by decide +kernel)) (fun _ _ _ _ _ => (pg_name (i := 6) scPTurned.nd rfl (by first | exact Or.inl rfl | exact Or.inr rfl))) (fun _ _ _ _ _ => pts_nil) (fun _ _ _ _ _ => (pe_un un_neg (pv 6)))) pa_nil)))
      (pss_one (ps_ret (pe_make (E := fun _ _ _ => False) RM RI (hr.mono (by decide)) (by rfl) R.mgR rb .nil (passes_call LamX.takes0 (fun _ _ _ _ h => h)) (pa_cons (pe_op catTF (pe_op catTF (pe_slice slTF (pe_fldF (pv 0)) po_none (po_some (pv 2))) (pv 5)) (pe_slice slTF (pe_fldF (pv 0)) (po_some (pe_op op_add (pv 3) pe_int)) po_none)) pa_nil)))))))), ?_⟩)
  · obtain ⟨p, x, ws, many, o, rfl, _⟩ := h
    rfl
  · obtain ⟨p, x, ws, many, o, rfl, hrow, hr0, hm, ho, kg, kb⟩ := h
    obtain ⟨dx, tp, h1, h2⟩ := id hrow
    walk_at "s"
    have lw := hr0.len
    refine ⟨p, x, _, o, rfl, hrow, by rw [List.length_map]; omega, ho, fun H1 s1 => ?_⟩
    rw [List.length_map, lw]
    replace hrow := hrow.same s1
    replace h1 := s1 _ _ h1
    replace h2 := s1 _ _ h2
    replace kg := fun i j e a b q H' (s : Same H1 H') h => kg i j e a b q H' (fun b o q => s _ _ (s1 b o q)) h
    replace kb := fun e d H' (s : Same H1 H') h => kb e d H' (fun b o q => s _ _ (s1 b o q)) h
    cases e : stOk ((many : Int) - 1) o with
    | false => exact .inl ⟨rfl, fun d hd => kb e d _ (Same.new hd) upd_same⟩
    | true =>
      refine .inr ⟨rfl, ?_⟩
      obtain ⟨i, j, rfl, hij, hj⟩ : ∃ i j : Nat, o = some (.int (i : Nat), .int (j : Nat)) ∧ i ≤ j ∧ j < many := by
        cases o with
        | none => cases e
        | some ab =>
          obtain ⟨a, b⟩ := ab
          cases a with
          | int i =>
            simp only [stOk, Bool.and_eq_true, decide_eq_true_eq] at e
            obtain ⟨⟨e1, e2⟩, e3⟩ := e
            cases b with
            | int j =>
              simp only [wholeV, Bool.and_eq_true, decide_eq_true_eq] at e3
              exact ⟨i.toNat, j.toNat, by rw [Int.toNat_of_nonneg e1, Int.toNat_of_nonneg (by omega)], by omega, by omega⟩
            | _ => cases e3
          | _ => cases e
      obtain ⟨t, rfl, ht, _, _⟩ := ho
      replace ht := s1 _ _ ht
      refine ⟨t, rfl, _, SqT.of ht, rfl, _, _, rfl, _, _, rfl, rfl, CR, dx, _, h1, R.cl, R.nW, _, rfl, i, rfl, j, rfl, tp, rfl, _, h2, view_tup VW.start fun t1 H1 v1 => ?_⟩
      rw [cut_a hij (by rw [List.length_map]; omega)] at v1
      refine ⟨_, rfl, t1, rfl, _, v1.tu _ List.mem_cons_self, view_tup v1 fun t2 H2 v2 => ⟨t2, rfl, ⟨_, SqT.of (v2.tu _ List.mem_cons_self)⟩, fun D hD => lc_mapT (ws := ((ws.drop i).take (j + 1 - i)).reverse) (g := fun z => -z) v2 hD (fun H' acc v' => ?_) (fun _ => rfl) (fun z _ _ q => ?_) ?_ fun H3 v3 => ?_⟩⟩
      · rw [List.map_reverse, List.map_take, List.map_drop]
        exact SqT.of (v'.tu _ List.mem_cons_self)
      · exact ⟨_, rfl, z, rfl, q⟩
      · rw [List.length_reverse, List.length_take, List.length_drop]
        omega
      have hz : ∀ k : Nat, k ≤ 24 → k ≤ sizeLine := fun k hk => sz_le (by omega)
      refine ⟨D, rfl, _, v3.facts.1, _, rfl, view_tup v3 fun t4 H4 v4 => ⟨CR, dx, _, v4.fr _ _ h1, R.cl, R.nW, _, rfl, i, rfl, tp, rfl, _, v4.fr _ _ h2, ?_⟩⟩
      rw [cut_b (by rw [List.length_map]; omega)]
      refine view_tup v4 fun t5 H5 v5 => ⟨_, v5.tu _ List.mem_cons_self, _, v5.tu _ (List.mem_cons_of_mem _ List.mem_cons_self), sz_le (by simp; omega), view_tup v5 fun t6 H6 v6 => ⟨CR, dx, _, v6.fr _ _ h1, R.cl, R.nW, _, rfl, j, rfl, tp, rfl, _, v6.fr _ _ h2, ?_⟩⟩
      rw [cut_c (by rw [List.length_map]; omega)]
      refine view_tup v6 fun t7 H7 v7 => ⟨_, v7.tu _ (List.mem_cons_of_mem _ List.mem_cons_self), _, v7.tu _ List.mem_cons_self, sz_le (by simp; omega), view_tup v7 fun t8 H8 v8 => ?_⟩
      have et : (ws.map V.int).take i ++ ((((ws.drop i).take (j + 1 - i)).reverse.map fun z => -z).map V.int) ++ (ws.map V.int).drop (j + 1) = (turnL ws i j).map V.int := by
        unfold turnL
        simp [List.map_take, List.map_drop, List.map_reverse]
      have ht8 := v8.tu _ List.mem_cons_self
      refine make_at (o := .tup ((turnL ws i j).map V.int)) (by rw [ht8, ← et]) rfl (hr0.turn hij) hm fun q H9 s9 hq => kg i j rfl hij hj q H9 (fun b o h => s9 _ _ (v8.fr _ _ h)) hq
end
def PrL (H : Hp) : List V → List (Nat × Nat) → Prop := Paired fun v p => ∃ a, v = .ref a ∧ H a = some (.tup [.int (p.1 : Nat), .int (p.2 : Nat)])
theorem PrL.keep {H H' : Hp} {vs : List V} {ps : List (Nat × Nat)} (h : PrL H vs ps) (k : ∀ a xs, H a = some (.tup xs) → H' a = some (.tup xs)) : PrL H' vs ps := by
  unfold PrL at h ⊢
  induction h with
  | nil => exact .nil
  | cons r t ih => exact .cons (by obtain ⟨a, e, h⟩ := r; exact ⟨a, e, k _ _ h⟩) ih
theorem PrL.same {H H' : Hp} {vs : List V} {ps : List (Nat × Nat)} (h : PrL H vs ps) (s : Same H H') : PrL H' vs ps := h.keep fun a xs q => s _ _ q
theorem PrL.len {H : Hp} {vs : List V} {ps : List (Nat × Nat)} (h : PrL H vs ps) : vs.length = ps.length := by
  unfold PrL at h
  induction h with
  | nil => rfl
  | cons _ _ ih => simp [ih]
theorem PrL.snoc {H : Hp} {vs : List V} {ps : List (Nat × Nat)} {a : Addr} {i j : Nat} (h : PrL H vs ps) (ha : H a = some (.tup [.int (i : Nat), .int (j : Nat)])) : PrL H (vs ++ [.ref a]) (ps ++ [(i, j)]) := by
  unfold PrL at h ⊢
  induction h with
  | nil => exact .cons ⟨a, rfl, ha⟩ .nil
  | cons r t ih => exact .cons r ih
theorem PrL.app {H : Hp} {vs us : List V} {ps qs : List (Nat × Nat)} (h : PrL H vs ps) (h2 : PrL H us qs) : PrL H (vs ++ us) (ps ++ qs) := by
  unfold PrL at h ⊢
  induction h with
  | nil => exact h2
  | cons r t ih => exact .cons r ih
def prD (ps : List (Nat × Nat)) : List PyData := ps.map fun p => .tuple [.int (p.1 : Nat), .int (p.2 : Nat)]
theorem PrL.dp {K : PySem.W.Frag} {H : Hp} {vs : List V} {ps : List (Nat × Nat)} (h : PrL H vs ps) : DpAll K H vs (prD ps) := by
  unfold PrL at h
  induction h with
  | nil => exact .nil
  | cons r t ih =>
    obtain ⟨a, rfl, h⟩ := r
    exact .cons (.tup (SqT.of h) (.cons (.int _) (.cons (.int _) .nil))) ih
end Fab
set_option maxHeartbeats 2000000
namespace Fab
open PySem L2 PySem.FabX
local macro_rules | `(tactic| walk_at "s") => `(tactic| simp [tSeq, tAsg, tOp, tUn, tVar, tC, gName, tCons, tNil, tCB, tCall, rI, rI0, rU, tRet, tDrop, tIfS, tNext, tIf, tTest, tNot, tOr, tAnd, tB, L2.start, CMul, CDiv, rIxF, rLenF, rIntF, sq_lst, sq_tup, tLstF, tTupF, gSub, rCatF, rCatTF, rInF, rNe, rEq, tAndV, tOrV, tNotV, tChain, rTupF, tFldF, tRx, tMake, tSl, tPart, tNoPart, rSlTF, rSlF, tRevTF, gTup, gCons, gNil, rReprQ])
/-- a call from within a text that lets exceptions out -/
structure DnX (P : Program) (w : World) (K : PySem.W.Frag) (mg : Str → Option Value) (base : Heap) (k : Nat) (x : Str) (f : Addr) (fd : FuncData) (ps : List Str) (sp : Sp) : Prop where
  ok : FnOk P w K mg base (L2.CX P w) k f fd ps sp
  mgf : mg x = some (.ref f)
  kp : PySem.W.keepIn K (.ref f) = true
  bi : Binds K fd ps []
theorem seq_nx {S R : TS} {D : Ends} {σ : St} {H : Hp} (Inv : St → Hp → Prop) (h : ∀ Z : St → Hp → Prop, (∀ σ' H', Inv σ' H' → Z σ' H') → S { D with nx := Z } σ H) (h2 : ∀ σ' H', Inv σ' H' → R D σ' H') : tSeq S R D σ H := h (R D) h2
theorem seq_nx2 {S S2 R : TS} {D : Ends} {σ : St} {H : Hp} (Inv : St → Hp → Prop) (h : ∀ Z : St → Hp → Prop, (∀ σ' H', Inv σ' H' → Z σ' H') → tSeq S S2 { D with nx := Z } σ H) (h2 : ∀ σ' H', Inv σ' H' → R D σ' H') : tSeq S (tSeq S2 R) D σ H := h (R D) h2
def Kn (m g : Addr) (H H' : Hp) : Prop := ∀ b o, H b = some o → b ≠ m → b ≠ g → noTbl o = true → H' b = some o
theorem seq_q {S R : TS} {D : L2.Ends} {σ : St} {H : Hp} (Inv : St → Hp → Prop) (h : ∀ D' : L2.Ends, D'.rt = D.rt → (∀ σ' H', Inv σ' H' → D'.nx σ' H') → S D' σ H) (h2 : ∀ σ' H', Inv σ' H' → R D σ' H') : tSeq S R D σ H := h { D with nx := R D } rfl h2
def DS (m c g : Addr) (cs : List Int) (Tb : TbN) (N : Nat) (H : Hp) : Prop := ∃ (n : Nat) (gs : List Int), n ≤ N ∧ H m = some (dm c g n) ∧ H g = some (.lst (gs.map V.int)) ∧ H c = some (.lst (cs.map V.int)) ∧ TabsZ Tb H ∧ c ≠ m ∧ c ≠ g ∧ cs.length = 64
section
variable {m c g : Addr} {cs : List Int} {Tb : TbN} {N : Nat} {H H1 H' : Hp}
theorem Kn.refl : Kn m g H H := fun _ _ h _ _ _ => h
theorem Kn.of (s : Same H H') : Kn m g H H' := fun _ _ h _ _ _ => s _ _ h
theorem Kn.trans (k : Kn m g H H1) (k2 : Kn m g H1 H') : Kn m g H H' := fun b o h n1 n2 n3 => k2 b o (k b o h n1 n2 n3) n1 n2 n3
theorem DS.same (d : DS m c g cs Tb N H) (s : Same H H') : DS m c g cs Tb N H' := by
  obtain ⟨n, gs, h1, h2, h3, h4, h5, h6, h7, h8⟩ := d
  exact ⟨n, gs, h1, s _ _ h2, s _ _ h3, s _ _ h4, h5.ext s, h6, h7, h8⟩
theorem DS.extN (d : DS m c g cs Tb N H) (e : LamX.ExtN H H') (t : TabsZ Tb H') : DS m c g cs Tb N H' := by
  obtain ⟨n, gs, h1, h2, h3, h4, h5, h6, h7, h8⟩ := d
  exact ⟨n, gs, h1, e _ _ h2 (noTbl_ne rfl), e _ _ h3 (noTbl_ne rfl), e _ _ h4 (noTbl_ne rfl), t, h6, h7, h8⟩
theorem DS.le {M : Nat} (d : DS m c g cs Tb N H) (h : N ≤ M) : DS m c g cs Tb M H := by
  obtain ⟨n, gs, h1, r⟩ := d
  exact ⟨n, gs, Nat.le_trans h1 h, r⟩
theorem DS.tabs (d : DS m c g cs Tb N H) : TabsZ Tb H := by
  obtain ⟨n, gs, h1, h2, h3, h4, h5, _⟩ := d
  exact h5
/-- what is no dict and no list stands beside the draws' state -/
def noDL : HO → Bool
  | .lst _ => false
  | .dK _ => false
  | .tbl _ => false
  | _ => true
theorem Kn.at (k : Kn m g H H') (d : DS m c g cs Tb N H) {b : Addr} {o : HO} (h : H b = some o) (n : noDL o = true) : H' b = some o := by
  obtain ⟨n0, gs, h1, h2, h3, _⟩ := d
  refine k b o h (fun z => ?_) (fun z => ?_) ?_
  · rw [z, h2] at h; cases h; cases n
  · rw [z, h3] at h; cases h; cases n
  · cases o <;> first | rfl | cases n
theorem RowAt.kn {CR p : Addr} {xs : List V} (r : RowAt CR H p xs) (d : DS m c g cs Tb N H) (k : Kn m g H H') : RowAt CR H' p xs := by
  obtain ⟨dx, tp, h1, h2⟩ := r
  exact ⟨dx, tp, k.at d h1 rfl, k.at d h2 rfl⟩
theorem tabsK {H' : Hp} (hT : TabsZ Tb H) {n : Nat} {gs : List Int} (hm : H m = some (dm c g n)) (hg : H g = some (.lst (gs.map V.int))) (h : ∀ b o, H b = some o → b ≠ m → b ≠ g → H' b = some o) : TabsZ Tb H' := tabsZ_of hT m g ⟨_, _, hm⟩ ⟨_, hg⟩ h
theorem draw_ds {lim : Int} {Q : VK} {E : XK} (d : DS m c g cs Tb N H) (hl : 0 < lim) (hl2 : lim < 1000000000) (hN : N < 2 ^ 37) (k : ∀ (r : Int) (H' : Hp), 0 ≤ r → r < lim → DS m c g cs Tb (N + 1) H' → Kn m g H H' → Q (.int r) H') : spDraw [.ref m, .int lim] H Q E := by
  obtain ⟨n, gs, h1, h2, h3, h4, h5, h6, h7, h8⟩ := d
  refine ⟨m, lim, c, g, cs, gs, n, rfl, hl, hl2, h2, h4, h3, h7, h8, by omega, fun r gs' H' r0 r1 a1 a2 a3 a4 => k r H' r0 r1 ⟨n + 1, gs', by omega, a1, a3, a2, tabsK h5 h2 h3 a4, h6, h7, h8⟩ fun b o h n1 n2 _ => a4 b o h n1 n2⟩
end
/-- a drawn row, as a list and as a row -/
def Rw (m g CR p r : Addr) (ws : List Int) (many : Nat) (H : Hp) : Prop := many ≤ 24 ∧ IsRow ws many ∧ H p = some (.lst (ws.map V.int)) ∧ p ≠ m ∧ p ≠ g ∧ RowAt CR H r (ws.map V.int)
theorem Rw.kn {m c g CR p r : Addr} {cs ws : List Int} {Tb : TbN} {N many : Nat} {H H' : Hp} (x : Rw m g CR p r ws many H) (d : DS m c g cs Tb N H) (k : Kn m g H H') : Rw m g CR p r ws many H' := by
  obtain ⟨h1, h2, h3, h4, h5, h6⟩ := x
  exact ⟨h1, h2, k _ _ h3 h4 h5 rfl, h4, h5, h6.kn d k⟩
theorem Rw.same {m g CR p r : Addr} {ws : List Int} {many : Nat} {H H' : Hp} (x : Rw m g CR p r ws many H) (s : Same H H') : Rw m g CR p r ws many H' := by
  obtain ⟨h1, h2, h3, h4, h5, h6⟩ := x
  exact ⟨h1, h2, s _ _ h3, h4, h5, h6.same s⟩
section
variable {P : Program} {w : World} {K : PySem.W.Frag} {mg : Str → Option Value} {base : Heap}
theorem Rp.of {H : Hp} {x : V} {d : PyData} (h : Dp K H x d) (s : Shw d) : Rp K H x d := .dp h s.1 s.2.1 s.2.2.1 s.2.2.2
theorem turn_back {ws : List Int} {i j : Nat} (hij : i ≤ j) (hj : j < ws.length) : turnL (turnL ws i j) i j = ws := by
  have l1 : (ws.take i).length = i := by rw [List.length_take]; omega
  have l2 : ((((ws.drop i).take (j + 1 - i)).map fun z => 0 - z).reverse).length = j + 1 - i := by simp; omega
  have e1 : (turnL ws i j).take i = ws.take i := by
    unfold turnL
    rw [List.append_assoc, List.take_append_of_le_length (by omega), List.take_of_length_le (by omega)]
  have e2 : (turnL ws i j).drop i = (((ws.drop i).take (j + 1 - i)).map fun z => 0 - z).reverse ++ ws.drop (j + 1) := by
    unfold turnL
    rw [List.append_assoc, List.drop_append_of_le_length (by omega), List.drop_of_length_le (by omega), List.nil_append]
  have e3 : (turnL ws i j).drop (j + 1) = ws.drop (j + 1) := by
    rw [show j + 1 = i + (j + 1 - i) by omega, ← List.drop_drop, e2, List.drop_append_of_le_length (by omega), List.drop_of_length_le (by omega), List.nil_append]
    congr 1
    omega
  have e4 : ((turnL ws i j).drop i).take (j + 1 - i) = (((ws.drop i).take (j + 1 - i)).map fun z => 0 - z).reverse := by
    rw [e2, List.take_append_of_le_length (by omega), List.take_of_length_le (by omega)]
  show (turnL ws i j).take i ++ ((((turnL ws i j).drop i).take (j + 1 - i)).map fun z => 0 - z).reverse ++ (turnL ws i j).drop (j + 1) = ws
  rw [e1, e3, e4, ← List.map_reverse, List.reverse_reverse, List.map_map]
  have e5 : ((fun z : Int => 0 - z) ∘ fun z => 0 - z) = id := by funext z; simp
  rw [e5, List.map_id, List.append_assoc]
  conv => rhs; rw [← List.take_append_drop i ws, ← List.take_append_drop (j + 1 - i) (ws.drop i), List.drop_drop]
  rw [show i + (j + 1 - i) = j + 1 by omega]
/-- a turning of a row that is a stretch -/
theorem turned_at {K : PySem.W.Frag} {C : Kd → Addr} {CR r t : Addr} {H : Hp} {ws : List Int} {many x y : Nat} {Q : VK} {E : XK} (hr : RowAt CR H r (ws.map V.int)) (hw : IsRow ws many) (hm : many ≤ 24) (ht : H t = some (.tup [.int (x : Nat), .int (y : Nat)])) (hxy : x ≤ y) (hy : y < many)
    (k : ∀ q H', Same H H' → RowAt CR H' q ((turnL ws x y).map V.int) → Q (.ref q) H') : spPTurned K C CR [.ref r, .ref t] H Q E := by
  refine ⟨r, .ref t, ws, many, some (.int (x : Nat), .int (y : Nat)), rfl, hr, hw, hm, ⟨t, rfl, ht, .int _, .int _⟩, fun i j e hij hj q H' s hq => ?_, fun hb => ?_⟩
  · obtain ⟨rfl, rfl⟩ : x = i ∧ y = j := by
      simp only [Option.some.injEq, Prod.mk.injEq, V.int.injEq] at e
      omega
    exact k q H' s hq
  · have : stOk ((many : Int) - 1) (some (.int (x : Nat), .int (y : Nat))) = true := by
      simp only [stOk, wholeV, Bool.and_eq_true, decide_eq_true_eq]
      omega
    rw [this] at hb
    cases hb
theorem shw_row {ws : List Int} {many : Nat} (h : IsRow ws many) (hm : many ≤ 24) : Shw (.tuple (ws.map PyData.int)) := shw_tup (fun z hz => by
  have := row_mem h z hz
  unfold SmallI
  omega) (by rw [h.len]; omega)
end
end Fab
set_option maxHeartbeats 2000000
namespace Fab
open PySem L2 PySem.FabX
abbrev sRun : Stmt := top 26
local macro_rules | `(tactic| walk_at "s") => `(tactic| simp [tSeq, tAsg, tOp, tUn, tVar, tC, gName, tCons, tNil, tCB, tCall, rI, rI0, rU, tRet, tDrop, tIfS, tNext, tIf, tTest, tNot, tOr, tAnd, tB, L2.start, CMul, CDiv, rIxF, rLenF, rIntF, sq_lst, sq_tup, tLstF, tTupF, gSub, rCatF, rCatTF, rInF, rNe, rEq, tAndV, tOrV, tNotV, tChain, rTupF, tFldF, tRx, tMake, tMeth, tSl, tPart, tNoPart, rSlTF, rSlF, tRevTF, gTup, gCons, gNil, tLstRgF, tRg2])
section
variable {X : Cx} {C : Addr} {bmB : List Value} {B newId initId : String}
/-- X(), an own exception class without an own __init__ -/
theorem pmk_own0 {x : Str} {p pos : Pos} (F : ExcBaseFacts B newId initId bmB) (q : PySem.W.excIn X.K C bmB newId = true) (gC : X.mg x = some (.ref C)) (kC : PySem.W.keepIn X.K (.ref C) = true) (r : Raises X (.ref C)) (hg : Gl X x)
    (hdb : (x == ("__debug__" : Str)) = false := by decide) : PMk X (.Call (.Name x p) [] [] pos) (fun _ H Q => Q (.ref C) none H) := by
  intro pins s σ H Q I h
  refine wpAny_Call_Name_kw (ld_glob I hg gC ?_ hdb)
  refine PySem.W.callWith_K0 I.kIn kC ?_
  show wpAny _ _ (call (.ref C) []) _ _ _
  obtain ⟨bm, N, nm, qn, bs, hdct, sn, sub, ab, col, dd, k0, k1, k2, k3, k5, mN, hC, hN, hni, T⟩ := exc_obj I.kIn q
  refine wpAny_call_exc_subT F T hC hN hni (fun h' e hm => ?_) (by show 0 ≤ sizeLine; exact Nat.zero_le _)
  exact mk_of I hm r h (I.hok.gone hm.new)
end
/-- what the text says of OtherLength -/
structure OthC (K : PySem.W.Frag) (mg : Str → Option Value) (C : Addr) : Prop where
  ex : PySem.W.excIn K C bmV "ValueError.__new__" = true
  mgC : mg "OtherLength" = some (.ref C)
  kC : PySem.W.keepIn K (.ref C) = true
  sub : PySem.W.subIn K (.ref C) (.type "BaseException") = some true
  ty : PySem.W.typeIn K (.ref C) = some (.type "type")
theorem ps_raiseO {X : Cx} {C : Addr} {W : WX} {p pos pos2 : Pos} (hc : X.calm = true) (O : OthC X.K X.mg C) (tk : Takes X W) (hg : Gl X "OtherLength") : PS X (.Raise (some (.Call (.Name "OtherLength" p) [] [] pos)) none pos2) (fun _ σ H => W (.ref C) none σ H) :=
  ps_raise hc tk (pmk_own0 F.excBase_ValueError O.ex O.mgC O.kC (raises_own O.sub O.ty) hg)
section
variable {P : Program} {w : World} {K : PySem.W.Frag} {mg : Str → Option Value} {base : Heap} {C : Kd → Addr} {CR : Addr}
def foldT (ws : List Int) (ps : List (Nat × Nat)) : List Int := ps.foldl (fun w p => turnL w p.1 p.2) ws
theorem foldT_row {many : Nat} : ∀ {ps : List (Nat × Nat)} {ws : List Int}, IsRow ws many → (∀ p ∈ ps, p.1 ≤ p.2 ∧ p.2 < many) → IsRow (foldT ws ps) many
  | [], _, h, _ => h
  | p :: ps, ws, h, k => foldT_row (ps := ps) (h.turn (k p List.mem_cons_self).1) fun q hq => k q (List.mem_cons_of_mem _ hq)
theorem foldT_snoc {ws : List Int} {ps : List (Nat × Nat)} {p : Nat × Nat} : foldT ws (ps ++ [p]) = turnL (foldT ws ps) p.1 p.2 := by
  unfold foldT
  rw [List.foldl_append]
  rfl
theorem PrL.take {H : Hp} {vs : List V} {ps : List (Nat × Nat)} (h : PrL H vs ps) (n : Nat) : PrL H (vs.take n) (ps.take n) := by
  unfold PrL at h ⊢
  induction h generalizing n with
  | nil => simp; exact .nil
  | cons r t ih =>
    cases n with
    | zero => exact .nil
    | succ n => exact .cons r (ih n)
theorem PrL.rev {H : Hp} {vs : List V} {ps : List (Nat × Nat)} (h : PrL H vs ps) : PrL H vs.reverse ps.reverse := by
  unfold PrL at h
  induction h with
  | nil => exact .nil
  | cons r t ih =>
    rw [List.reverse_cons, List.reverse_cons]
    exact PrL.app ih (.cons r .nil)
theorem PrL.get {H : Hp} {vs : List V} {ps : List (Nat × Nat)} (h : PrL H vs ps) {k : Nat} {y : V} (hy : vs[k]? = some y) : ∃ p a, ps[k]? = some p ∧ y = .ref a ∧ H a = some (.tup [.int (p.1 : Nat), .int (p.2 : Nat)]) := by
  unfold PrL at h
  induction h generalizing k with
  | nil => simp at hy
  | @cons v p vs ps r t ih =>
    cases k with
    | zero =>
      obtain ⟨a, e, ha⟩ := r
      simp at hy
      subst hy
      exact ⟨p, a, rfl, e, ha⟩
    | succ k => simpa using ih (k := k) (by simpa using hy)
def spRun (K : PySem.W.Frag) (C : Kd → Addr) (CR : Addr) : Sp := fun vs H Q E => ∃ (r : Addr) (x : V) (ws : List Int) (many : Nat), vs = [.ref r, x] ∧ RowAt CR H r (ws.map V.int) ∧ IsRow ws many ∧ many ≤ 24 ∧
  ((∃ (b : Addr) (o : HO) (xs : List V) (n : Nat) (ps : List (Nat × Nat)), x = .ref b ∧ H b = some o ∧ sq o = some xs ∧ n ≤ xs.length ∧ xs.length ≤ 1000 ∧ ps.length = n ∧ PrL H (xs.take n) ps ∧ (∀ p ∈ ps, p.1 ≤ p.2 ∧ p.2 < many) ∧
    ((n = xs.length ∧ ∀ q H', Same H H' → RowAt CR H' q ((foldT ws ps).map V.int) → Q (.ref q) H') ∨
     (∃ y ov, xs[n]? = some y ∧ (∀ H', Same H H' → StV K H' y ov) ∧ stOk ((many : Int) - 1) ov = false ∧ ∀ d H', Same H H' → H' d = some (.xd [("place", .int (n : Nat))]) → E (.ref (C .turn)) (some d) H'))) ∨
   ((∀ H', Same H H' → ∃ t, TyX K H' x t ∧ PySem.W.kitAny K t [.type "list", .type "tuple"] = some false) ∧ ∀ d H', Same H H' → H' d = some (.xd [("place", .non)]) → E (.ref (C .turn)) (some d) H'))
theorem scRun : FnScope ["row", "turnings", "now", "number", "turning"] ["row", "turnings"] (defScope sRun) := ⟨rfl, rfl, rfl, by decide +kernel, rfl, by decide +kernel, by decide +kernel⟩
theorem ok_run {f fT fP : Addr} {fd fdT fdP : FuncData} (F : Fun K "run" "run" sRun f fd) (B : Blt mg) (R : RowC K mg CR) (XB : ∀ k, hasK k = true → XDs P w K mg base C k) (cTurning : Dn P w K mg base 4 "is_turning" fT fdT ["row", "value"] (spTurning K CR)) (cPT : DnX P w K mg base 5 "turned" fP fdP ["row", "turning"] (spPTurned K C CR)) :
    FnOk P w K mg base (L2.CX P w) 6 f fd ["row", "turnings"] (spRun K C CR) := by
  refine F.okX scRun (fun vs H Q E h => ?_) (fun cdv A outer s H vs Q E hr h => ⟨_, (pss_cons (ps_if (pt_not (pt_val (pe_callB call_isiT (by rfl) B.isinstance (by decide +kernel) (pa_cons (pv 1) (pa_cons (pe_tupF (pa_cons (pe_bltn (v := .ty "list") (by rfl) B.list (by decide +kernel) rfl) (pa_cons (pe_bltn (v := .ty "tuple") (by rfl) B.tuple (by decide +kernel) rfl) pa_nil))) pa_nil))))) (pss_one (ps_raiseX (k := .turn) rfl (XB .turn (by decide)) (hr.mono (by decide)) (takes_of rfl rfl rfl rfl) pe_non (by rfl))) pss_nil)
      (pss_cons (ps_set (i := 2) scRun.nd rfl (by first | exact Or.inl rfl | exact Or.inr rfl) (pv 0))
      (pss_cons (ps_for (passes_of rfl) rfl (pi_enumA (by rfl) B.enumerate (pa_cons (pv 1) pa_nil)) (pg_tup (by rfl) (pgs_cons (pg_name (i := 3) scRun.nd rfl (by first | exact Or.inl rfl | exact Or.inr rfl)) (pgs_cons (pg_name (i := 4) scRun.nd rfl (by first | exact Or.inl rfl | exact Or.inr rfl)) pgs_nil))) (pss_cons (ps_if (pt_not (pt_val (pe_call cTurning.ok (hr.mono (by decide)) rfl cTurning.mgf cTurning.kp cTurning.bi .nil pass0 (pa_cons (pv 2) (pa_cons (pv 4) pa_nil))))) (pss_one (ps_raiseX (k := .turn) rfl (XB .turn (by decide)) (hr.mono (by decide)) (takes_of rfl rfl rfl rfl) (pv 3) (by rfl))) pss_nil)
      (pss_one (ps_set (i := 2) scRun.nd rfl (by first | exact Or.inl rfl | exact Or.inr rfl) (pe_call (E := fun _ _ _ => False) cPT.ok (hr.mono (by decide)) rfl cPT.mgf cPT.kp cPT.bi .nil (passes_call LamX.takes0 (fun _ _ _ _ h => h)) (pa_cons (pv 2) (pa_cons (pv 4) pa_nil)))))))
      (pss_one (ps_ret (pv 2)))))), ?_⟩)
  · obtain ⟨r, x, ws, many, rfl, _⟩ := h
    rfl
  · obtain ⟨r, x, ws, many, rfl, hrow, hr0, hm, h⟩ := h
    refine seq_nx (fun σ' H' => σ' = [some (.ref r), some x, none, none, none] ∧ Same H H' ∧ ∃ (b : Addr) (o : HO) (xs : List V) (n : Nat) (ps : List (Nat × Nat)), x = .ref b ∧ H b = some o ∧ sq o = some xs ∧ n ≤ xs.length ∧ xs.length ≤ 1000 ∧ ps.length = n ∧ PrL H (xs.take n) ps ∧ (∀ p ∈ ps, p.1 ≤ p.2 ∧ p.2 < many) ∧
      ((n = xs.length ∧ ∀ q H', Same H H' → RowAt CR H' q ((foldT ws ps).map V.int) → Q (.ref q) H') ∨
       (∃ y ov, xs[n]? = some y ∧ (∀ H', Same H H' → StV K H' y ov) ∧ stOk ((many : Int) - 1) ov = false ∧ ∀ d H', Same H H' → H' d = some (.xd [("place", .int (n : Nat))]) → E (.ref (C .turn)) (some d) H'))) (fun Z hZ => ?_) ?_
    · walk_at "s"
      refine ⟨sz_le (by decide), view_tup VW.start fun tp0 H1 v1 => ?_⟩
      have hT := v1.tu _ List.mem_cons_self
      have pc : Paired ClsV [.ty "list", .ty "tuple"] [.type "list", .type "tuple"] := .cons (.ty _) (.cons (.ty _) .nil)
      rcases h with ⟨b, o, xs, n, ps, rfl, hb, ho, hn, hx, hps, hP, hk, hc⟩ | ⟨hno, kb⟩
      · obtain ⟨t, ht, hk2⟩ := ty_sq (K := K) (v1.fr _ _ hb) ho
        exact ⟨_, _, _, _, _, true, rfl, hT, pc, ht, hk2, .inr ⟨rfl, hZ _ _ ⟨rfl, v1.fr, b, o, xs, n, ps, rfl, hb, ho, hn, hx, hps, hP, hk, hc⟩⟩⟩
      · obtain ⟨t, ht, hk2⟩ := hno H1 v1.fr
        exact ⟨_, _, _, _, _, false, rfl, hT, pc, ht, hk2, .inl ⟨rfl, fun d hd => kb d _ (fun b o h => (Same.new hd) _ _ (v1.fr _ _ h)) upd_same⟩⟩
    rintro σ1 H1 ⟨rfl, s1, b, o, xs, n, ps, rfl, hb, ho, hn, hx, hps, hP, hk, hc⟩
    have hb1 := s1 _ _ hb
    refine ⟨_, rfl, _, rfl, b, xs, rfl, ?_⟩
    obtain ⟨Pv, ePv⟩ : ∃ Pv : Nat → L2.St → Hp → Prop, Pv = fun i σ H' => ∃ (q : Addr) (u3 u4 : Option V), i ≤ n ∧ σ = [some (.ref r), some (.ref b), some (.ref q), u3, u4] ∧ Same H H' ∧ RowAt CR H' q ((foldT ws (ps.take i)).map V.int) := ⟨_, rfl⟩
    have h0 : Pv 0 [some (.ref r), some (.ref b), some (.ref r), none, none] H1 := by
      rw [ePv]
      exact ⟨r, none, none, Nat.zero_le _, rfl, s1, hrow.same s1⟩
    have sm : ∀ i σ H', Pv i σ H' → H' b = some o := fun i σ H' h => by
      rw [ePv] at h
      obtain ⟨q, u3, u4, _, _, s', _⟩ := h
      exact s' _ _ hb
    refine Or.elim (sq_or (K := K) hb ho) (fun hS => .inl ⟨Same.seq s1 hS, for_it (walk_enum (K := K) (a := b) (xs := xs)) Pv h0 (fun i σ H' _ h => sameSeq hb (sm i σ H' h) hS) ?_ ?_⟩)
      (fun hS => .inr ⟨seqT_same hb1 hb hS, for_it (walk_enumT (K := K) (a := b) (xs := xs)) Pv h0 (fun i σ H' _ h => seqT_same (sm i σ H' h) hb hS) ?_ ?_⟩)
    all_goals first
      | (rintro σ H' hPv
         rw [ePv] at hPv
         obtain ⟨q, u3, u4, hi, rfl, s', hq⟩ := hPv
         rcases hc with ⟨e, kg⟩ | ⟨y, ov, hy, _⟩
         · rw [List.take_of_length_le (by omega)] at hq
           exact ⟨_, rfl, kg q H' s' hq⟩
         · have := (List.getElem?_eq_some_iff.mp hy).1
           omega)
      | skip
    all_goals
      rintro i x σ H' H2 hi hPv ⟨T, y1, y2, rfl, hT, rfl, e1, e2⟩
      rw [ePv] at hPv
      obtain ⟨q, u3, u4, hin, rfl, s', hq⟩ := hPv
      cases e1
      have sT : Same H' (upd H' T (.tup [.int (i : Nat), y2])) := Same.new hT
      have s2 : Same H (upd H' T (.tup [.int (i : Nat), y2])) := fun b o h => sT _ _ (s' _ _ h)
      refine ⟨T, _, rfl, SqT.of upd_same, rfl, _, _, rfl, _, _, rfl, rfl, ?_⟩
      have hx2 : xs[i]? = some y2 := e2
      have hfr := foldT_row (ps := ps.take i) hr0 fun p hp => hk p (List.mem_of_mem_take hp)
      walk_at "s"
      have lf : ((foldT ws (ps.take i)).map V.int).length = many := by rw [List.length_map, hfr.len]
      rcases Nat.lt_or_ge i n with hlt | hge
      · obtain ⟨p, a, hp, rfl, ha⟩ := hP.get (k := i) (y := y2) (by rw [List.getElem?_take_of_lt hlt]; exact hx2)
        have kp := hk p (List.mem_of_getElem? hp)
        refine ⟨q, .ref a, _, some (.int (p.1 : Nat), .int (p.2 : Nat)), rfl, hq.same sT, by omega, ⟨a, rfl, s2 _ _ ha, .int _, .int _⟩, fun H5 s5 => .inr ⟨?_, turned_at ((hq.same sT).same s5) hfr hm (s5 _ _ (s2 _ _ ha)) kp.1 kp.2 fun u H3 s3 hu => ?_⟩⟩
        · rw [lf]
          have : stOk ((many : Int) - 1) (some (.int (p.1 : Nat), .int (p.2 : Nat))) = true := by
            simp only [stOk, wholeV, Bool.and_eq_true, decide_eq_true_eq]
            omega
          rw [this]
        · rw [ePv]
          refine ⟨u, _, _, by omega, rfl, fun b o h => s3 _ _ (s5 _ _ (s2 _ _ h)), ?_⟩
          rw [List.take_succ, hp]
          show RowAt CR H3 u ((foldT ws (ps.take i ++ [p])).map V.int)
          rw [foldT_snoc]
          exact hu
      · have ein : i = n := by omega
        subst ein
        rcases hc with ⟨e, _⟩ | ⟨y, ov, hy, hst, hno, kb⟩
        · omega
        · have ey : y = y2 := by
            rw [hx2] at hy
            exact (Option.some.inj hy).symm
          subst ey
          refine ⟨q, y, _, ov, rfl, hq.same sT, by omega, hst _ s2, fun H5 s5 => .inl ⟨by rw [lf, hno], fun d hd => kb d _ (fun b o h => (Same.new hd) _ _ (s5 _ _ (s2 _ _ h))) upd_same⟩⟩
end
theorem PrL.extN {H H' : Hp} {vs : List V} {ps : List (Nat × Nat)} (h : PrL H vs ps) (e : LamX.ExtN H H') : PrL H' vs ps := h.keep fun a xs q => e _ _ q (noTbl_ne rfl)
theorem DS.put {m c g s : Addr} {cs : List Int} {Tb : TbN} {N : Nat} {H : Hp} {xs ys : List V} (d : DS m c g cs Tb N H) (hs : H s = some (.lst xs)) (sg : s ≠ g) (sc : s ≠ c) : DS m c g cs Tb N (upd H s (.lst ys)) := by
  obtain ⟨n, gs, h1, h2, h3, h4, h5, h6, h7, h8⟩ := d
  exact ⟨n, gs, h1, by rw [upd_ne (ne_of h2 hs (by unfold dm; intro z; cases z))]; exact h2, by rw [upd_ne (Ne.symm sg)]; exact h3, by rw [upd_ne (Ne.symm sc)]; exact h4, tabs_put h5 hs, h6, h7, h8⟩
theorem RowAt.put {CR p s : Addr} {H : Hp} {ws xs ys : List V} (r : RowAt CR H p ws) (hs : H s = some (.lst xs)) : RowAt CR (upd H s (.lst ys)) p ws := by
  obtain ⟨dx, tp, h1, h2⟩ := r
  exact ⟨dx, tp, by rw [upd_ne (ne_of h1 hs (by intro z; cases z))]; exact h1, by rw [upd_ne (ne_of h2 hs (by intro z; cases z))]; exact h2⟩
theorem Rw.put {m g CR p r s : Addr} {ws : List Int} {many : Nat} {H : Hp} {xs ys : List V} (x : Rw m g CR p r ws many H) (hs : H s = some (.lst xs)) (sp : s ≠ p) : Rw m g CR p r ws many (upd H s (.lst ys)) := by
  obtain ⟨h1, h2, h3, h4, h5, h6⟩ := x
  exact ⟨h1, h2, by rw [upd_ne (Ne.symm sp)]; exact h3, h4, h5, h6.put hs⟩
theorem PrL.put {H : Hp} {vs xs ys : List V} {ps : List (Nat × Nat)} {s : Addr} (h : PrL H vs ps) (hs : H s = some (.lst xs)) : PrL (upd H s (.lst ys)) vs ps := h.keep fun a zs q => by
  rw [upd_ne (ne_of q hs (by intro z; cases z))]
  exact q
theorem PrL.kn {m c g : Addr} {cs : List Int} {Tb : TbN} {N : Nat} {H H' : Hp} {vs : List V} {ps : List (Nat × Nat)} (h : PrL H vs ps) (d : DS m c g cs Tb N H) (k : Kn m g H H') : PrL H' vs ps := h.keep fun a xs q => k.at d q rfl
end Fab
set_option maxHeartbeats 2000000
namespace Fab
open PySem L2 PySem.FabX
open PyProof.Rows (envOfC)
local macro_rules | `(tactic| walk_at "s") => `(tactic| simp [tSeq, tAsg, tOp, tUn, tVar, tC, gName, tCons, tNil, tCB, tCall, rI, rI0, rU, tRet, tDrop, tIfS, tNext, tIf, tTest, tNot, tOr, tAnd, tB, L2.start, CMul, CDiv, rIxF, rLenF, rIntF, sq_lst, sq_tup, tLstF, tTupF, gSub, rCatF, rCatTF, rInF, rNe, rEq, tAndV, tOrV, tNotV, tChain, rTupF, rListF, tFldF, tRx, tMake, tMeth, tSl, tPart, tNoPart, rSlTF, rSlF, tRevTF, tRevF, gTup, gCons, gNil, tLM, rSetF])
end Fab
set_option maxHeartbeats 4000000
namespace Fab
open PySem L2 PyProof.Rows
mutual
/-- a value is such a key -/
inductive NK (H : Hp) : V → NestedKey → Prop
  | int (i : Int) : NK H (.int i) (.num i)
  | tup {a : Addr} {xs : List V} {ks : List NestedKey} : H a = some (.tup xs) → NKs H xs ks → NK H (.ref a) (.tup ks)
inductive NKs (H : Hp) : List V → List NestedKey → Prop
  | nil : NKs H [] []
  | cons {v : V} {vs : List V} {k : NestedKey} {ks : List NestedKey} : NK H v k → NKs H vs ks → NKs H (v :: vs) (k :: ks)
end
mutual
theorem NK.mono {H H' : Hp} (h : ∀ b xs, H b = some (.tup xs) → H' b = some (.tup xs)) : ∀ (k : NestedKey) (v : V), NK H v k → NK H' v k
  | .none, _, x => by cases x
  | .text _, _, x => by cases x
  | .num i, _, x => by cases x; exact .int i
  | .tup ks, _, x => by
    cases x with
    | tup e r => exact .tup (h _ _ e) (NKs.mono h ks _ r)
theorem NKs.mono {H H' : Hp} (h : ∀ b xs, H b = some (.tup xs) → H' b = some (.tup xs)) : ∀ (ks : List NestedKey) (vs : List V), NKs H vs ks → NKs H' vs ks
  | [], _, x => by cases x; exact .nil
  | k :: ks, _, x => by
    cases x with
    | cons a b => exact .cons (NK.mono h k _ a) (NKs.mono h ks _ b)
end
abbrev EnN := NestedKey × Addr × V
def EnNR (p : EnN) (q : NestedKey × Addr × Value) : Prop := p.1 = q.1 ∧ p.2.1 = q.2.1 ∧ RelV p.2.2 q.2.2
def enNE (w : World) (x : NestedKey × Addr × Value) : DictEntry := ⟨x.1.hash w, .ref x.2.1, x.2.2⟩
def DnAt (w : World) (d : Addr) (xs : List EnN) (h : Heap) : Prop := xs.length ≤ sizeLine ∧ (d == sysModules) = false ∧ ∃ ys : List (NestedKey × Addr × Value), Paired EnNR xs ys ∧ ∃ o es ep, h.get? d = some o ∧ o.ExactDict ∧ o.data = .dict es ep ∧ es.toList = ys.map (enNE w) ∧ (ys.map (·.1)).Nodup
/-- the dict at d -/
def dnO (w : World) (d : Addr) (xs : List EnN) : HO := .ext (DnAt w d xs)
/-- the keys stand -/
def KeysN (H : Hp) (xs : List EnN) : Prop := ∀ x ∈ xs, NK H (.ref x.2.1) x.1 ∧ x.1.depth ≤ 8
theorem KeysN.mono {H H' : Hp} {xs : List EnN} (h : KeysN H xs) (k : ∀ b ys, H b = some (.tup ys) → H' b = some (.tup ys)) : KeysN H' xs := fun x hx => ⟨NK.mono k _ _ (h x hx).1, (h x hx).2⟩
def getN (xs : List EnN) (k : NestedKey) : Option V := (xs.find? fun x => decide (x.1 = k)).map (·.2.2)
def putN (xs : List EnN) (k : NestedKey) (a : Addr) (v : V) : List EnN := if (getN xs k).isSome then xs.map (fun x => if x.1 = k then (x.1, x.2.1, v) else x) else xs ++ [(k, a, v)]
theorem putN_keys {H : Hp} {xs : List EnN} {k : NestedKey} {a : Addr} {v : V} (h : KeysN H xs) (hk : NK H (.ref a) k) (hd : k.depth ≤ 8) : KeysN H (putN xs k a v) := by
  unfold putN
  split
  · intro x hx
    obtain ⟨y, hy, rfl⟩ := List.mem_map.mp hx
    have := h y hy
    split <;> exact this
  · intro x hx
    rcases List.mem_append.mp hx with z | z
    · exact h x z
    · rw [List.mem_singleton] at z
      subst z
      exact ⟨hk, hd⟩
end Fab
set_option maxHeartbeats 2000000
set_option maxHeartbeats 2000000
namespace Fab
open PySem L2 PyProof.Rows
mutual
theorem NK.dp {K : PySem.W.Frag} {H : Hp} : ∀ (k : NestedKey) (v : V), NK H v k → Dp K H v k.data
  | .none, _, x => by cases x
  | .text _, _, x => by cases x
  | .num i, _, x => by cases x; rw [NestedKey.data]; exact .int i
  | .tup ks, _, x => by
    cases x with
    | tup e r => rw [NestedKey.data]; exact .tup (SqT.of e) (NKs.dp ks _ r)
theorem NKs.dp {K : PySem.W.Frag} {H : Hp} : ∀ (ks : List NestedKey) (vs : List V), NKs H vs ks → DpAll K H vs (NestedKey.datas ks)
  | [], _, x => by cases x; rw [NestedKey.datas]; exact .nil
  | k :: ks, _, x => by
    cases x with
    | cons a b => rw [NestedKey.datas]; exact .cons (NK.dp k _ a) (NKs.dp ks _ b)
end
theorem NKs.len {H : Hp} {vs : List V} {ks : List NestedKey} (h : NKs H vs ks) : vs.length = ks.length := by
  induction ks generalizing vs with
  | nil => cases h; rfl
  | cons k ks ih => cases h with | cons a b => rw [List.length_cons, List.length_cons, ih b]
theorem NKs.get {H : Hp} {vs : List V} {ks : List NestedKey} (h : NKs H vs ks) {i : Nat} {v : V} (e : vs[i]? = some v) : ∃ k, ks[i]? = some k ∧ NK H v k := by
  induction ks generalizing vs i with
  | nil => cases h; simp at e
  | cons k ks ih =>
    cases h with
    | cons a b =>
      cases i with
      | zero => simp at e; subst e; exact ⟨k, rfl, a⟩
      | succ j => simp at e; simpa using ih b e
theorem NKs.at_ {H : Hp} {vs : List V} {ks : List NestedKey} (h : NKs H vs ks) {i : Nat} {k : NestedKey} (e : ks[i]? = some k) : ∃ v, vs[i]? = some v ∧ NK H v k := by
  have l := h.len
  have li : i < ks.length := (List.getElem?_eq_some_iff.mp e).1
  obtain ⟨k2, e2, n⟩ := h.get (i := i) (v := vs[i]) (List.getElem?_eq_getElem (by omega))
  rw [e] at e2
  cases e2
  exact ⟨_, List.getElem?_eq_getElem (by omega), n⟩
theorem NKs.app {H : Hp} {vs us : List V} {ks js : List NestedKey} (h : NKs H vs ks) (g : NKs H us js) : NKs H (vs ++ us) (ks ++ js) := by
  induction ks generalizing vs with
  | nil => cases h; exact g
  | cons k ks ih => cases h with | cons a b => exact .cons a (ih b)
theorem NKs.same {H H' : Hp} {vs : List V} {ks : List NestedKey} (h : NKs H vs ks) (s : Same H H') : NKs H' vs ks := NKs.mono (fun b xs e => s b _ e) _ _ h
theorem NK.same {H H' : Hp} {v : V} {k : NestedKey} (h : NK H v k) (s : Same H H') : NK H' v k := NK.mono (fun b xs e => s b _ e) _ _ h
theorem NKs.take {H : Hp} {vs : List V} {ks : List NestedKey} (h : NKs H vs ks) (n : Nat) : NKs H (vs.take n) (ks.take n) := by
  induction n generalizing vs ks with
  | zero => exact .nil
  | succ n ih =>
    cases ks with
    | nil => cases h; exact .nil
    | cons k ks => cases h with | cons a b => exact .cons a (ih b)
theorem NKs.drop {H : Hp} {vs : List V} {ks : List NestedKey} (h : NKs H vs ks) (n : Nat) : NKs H (vs.drop n) (ks.drop n) := by
  induction n generalizing vs ks with
  | zero => exact h
  | succ n ih =>
    cases ks with
    | nil => cases h; exact .nil
    | cons k ks => cases h with | cons a b => exact ih b
/-- a store that changes no tuple -/
theorem NK.put {H : Hp} {v : V} {k : NestedKey} {a : Addr} {o o2 : HO} (h : NK H v k) (ha : H a = some o) (n : ∀ xs, o ≠ .tup xs) : NK (upd H a o2) v k := NK.mono (fun b xs e => by rw [upd_ne (fun z => by rw [z, ha] at e; cases e; exact n _ rfl)]; exact e) _ _ h
theorem NKs.put {H : Hp} {vs : List V} {ks : List NestedKey} {a : Addr} {o o2 : HO} (h : NKs H vs ks) (ha : H a = some o) (n : ∀ xs, o ≠ .tup xs) : NKs (upd H a o2) vs ks := NKs.mono (fun b xs e => by rw [upd_ne (fun z => by rw [z, ha] at e; cases e; exact n _ rfl)]; exact e) _ _ h
theorem KeysN.same {H H' : Hp} {xs : List EnN} (h : KeysN H xs) (s : Same H H') : KeysN H' xs := h.mono fun b ys e => s b _ e
theorem KeysN.put {H : Hp} {xs : List EnN} {a : Addr} {o o2 : HO} (h : KeysN H xs) (ha : H a = some o) (n : ∀ ys, o ≠ .tup ys) : KeysN (upd H a o2) xs := h.mono fun b ys e => by rw [upd_ne (fun z => by rw [z, ha] at e; cases e; exact n _ rfl)]; exact e
/-- a key's value is an address where it is a tuple -/
theorem NK.ref {H : Hp} {v : V} {ks : List NestedKey} (h : NK H v (.tup ks)) : ∃ a xs, v = .ref a ∧ H a = some (.tup xs) ∧ NKs H xs ks := by
  cases h with
  | tup e r => exact ⟨_, _, rfl, e, r⟩
theorem getN_at {xs : List EnN} (nd : (xs.map (·.1)).Nodup) {i : Nat} {x : EnN} (h : xs[i]? = some x) : getN xs x.1 = some x.2.2 := by
  induction xs generalizing i with
  | nil => simp at h
  | cons y ys ih =>
    rw [List.map_cons, List.nodup_cons] at nd
    cases i with
    | zero =>
      simp at h
      subst h
      simp [getN, List.find?_cons]
    | succ j =>
      simp at h
      have hm : x.1 ∈ ys.map (·.1) := List.mem_map.mpr ⟨x, List.mem_of_getElem? h, rfl⟩
      have ne : ¬ y.1 = x.1 := fun e => nd.1 (e ▸ hm)
      have := ih nd.2 h
      simpa [getN, List.find?_cons, ne] using this
theorem getN_none {xs : List EnN} {k : NestedKey} : getN xs k = none ↔ k ∉ xs.map (·.1) := by
  unfold getN
  rw [Option.map_eq_none_iff, List.find?_eq_none]
  constructor
  · intro h hm
    obtain ⟨x, hx, rfl⟩ := List.mem_map.mp hm
    exact h x hx (decide_eq_true rfl)
  · intro h x hx e
    exact h (List.mem_map.mpr ⟨x, hx, of_decide_eq_true e⟩)
theorem putN_new {xs : List EnN} {k : NestedKey} {a : Addr} {v : V} (h : k ∉ xs.map (·.1)) : putN xs k a v = xs ++ [(k, a, v)] := by
  unfold putN
  rw [if_neg]
  rw [getN_none.mpr h]
  simp
end Fab
namespace Fab
open PySem L2 PyProof.Rows
structure DcL (H : Hp) (ks : List NestedKey) (ls : List Addr) (xs : List EnN) : Prop where
  keys : KeysN H xs
  fst : xs.map (·.1) = ks
  snd : xs.map (·.2.2) = ls.map V.ref
  nd : ks.Nodup
  ld : ls.Nodup
section
variable {H H' : Hp} {ks : List NestedKey} {ls : List Addr} {xs : List EnN}
theorem DcL.len (h : DcL H ks ls xs) : xs.length = ks.length ∧ ls.length = ks.length := by
  have l1 := congrArg List.length h.fst
  have l2 := congrArg List.length h.snd
  rw [List.length_map] at l1 l2
  rw [List.length_map] at l2
  omega
theorem DcL.mono (h : DcL H ks ls xs) (m : ∀ b ys, H b = some (.tup ys) → H' b = some (.tup ys)) : DcL H' ks ls xs := ⟨h.keys.mono m, h.fst, h.snd, h.nd, h.ld⟩
theorem DcL.same (h : DcL H ks ls xs) (s : Same H H') : DcL H' ks ls xs := h.mono fun b ys e => s b _ e
theorem DcL.put (h : DcL H ks ls xs) {a : Addr} {o o2 : HO} (ha : H a = some o) (n : ∀ ys, o ≠ .tup ys) : DcL (upd H a o2) ks ls xs := ⟨h.keys.put ha n, h.fst, h.snd, h.nd, h.ld⟩
theorem DcL.get (h : DcL H ks ls xs) {i : Nat} {k : NestedKey} (e : ks[i]? = some k) : ∃ l, ls[i]? = some l ∧ getN xs k = some (.ref l) := by
  have l := h.len
  have hi : i < ks.length := (List.getElem?_eq_some_iff.mp e).1
  have e1 : xs[i]? = some xs[i] := List.getElem?_eq_getElem (by omega)
  have e2 := getN_at (by rw [h.fst]; exact h.nd) e1
  have e3 : (xs.map (·.1))[i]? = some k := by rw [h.fst, e]
  rw [List.getElem?_map, e1] at e3
  have e4 : (xs.map (·.2.2))[i]? = (ls.map V.ref)[i]? := by rw [h.snd]
  rw [List.getElem?_map, e1, List.getElem?_map, List.getElem?_eq_getElem (show i < ls.length by omega)] at e4
  refine ⟨ls[i], List.getElem?_eq_getElem (by omega), ?_⟩
  have e5 : xs[i].1 = k := Option.some.inj e3
  have e6 : xs[i].2.2 = V.ref ls[i] := Option.some.inj e4
  rw [e5, e6] at e2
  exact e2
theorem DcL.at_ (h : DcL H ks ls xs) {i : Nat} {x : EnN} (e : xs[i]? = some x) : ks[i]? = some x.1 ∧ NK H (.ref x.2.1) x.1 ∧ x.1.depth ≤ 8 ∧ ∃ l, ls[i]? = some l ∧ x.2.2 = .ref l := by
  have l := h.len
  have hi : i < xs.length := (List.getElem?_eq_some_iff.mp e).1
  have k := h.keys x (List.mem_of_getElem? e)
  refine ⟨by rw [← h.fst, List.getElem?_map, e]; rfl, k.1, k.2, ls[i], List.getElem?_eq_getElem (by omega), ?_⟩
  have e4 : (xs.map (·.2.2))[i]? = (ls.map V.ref)[i]? := by rw [h.snd]
  rw [List.getElem?_map, e, List.getElem?_map, List.getElem?_eq_getElem (show i < ls.length by omega)] at e4
  exact Option.some.inj e4
theorem DcL.snoc (h : DcL H ks ls xs) {k : NestedKey} {q l : Addr} (hk : NK H (.ref q) k) (hd : k.depth ≤ 8) (nk : k ∉ ks) (nl : l ∉ ls) : putN xs k q (.ref l) = xs ++ [(k, q, .ref l)] ∧ DcL H (ks ++ [k]) (ls ++ [l]) (xs ++ [(k, q, .ref l)]) := by
  have e := putN_new (a := q) (v := V.ref l) (show k ∉ xs.map (·.1) by rw [h.fst]; exact nk)
  refine ⟨e, ⟨by rw [← e]; exact putN_keys h.keys hk hd, by rw [List.map_append, h.fst]; rfl, by rw [List.map_append, List.map_append, h.snd]; rfl, ?_, ?_⟩⟩
  · rw [List.nodup_append]
    exact ⟨h.nd, by simp, fun a ha b hb e => nk (by rw [List.mem_singleton] at hb; rw [← hb, ← e]; exact ha)⟩
  · rw [List.nodup_append]
    exact ⟨h.ld, by simp, fun a ha b hb e => nl (by rw [List.mem_singleton] at hb; rw [← hb, ← e]; exact ha)⟩
end
end Fab
namespace Fab
open PySem L2 PyProof.Rows
def SmX (d : Addr) (H H' : Hp) : Prop := ∀ a u, a ≠ d → H a = some u → H' a = some u
section
variable {H A B : Hp} {d a : Addr} {o : HO}
theorem SmX.start (h : H d = some o) {o2 : HO} : SmX d H (upd H d o2) := fun a u n e => by rw [upd_ne n]; exact e
theorem SmX.tr (h : SmX d H A) (s : Same A B) : SmX d H B := fun a u n e => s _ _ (h a u n e)
theorem SmX.of (s : Same H A) : SmX d H A := fun a u _ e => s _ _ e
theorem SmX.seq (h : SmX d H A) (s : SmX d A B) : SmX d H B := fun a u n e => s _ _ n (h a u n e)
theorem SmX.upd (h : SmX d H A) (n : H a = none) : SmX d H (upd A a o) := fun b u nb e => by
  rw [upd_ne (fun z => by rw [z, n] at e; cases e)]
  exact h _ _ nb e
theorem SmX.tup (h : SmX d H A) {w : World} {xs : List EnN} (hd : H d = some (dnO w d xs)) : ∀ b ys, H b = some (.tup ys) → A b = some (.tup ys) := fun b ys e => h _ _ (fun z => by rw [z, hd] at e; cases e) e
theorem SmX.lst (h : SmX d H A) {w : World} {xs : List EnN} (hd : H d = some (dnO w d xs)) : ∀ b ys, H b = some (.lst ys) → A b = some (.lst ys) := fun b ys e => h _ _ (fun z => by rw [z, hd] at e; cases e) e
end
end Fab
set_option maxHeartbeats 2000000
namespace Fab
open PySem L2 PySem.FabX
abbrev sMI : Stmt := inClass (top 58) 0
abbrev sBI : Stmt := inClass (top 59) 0
abbrev sBLen : Stmt := inClass (top 59) 1
abbrev sBRow : Stmt := inClass (top 59) 3
abbrev sBTs : Stmt := inClass (top 59) 4
abbrev sBDo : Stmt := inClass (top 59) 5
abbrev sBUndo : Stmt := inClass (top 59) 7
abbrev sBRedo : Stmt := inClass (top 59) 8
local macro_rules | `(tactic| walk_at "s") => `(tactic| simp [tPar, tProp, tFldF, sFldF, putF, tSeq, tAsg, tOp, tUn, tVar, tC, gName, tCons, tNil, tCB, tCall, rI, rI0, rU, tRet, tDrop, tIfS, tNext, tIf, tTest, tNot, tOr, tAnd, tB, L2.start, CMul, CDiv, rIxF, rLenF, rIntF, sq_lst, sq_tup, tLstF, tTupF, gSub, rCatF, rCatTF, rInF, rNe, rEq, tAndV, tOrV, tNotV, tChain, rTupF, rListF, tFldF, tRx, tMake, tMeth, tSl, tPart, tNoPart, rSlTF, rSlF, tRevTF, gTup, gCons, gNil, rIsB, rNotB, tLM, rAppF, tLstRgF, tRg2, tLstRg, iRng1, iRng2])
/-- NothingLeft, as it is raised -/
structure NotC (K : PySem.W.Frag) (mg : Str → Option Value) (C : Addr) : Prop where
  ex : PySem.W.excIn K C bmV "ValueError.__new__" = true
  mgC : mg "NothingLeft" = some (.ref C)
  kC : PySem.W.keepIn K (.ref C) = true
  sub : PySem.W.subIn K (.ref C) (.type "BaseException") = some true
  ty : PySem.W.typeIn K (.ref C) = some (.type "type")
theorem ps_raiseN {X : Cx} {C : Addr} {W : WX} {p pos pos2 : Pos} (hc : X.calm = true) (O : NotC X.K X.mg C) (tk : Takes X W) (hg : Gl X "NothingLeft") : PS X (.Raise (some (.Call (.Name "NothingLeft" p) [] [] pos)) none pos2) (fun _ σ H => W (.ref C) none σ H) :=
  ps_raise hc tk (pmk_own0 F.excBase_ValueError O.ex O.mgC O.kC (raises_own O.sub O.ty) hg)
/-- what the text says of Bench and Moment -/
structure BenC (K : PySem.W.Frag) (mg : Str → Option Value) (CR CB CM : Addr) : Prop where
  cl : Cls K CB
  nF : NoAttr K CB "first"
  nG : NoAttr K CB "goal"
  nM : NoAttr K CB "moment"
  clM : Cls K CM
  nH : NoAttr K CM "here"
  nD : NoAttr K CM "done"
  nU : NoAttr K CM "undone"
  mgB : mg "Bench" = some (.ref CB)
  mgM : mg "Moment" = some (.ref CM)
  bm : CB ≠ CM
  br : CB ≠ CR
/-- what the text says of Bench, where it is compared -/
structure BenQ (K : PySem.W.Frag) (CB : Addr) : Prop where
  hc : PySem.W.findIn K (.ref CB) "__class__" = some (some (.builtin "object.__class__"))
  hm : PySem.W.mroIn K CB (.type "object") = some true
  ks : PySem.W.kitOne K (.ref CB) (.ref CB) = some true
/-- a moment as it stands -/
def BMom (CM : Addr) (H : Hp) (mo : Addr) (x y z : V) : Prop := ∃ dm, H mo = some (.ins CM dm [("here", x), ("done", y), ("undone", z)])
/-- a bench as it stands -/
def BenAt (CR CB CM : Addr) (H : Hp) (b r0 r1 : Addr) (ws : List Int) (ps us : List (Nat × Nat)) : Prop := ∃ (dx mo h td tu : Addr) (zs ys : List V), H b = some (.ins CB dx [("first", .ref r0), ("goal", .ref r1), ("moment", .ref mo)]) ∧ BMom CM H mo (.ref h) (.ref td) (.ref tu) ∧
  RowAt CR H h (ws.map V.int) ∧ H td = some (.tup zs) ∧ PrL H zs ps ∧ H tu = some (.tup ys) ∧ PrL H ys us
/-- what the text says of Bench beside other types -/
structure BenT (K : PySem.W.Frag) (CR CB : Addr) : Prop where
  kr : PySem.W.kitOne K (.ref CR) (.ref CB) = some false
  rk : PySem.W.kitOne K (.ref CB) (.ref CR) = some false
  nfR : PySem.W.notFirst K CB (.ref CR) = true
  nfC : PySem.W.notFirst K CR (.ref CB) = true
  kt : ∀ T ∈ (["NoneType", "bool", "int", "str", "list", "dict", "tuple"] : List String), PySem.W.kitOne K (.type T) (.ref CB) = some false ∧ PySem.W.notFirst K CB (.type T) = true ∧ PySem.W.subIn K (.ref CB) (.type T) = some false
theorem rowAt_updB {CR CB : Addr} {H : Hp} {r b dx : Addr} {xs : List V} {fs : List (Str × V)} {o : HO} (h : RowAt CR H r xs) (hb : H b = some (.ins CB dx fs)) (ne : CB ≠ CR) : RowAt CR (upd H b o) r xs := by
  obtain ⟨d, tp, h1, h2⟩ := h
  exact ⟨d, tp, by rw [upd_ne (fun z => by rw [z, hb] at h1; cases h1; exact ne rfl)]; exact h1, by rw [upd_ne (fun z => by rw [z, hb] at h2; cases h2)]; exact h2⟩
theorem tup_updB {CB : Addr} {H : Hp} {t b dx : Addr} {xs : List V} {fs : List (Str × V)} {o : HO} (h : H t = some (.tup xs)) (hb : H b = some (.ins CB dx fs)) : upd H b o t = some (.tup xs) := by rw [upd_ne (fun z => by rw [z, hb] at h; cases h)]; exact h
theorem prl_updB {CB : Addr} {H : Hp} {b dx : Addr} {zs : List V} {ps : List (Nat × Nat)} {fs : List (Str × V)} {o : HO} (h : PrL H zs ps) (hb : H b = some (.ins CB dx fs)) : PrL (upd H b o) zs ps := Paired.mapP h fun _ _ ⟨a, e, ha⟩ => ⟨a, e, tup_updB ha hb⟩
/-- a bench whose moment is another -/
theorem ben_put {CR CB CM : Addr} {H : Hp} {b r0 r1 dx mo h td tu : Addr} {fs : List (Str × V)} {zs ys : List V} {ws : List Int} {ps us : List (Nat × Nat)} (bm : CB ≠ CM) (br : CB ≠ CR) (hb : H b = some (.ins CB dx fs)) (hm : BMom CM H mo (.ref h) (.ref td) (.ref tu))
    (h3 : RowAt CR H h (ws.map V.int)) (h4 : H td = some (.tup zs)) (h5 : PrL H zs ps) (h6 : H tu = some (.tup ys)) (h7 : PrL H ys us) :
    BenAt CR CB CM (upd H b (.ins CB dx [("first", .ref r0), ("goal", .ref r1), ("moment", .ref mo)])) b r0 r1 ws ps us := by
  obtain ⟨dm, h2⟩ := hm
  exact ⟨dx, mo, h, td, tu, zs, ys, upd_same, ⟨dm, by rw [upd_ne (fun z => by rw [z, hb] at h2; cases h2; exact bm rfl)]; exact h2⟩, rowAt_updB h3 hb br, tup_updB h4 hb, prl_updB h5 hb, tup_updB h6 hb, prl_updB h7 hb⟩
theorem prl_snoc_inv {H : Hp} : ∀ {qs : List (Nat × Nat)} {p : Nat × Nat} {zs : List V}, PrL H zs (qs ++ [p]) → ∃ zs' t, zs = zs' ++ [.ref t] ∧ PrL H zs' qs ∧ H t = some (.tup [.int (p.1 : Nat), .int (p.2 : Nat)])
  | [], p, zs, h => by
    unfold PrL at h
    cases h with
    | cons e r =>
      cases r
      obtain ⟨a, rfl, ha⟩ := e
      exact ⟨[], a, rfl, .nil, ha⟩
  | q :: qs, p, zs, h => by
    unfold PrL at h
    cases h with
    | cons e r =>
      obtain ⟨zs', t, rfl, h1, h2⟩ := prl_snoc_inv (qs := qs) r
      exact ⟨_ :: zs', t, rfl, .cons e h1, h2⟩
theorem at_last {zs : List V} {v : V} : atI (zs ++ [v]) (-1) = some v := by
  unfold atI ixN
  rw [if_neg (by decide), if_pos (by rw [List.length_append]; simp; omega)]
  simp only [List.length_append, List.length_cons, List.length_nil]
  show (zs ++ [v])[(-1 + ((zs.length + (0 + 1) : Nat) : Int)).toNat]? = some v
  rw [show (-1 + ((zs.length + (0 + 1) : Nat) : Int)).toNat = zs.length by omega]
  simp
theorem cut_last {zs : List V} {v : V} : cutV (zs ++ [v]) none (some (-1)) = zs := by
  unfold cutV
  have e : HT.sIx (zs ++ [v]).length (zs ++ [v]).length (some (-1)) = zs.length := by
    unfold HT.sIx
    simp
    omega
  rw [e, HT.sIx_none]
  simp
theorem BenAt.same {CR CB CM : Addr} {H H' : Hp} {b r0 r1 : Addr} {ws : List Int} {ps us : List (Nat × Nat)} (h : BenAt CR CB CM H b r0 r1 ws ps us) (s : Same H H') : BenAt CR CB CM H' b r0 r1 ws ps us := by
  obtain ⟨dx, mo, h, td, tu, zs, ys, h1, ⟨dm, h2⟩, h3, h4, h5, h6, h7⟩ := h
  exact ⟨dx, mo, h, td, tu, zs, ys, s _ _ h1, ⟨dm, s _ _ h2⟩, h3.same s, s _ _ h4, h5.same s, s _ _ h6, h7.same s⟩
section
variable {P : Program} {w : World} {K : PySem.W.Frag} {mg : Str → Option Value} {base : Heap} {C : Kd → Addr} {CR CB CM : Addr}
def spMI (CM : Addr) : Sp := fun vs H Q _ => ∃ (p dx : Addr) (x y z : V), vs = [.ref p, x, y, z] ∧ H p = some (.ins CM dx []) ∧ ∀ H', (∀ b u, H b = some u → b ≠ p → H' b = some u) → H' p = some (.ins CM dx [("here", x), ("done", y), ("undone", z)]) → Q .non H'
theorem scMI : FnScope ["self", "here", "done", "undone"] ["self", "here", "done", "undone"] (defScope sMI) := ⟨rfl, rfl, rfl, by decide +kernel, rfl, by decide +kernel, by decide +kernel⟩
theorem ok_mi {f : Addr} {fd : FuncData} (F : Fun K "__init__" "Moment.__init__" sMI f fd) (N : BenC K mg CR CB CM) : FnOk P w K mg base CX0 1 f fd ["self", "here", "done", "undone"] (spMI CM) := by
  refine F.ok scMI (fun vs H Q E h => ?_) (fun cdv A outer s H vs Q E hr h => ⟨_, (pss_cons (ps_fldF (pv 0) (pv 1))
      (pss_cons (ps_fldF (pv 0) (pv 2))
      (pss_one (ps_fldF (pv 0) (pv 3))))), ?_⟩)
  · obtain ⟨p, dx, x, y, z, rfl, _⟩ := h
    rfl
  · obtain ⟨p, dx, x, y, z, rfl, hp, k⟩ := h
    refine ⟨_, rfl, _, rfl, p, rfl, CM, dx, [], hp, N.clM, N.nH, by decide, ?_⟩
    refine ⟨_, rfl, _, rfl, p, rfl, CM, dx, _, upd_same, N.clM, N.nD, (show 1 < 1000 by decide), ?_⟩
    refine ⟨_, rfl, _, rfl, p, rfl, CM, dx, _, upd_same, N.clM, N.nU, (show 2 < 1000 by decide), ?_⟩
    refine k _ (fun b u hb hne => ?_) ?_
    · rw [upd_ne hne, upd_ne hne, upd_ne hne]
      exact hb
    · rw [upd_same]
      rfl
/-- a moment that is made -/
theorem mom_at {H : Hp} {x y z : V} {Q : Addr → Hp → Prop} {E : XK} (k : ∀ p H', Same H H' → H p = none → BMom CM H' p x y z → Q p H') :
    ∀ p dx, H p = none → H dx = none → dx ≠ p → spMI CM [.ref p, x, y, z] (upd (upd H dx (.own p)) p (.ins CM dx [])) (fun v H2 => v = .non ∧ Q p H2) E := by
  intro p dx np ndx nex
  have e1 : Same H (upd (upd H dx (.own p)) p (.ins CM dx [])) := fun c u hc => by
    rw [upd_ne (ne_of_none hc np), upd_ne (ne_of_none hc ndx)]
    exact hc
  exact ⟨p, dx, x, y, z, rfl, upd_same, fun H' fr hp => ⟨rfl, k p H' (fun b u hb => fr b u (e1 _ _ hb) (ne_of_none hb np)) np ⟨dx, hp⟩⟩⟩
def spBI (C : Kd → Addr) (CR CB CM : Addr) : Sp := fun vs H Q E => ∃ (b dx r s : Addr) (ws gs : List Int) (m1 m2 : Nat), vs = [.ref b, .ref r, .ref s] ∧ H b = some (.ins CB dx []) ∧ RowAt CR H r (ws.map V.int) ∧ IsRow ws m1 ∧ m1 ≤ 24 ∧ RowAt CR H s (gs.map V.int) ∧ IsRow gs m2 ∧ m2 ≤ 24 ∧
  (m1 ≠ m2 → ∀ H', Same H H' → E (.ref (C .other)) none H') ∧ (m1 = m2 → ∀ H', (∀ a u, H a = some u → a ≠ b → H' a = some u) → BenAt CR CB CM H' b r s ws [] [] → Q .non H')
theorem scBI : FnScope ["self", "row", "goal"] ["self", "row", "goal"] (defScope sBI) := ⟨rfl, rfl, rfl, by decide +kernel, rfl, by decide +kernel, by decide +kernel⟩
theorem ok_bi {f fM fN : Addr} {fd fdM fdN : FuncData} (F : Fun K "__init__" "Bench.__init__" sBI f fd) (B : Blt mg) (N : BenC K mg CR CB CM) (O : OthC K mg (C .other)) (MM : Mk K CM fM) (FMI : FnOk P w K mg base CX0 1 fM fdM ["self", "here", "done", "undone"] (spMI CM)) (mb : Binds K fdM ["self", "here", "done", "undone"] [])
    (FLen : FnOk P w K mg base CX0 1 fN fdN ["self"] (spRLen CR)) (RL : OpM K CR "__len__" fN fdN ["self"]) : FnOk P w K mg base (L2.CX P w) 3 f fd ["self", "row", "goal"] (spBI C CR CB CM) := by
  refine F.okX scBI (fun vs H Q E h => ?_) (fun cdv A outer s H vs Q E hr h => ⟨_, (pss_cons (ps_if (pt_cmpR op_ne (pe_callB (call_lenO FLen RL.at_ RL.fn (hr.mono (by decide)) RL.bi pass0) (by rfl) B.len (by decide +kernel) (pa_cons (pv 1) pa_nil)) (pe_callB (call_lenO FLen RL.at_ RL.fn (hr.mono (by decide)) RL.bi pass0) (by rfl) B.len (by decide +kernel) (pa_cons (pv 2) pa_nil)) (nomark _)) (pss_one (ps_raiseO rfl O (takes_of rfl rfl rfl rfl) (by rfl))) pss_nil)
      (pss_cons (ps_fldF (pv 0) (pv 1))
      (pss_cons (ps_fldF (pv 0) (pv 2))
      (pss_one (ps_fldF (pv 0) (pe_make (E := fun _ _ _ => False) MM FMI (hr.mono (by decide)) (by rfl) N.mgM mb .nil pass0 (pa_cons (pv 1) (pa_cons (pe_tupF pa_nil) (pa_cons (pe_tupF pa_nil) pa_nil))))))))), ?_⟩)
  · obtain ⟨b, dx, r, s, ws, gs, m1, m2, rfl, _⟩ := h
    rfl
  · obtain ⟨b, dx, r, s, ws, gs, m1, m2, rfl, hb, hr1, hw, hm1, hr2, hg, hm2, ko, k⟩ := h
    obtain ⟨dr, tr, a1, a2⟩ := id hr1
    obtain ⟨ds, ts, b1, b2⟩ := id hr2
    have lw := hw.len
    have lg := hg.len
    refine seq_q (fun σ' H' => m1 = m2 ∧ σ' = [some (.ref b), some (.ref r), some (.ref s)] ∧ H' = H) (fun D2 eD2 hZ2 => ?_) ?_
    · walk_at "s"
      refine ⟨r, dr, _, rfl, a1, r, _, rfl, hr1, _, rfl, by omega, by rw [List.length_map]; omega, ?_⟩
      refine ⟨s, ds, _, rfl, b1, s, _, rfl, hr2, _, rfl, by omega, by rw [List.length_map]; omega, rfl, ?_⟩
      rw [List.length_map, List.length_map, lw, lg]
      by_cases e : m1 = m2
      · exact .inl ⟨by rw [e], hZ2 _ _ ⟨e, rfl, rfl⟩⟩
      · refine .inr ⟨fun z => e ?_, ko e H fun _ _ h => h⟩
        have := V.int.inj z
        omega
    rintro σ1 H1 ⟨rfl, rfl, rfl⟩
    have rb_ : r ≠ b := fun z => by rw [z, hb] at a1; cases a1
    have sb_ : s ≠ b := fun z => by rw [z, hb] at b1; cases b1
    refine seq_nx (fun σ' H' => σ' = [some (.ref b), some (.ref r), some (.ref s)] ∧ (∀ a u, H1 a = some u → a ≠ b → H' a = some u) ∧ H' b = some (.ins CB dx [("first", .ref r)])) (fun Z hZ => ?_) ?_
    · exact ⟨_, rfl, _, rfl, b, rfl, CB, dx, [], hb, N.cl, N.nF, by decide, hZ _ _ ⟨rfl, fun a u h hne => by rw [upd_ne hne]; exact h, upd_same⟩⟩
    rintro σ2 H2 ⟨rfl, fr2, hb2⟩
    refine seq_nx (fun σ' H' => σ' = [some (.ref b), some (.ref r), some (.ref s)] ∧ (∀ a u, H1 a = some u → a ≠ b → H' a = some u) ∧ H' b = some (.ins CB dx [("first", .ref r), ("goal", .ref s)])) (fun Z hZ => ?_) ?_
    · exact ⟨_, rfl, _, rfl, b, rfl, CB, dx, _, hb2, N.cl, N.nG, (show 1 < 1000 by decide), hZ _ _ ⟨rfl, fun a u h hne => by rw [upd_ne hne]; exact fr2 a u h hne, upd_same⟩⟩
    rintro σ3 H2 ⟨rfl, fr0, hb2⟩
    walk_at "s"
    refine view_tup (VW.start (H := H2)) fun t1 A1 v1 => view_tup v1 fun t2 A2 v2 => ?_
    refine mom_at fun mo A3 s3 nmo hmo => ?_
    have s03 := Same.tr2 v2.fr s3
    have hb3 := s03 _ _ hb2
    refine ⟨CB, dx, _, hb3, N.cl, N.nM, (show 2 < 1000 by decide), ?_⟩
    refine k rfl _ (fun a u h hne => by rw [upd_ne hne]; exact s03 _ _ (fr0 a u h hne)) (ben_put N.bm N.br hb3 hmo ?_ (s3 _ _ (v2.tu (t1, _) (.tail _ (.head _)))) .nil (s3 _ _ (v2.tu (t2, _) (.head _))) .nil)
    exact ⟨dr, tr, s03 _ _ (fr0 _ _ a1 rb_), s03 _ _ (fr0 _ _ a2 (fun z => by rw [z, hb] at a2; cases a2))⟩
def spBRow (CR CB CM : Addr) : Sp := fun vs H Q _ => ∃ (b r0 r1 : Addr) (ws : List Int) (ps us : List (Nat × Nat)), vs = [.ref b] ∧ BenAt CR CB CM H b r0 r1 ws ps us ∧ ∀ h, RowAt CR H h (ws.map V.int) → Q (.ref h) H
theorem scBRow : FnScope ["self"] ["self"] (defScope sBRow) := ⟨rfl, rfl, rfl, by decide +kernel, rfl, by decide +kernel, by decide +kernel⟩
theorem ok_brow {f : Addr} {fd : FuncData} (F : Fun K "row" "Bench.row" sBRow f fd) (N : BenC K mg CR CB CM) : FnOk P w K mg base CX0 1 f fd ["self"] (spBRow CR CB CM) := by
  refine F.ok scBRow (fun vs H Q E h => ?_) (fun cdv A outer s H vs Q E hr h => ⟨_, (pss_one (ps_ret (pe_fldF (pe_fldF (pv 0))))), ?_⟩)
  · obtain ⟨b, r0, r1, ws, ps, us, rfl, _⟩ := h
    rfl
  · obtain ⟨b, r0, r1, ws, ps, us, rfl, ⟨dx, mo, h, td, tu, zs, ys, h1, ⟨dm, h2⟩, h3, h4, h5, h6, h7⟩, k⟩ := h
    walk_at "s"
    exact ⟨CB, dx, _, h1, N.cl, N.nM, _, rfl, mo, rfl, CM, dm, _, h2, N.clM, N.nH, _, rfl, k h h3⟩
def spBLen (CR CB CM : Addr) : Sp := fun vs H Q _ => ∃ (b r0 r1 : Addr) (ws : List Int) (ps us : List (Nat × Nat)), vs = [.ref b] ∧ BenAt CR CB CM H b r0 r1 ws ps us ∧ Q (.int (ps.length : Nat)) H
theorem scBLen : FnScope ["self"] ["self"] (defScope sBLen) := ⟨rfl, rfl, rfl, by decide +kernel, rfl, by decide +kernel, by decide +kernel⟩
theorem ok_blen {f : Addr} {fd : FuncData} (F : Fun K "__len__" "Bench.__len__" sBLen f fd) (B : Blt mg) (N : BenC K mg CR CB CM) : FnOk P w K mg base CX0 1 f fd ["self"] (spBLen CR CB CM) := by
  refine F.ok scBLen (fun vs H Q E h => ?_) (fun cdv A outer s H vs Q E hr h => ⟨_, (pss_one (ps_ret (pe_callB lenF (by rfl) B.len (by decide +kernel) (pa_cons (pe_fldF (pe_fldF (pv 0))) pa_nil)))), ?_⟩)
  · obtain ⟨b, r0, r1, ws, ps, us, rfl, _⟩ := h
    rfl
  · obtain ⟨b, r0, r1, ws, ps, us, rfl, ⟨dx, mo, h, td, tu, zs, ys, h1, ⟨dm, h2⟩, h3, h4, h5, h6, h7⟩, k⟩ := h
    walk_at "s"
    refine ⟨CB, dx, _, h1, N.cl, N.nM, _, rfl, mo, rfl, CM, dm, _, h2, N.clM, N.nD, _, rfl, td, rfl, _, h4, _, rfl, ?_⟩
    rw [h5.len]
    exact k
def spDo (K : PySem.W.Frag) (C : Kd → Addr) (CR CB CM : Addr) : Sp := fun vs H Q E => ∃ (b r0 r1 : Addr) (x : V) (ws : List Int) (ps us : List (Nat × Nat)) (n : Nat) (o : Option (V × V)), vs = [.ref b, x] ∧ BenAt CR CB CM H b r0 r1 ws ps us ∧ IsRow ws n ∧ n ≤ 24 ∧ ps.length ≤ 1000 ∧ StV K H x o ∧
  (∀ i j : Nat, o = some (.int (i : Nat), .int (j : Nat)) → i ≤ j → j < n → ∀ q H', SmX b H H' → BenAt CR CB CM H' b r0 r1 (turnL ws i j) (ps ++ [(i, j)]) [] → RowAt CR H' q ((turnL ws i j).map V.int) → Q (.ref q) H') ∧
  (stOk ((n : Int) - 1) o = false → ∀ d H', Same H H' → H' d = some (.xd [("place", .int 0)]) → E (.ref (C .turn)) (some d) H')
theorem scBDo : FnScope ["self", "turning"] ["self", "turning"] (defScope sBDo) := ⟨rfl, rfl, rfl, by decide +kernel, rfl, by decide +kernel, by decide +kernel⟩
theorem ok_do {f fM fR fT : Addr} {fd fdM fdR fdT : FuncData} {pr : Addr} (F : Fun K "do" "Bench.do" sBDo f fd) (B : Blt mg) (N : BenC K mg CR CB CM) (MM : Mk K CM fM) (FMI : FnOk P w K mg base CX0 1 fM fdM ["self", "here", "done", "undone"] (spMI CM)) (mb : Binds K fdM ["self", "here", "done", "undone"] [])
    (PRow : PropOf K CB "row" pr fR) (FRow : FnOk P w K mg base CX0 1 fR fdR ["self"] (spBRow CR CB CM)) (bRow : Binds K fdR ["self"] []) (cPT : DnX P w K mg base 5 "turned" fT fdT ["row", "turning"] (spPTurned K C CR)) : FnOk P w K mg base (L2.CX P w) 6 f fd ["self", "turning"] (spDo K C CR CB CM) := by
  refine F.okX scBDo (fun vs H Q E h => ?_) (fun cdv A outer s H vs Q E hr h => ⟨_, (pss_cons (ps_fldF (pv 0) (pe_make (E := fun _ _ _ => False) MM FMI (hr.mono (by decide)) (by rfl) N.mgM mb .nil pass0 (pa_cons (pe_call (E := E) cPT.ok (hr.mono (by decide)) rfl cPT.mgf cPT.kp cPT.bi .nil (passes_call (takes_of rfl rfl rfl rfl) (fun _ _ _ _ h => h)) (pa_cons (pe_prop (pv 0) N.cl PRow FRow (hr.mono (by decide)) bRow .nil pass0 (by rfl)) (pa_cons (pv 1) pa_nil))) (pa_cons (pe_op catTF (pe_fldF (pe_fldF (pv 0))) (pe_tupF (pa_cons (pv 1) pa_nil))) (pa_cons (pe_tupF pa_nil) pa_nil)))))
      (pss_one (ps_ret (pe_prop (pv 0) N.cl PRow FRow (hr.mono (by decide)) bRow .nil pass0 (by rfl))))), ?_⟩)
  · obtain ⟨b, r0, r1, x, ws, ps, us, n, o, rfl, _⟩ := h
    rfl
  · obtain ⟨b, r0, r1, x, ws, ps, us, n, o, rfl, hB, hw, hn, lp, hx, k, ke⟩ := h
    obtain ⟨dx, mo, h, td, tu, zs, ys, h1, ⟨dm, h2⟩, h3, h4, h5, h6, h7⟩ := id hB
    have lz := h5.len
    refine seq_q (fun σ' H' => ∃ (i j : Nat) (q : Addr), σ' = [some (.ref b), some x] ∧ o = some (.int (i : Nat), .int (j : Nat)) ∧ i ≤ j ∧ j < n ∧ SmX b H H' ∧ BenAt CR CB CM H' b r0 r1 (turnL ws i j) (ps ++ [(i, j)]) []) (fun D2 eD2 hZ2 => ?_) ?_
    · walk_at "s"
      refine ⟨⟨_, _, h1⟩, b, r0, r1, ws, ps, us, rfl, hB, fun h' h3' => ?_⟩
      refine ⟨h', x, ws, n, o, rfl, h3', hw, hn, hx, fun i j eo hij hj q A1 s1 hq => ?_, ke⟩
      subst eo
      obtain ⟨t, rfl, ht, _⟩ := id hx
      refine ⟨CB, dx, _, s1 _ _ h1, N.cl, N.nM, _, rfl, mo, rfl, CM, dm, _, s1 _ _ h2, N.clM, N.nD, _, rfl, sz_le (by decide), view_tup (VW.start (H := A1)) fun p1 A2 v2 => ?_⟩
      refine ⟨td, rfl, _, v2.fr _ _ (s1 _ _ h4), _, v2.tu (p1, _) (.head _), sz_le (by rw [lz]; simp; omega), view_tup v2 fun p2 A3 v3 => view_tup v3 fun p3 A4 v4 => ?_⟩
      refine mom_at fun mo2 A5 s5 nmo hmo => ?_
      have s05 := Same.tr2 s1 (Same.tr2 v4.fr s5)
      have hb5 := s05 _ _ h1
      have s45 := Same.tr2 v4.fr s5
      refine ⟨CB, dx, _, hb5, N.cl, N.nM, (show 3 < 1000 by decide), ?_⟩
      refine hZ2 _ _ ⟨i, j, q, rfl, rfl, hij, hj, (SmX.of s05).seq (SmX.start hb5), ben_put N.bm N.br hb5 hmo (hq.same s45) (s5 _ _ (v4.tu (p2, _) (.tail _ (.head _)))) ?_ (s5 _ _ (v4.tu (p3, _) (.head _))) .nil⟩
      exact (h5.same s05).snoc (s05 _ _ ht)
    rintro σ1 H1 ⟨i, j, q, rfl, eo, hij, hj, sx, hB1⟩
    walk_at "s"
    obtain ⟨dx2, mo2, _, _, _, _, _, g1, _⟩ := id hB1
    exact ⟨⟨_, _, g1⟩, b, r0, r1, _, _, _, rfl, hB1, fun h' h3' => k i j eo hij hj h' H1 sx hB1 h3'⟩
def spBTs (CR CB CM : Addr) : Sp := fun vs H Q _ => ∃ (b r0 r1 : Addr) (ws : List Int) (ps us : List (Nat × Nat)), vs = [.ref b] ∧ BenAt CR CB CM H b r0 r1 ws ps us ∧ ∀ td zs, H td = some (.tup zs) → PrL H zs ps → Q (.ref td) H
theorem scBTs : FnScope ["self"] ["self"] (defScope sBTs) := ⟨rfl, rfl, rfl, by decide +kernel, rfl, by decide +kernel, by decide +kernel⟩
theorem ok_bts {f : Addr} {fd : FuncData} (F : Fun K "turnings" "Bench.turnings" sBTs f fd) (N : BenC K mg CR CB CM) : FnOk P w K mg base CX0 1 f fd ["self"] (spBTs CR CB CM) := by
  refine F.ok scBTs (fun vs H Q E h => ?_) (fun cdv A outer s H vs Q E hr h => ⟨_, (pss_one (ps_ret (pe_fldF (pe_fldF (pv 0))))), ?_⟩)
  · obtain ⟨b, r0, r1, ws, ps, us, rfl, _⟩ := h
    rfl
  · obtain ⟨b, r0, r1, ws, ps, us, rfl, ⟨dx, mo, h, td, tu, zs, ys, h1, ⟨dm, h2⟩, h3, h4, h5, h6, h7⟩, k⟩ := h
    walk_at "s"
    exact ⟨CB, dx, _, h1, N.cl, N.nM, _, rfl, mo, rfl, CM, dm, _, h2, N.clM, N.nD, _, rfl, k td zs h4 h5⟩
def spUndo (C : Kd → Addr) (CR CB CM : Addr) : Sp := fun vs H Q E => ∃ (b r0 r1 : Addr) (ws : List Int) (ps us : List (Nat × Nat)) (n : Nat), vs = [.ref b] ∧ BenAt CR CB CM H b r0 r1 ws ps us ∧ IsRow ws n ∧ n ≤ 24 ∧ ps.length ≤ 1000 ∧ us.length ≤ 1000 ∧ (∀ p ∈ ps, p.1 ≤ p.2 ∧ p.2 < n) ∧
  (ps = [] → ∀ H', Same H H' → E (.ref (C .nothing)) none H') ∧ (∀ qs i j, ps = qs ++ [(i, j)] → ∀ t H', SmX b H H' → BenAt CR CB CM H' b r0 r1 (turnL ws i j) qs (us ++ [(i, j)]) → H' t = some (.tup [.int (i : Nat), .int (j : Nat)]) → Q (.ref t) H')
theorem scBUndo : FnScope ["self", "done"] ["self"] (defScope sBUndo) := ⟨rfl, rfl, rfl, by decide +kernel, rfl, by decide +kernel, by decide +kernel⟩
theorem ok_undo {f fM fR fT : Addr} {fd fdM fdR fdT : FuncData} {pr : Addr} (F : Fun K "undo" "Bench.undo" sBUndo f fd) (B : Blt mg) (N : BenC K mg CR CB CM) (O : NotC K mg (C .nothing)) (MM : Mk K CM fM) (FMI : FnOk P w K mg base CX0 1 fM fdM ["self", "here", "done", "undone"] (spMI CM)) (mb : Binds K fdM ["self", "here", "done", "undone"] [])
    (PRow : PropOf K CB "row" pr fR) (FRow : FnOk P w K mg base CX0 1 fR fdR ["self"] (spBRow CR CB CM)) (bRow : Binds K fdR ["self"] []) (cPT : DnX P w K mg base 5 "turned" fT fdT ["row", "turning"] (spPTurned K C CR)) : FnOk P w K mg base (L2.CX P w) 6 f fd ["self"] (spUndo C CR CB CM) := by
  refine F.okX scBUndo (fun vs H Q E h => ?_) (fun cdv A outer s H vs Q E hr h => ⟨_, (pss_cons (ps_set (i := 1) scBUndo.nd rfl (by first | exact Or.inl rfl | exact Or.inr rfl) (pe_fldF (pe_fldF (pv 0))))
      (pss_cons (ps_if (pt_not (pt_truth (pv 1) (fun _ => rfl))) (pss_one (ps_raiseN rfl O (takes_of rfl rfl rfl rfl) (by rfl))) pss_nil)
      (pss_cons (ps_fldF (pv 0) (pe_make (E := fun _ _ _ => False) MM FMI (hr.mono (by decide)) (by rfl) N.mgM mb .nil pass0 (pa_cons (pe_call (E := E) cPT.ok (hr.mono (by decide)) rfl cPT.mgf cPT.kp cPT.bi .nil (passes_call (takes_of rfl rfl rfl rfl) (fun _ _ _ _ h => h)) (pa_cons (pe_prop (pv 0) N.cl PRow FRow (hr.mono (by decide)) bRow .nil pass0 (by rfl)) (pa_cons (pe_ix ixF (pv 1) (pe_un un_neg pe_int) (fun _ _ => rfl)) pa_nil))) (pa_cons (pe_slice slTF (pv 1) po_none (po_some (pe_un un_neg pe_int))) (pa_cons (pe_op catTF (pe_fldF (pe_fldF (pv 0))) (pe_tupF (pa_cons (pe_ix ixF (pv 1) (pe_un un_neg pe_int) (fun _ _ => rfl)) pa_nil))) pa_nil)))))
      (pss_one (ps_ret (pe_ix ixF (pv 1) (pe_un un_neg pe_int) (fun _ _ => rfl))))))), ?_⟩)
  · obtain ⟨b, r0, r1, ws, ps, us, n, rfl, _⟩ := h
    rfl
  · obtain ⟨b, r0, r1, ws, ps, us, n, rfl, hB, hw, hn, lp, lu, hps, ke, k⟩ := h
    obtain ⟨dx, mo, h, td, tu, zs, ys, h1, ⟨dm, h2⟩, h3, h4, h5, h6, h7⟩ := id hB
    have lz := h5.len
    have ly := h7.len
    refine seq_nx (fun σ' H' => σ' = [some (.ref b), some (.ref td)] ∧ H' = H) (fun Z hZ => ?_) ?_
    · walk_at "s"
      exact ⟨CB, dx, _, h1, N.cl, N.nM, _, rfl, mo, rfl, CM, dm, _, h2, N.clM, N.nD, _, rfl, hZ _ _ ⟨rfl, rfl⟩⟩
    rintro σ1 H1 ⟨rfl, rfl⟩
    refine seq_q (fun σ' H' => ∃ qs i j, ps = qs ++ [(i, j)] ∧ σ' = [some (.ref b), some (.ref td)] ∧ H' = H1) (fun D2 eD2 hZ2 => ?_) ?_
    · walk_at "s"
      rcases List.eq_nil_or_concat ps with e | ⟨qs, p, e⟩
      · refine .inl ⟨.inr (.inl ⟨zs, SqT.of h4, ?_⟩), ke e H1 fun _ _ h => h⟩
        subst e
        have : zs = [] := List.eq_nil_of_length_eq_zero (by rw [lz]; rfl)
        rw [this]
        rfl
      · rw [List.concat_eq_append] at e
        refine .inr ⟨.inr (.inl ⟨zs, SqT.of h4, ?_⟩), hZ2 _ _ ⟨qs, p.1, p.2, e, rfl, rfl⟩⟩
        cases zs with
        | nil => rw [e] at lz; simp at lz
        | cons _ _ => rfl
    rintro σ2 H2 ⟨qs, i, j, eps, rfl, rfl⟩
    subst eps
    obtain ⟨zs', t, ez, hP', ht⟩ := prl_snoc_inv h5
    subst ez
    have hq := hps (i, j) (List.mem_append_right _ (List.mem_singleton.mpr rfl))
    refine seq_q (fun σ' H' => σ' = [some (.ref b), some (.ref td)] ∧ SmX b H2 H' ∧ BenAt CR CB CM H' b r0 r1 (turnL ws i j) qs (us ++ [(i, j)])) (fun D2 eD2 hZ2 => ?_) ?_
    · walk_at "s"
      refine ⟨⟨_, _, h1⟩, b, r0, r1, ws, _, us, rfl, hB, fun h' h3' => ?_⟩
      refine ⟨_, h4, _, rfl, _, at_last, h', .ref t, ws, n, some (.int (i : Nat), .int (j : Nat)), rfl, h3', hw, hn, ⟨t, rfl, ht, .int _, .int _⟩, fun i' j' e _ _ q A1 s1 hq1 => ?_, fun e => ?_⟩
      · have e := Prod.mk.inj (Option.some.inj e)
        have e1 := V.int.inj e.1
        have e2 := V.int.inj e.2
        obtain rfl : i' = i := by omega
        obtain rfl : j' = j := by omega
        refine ⟨_, s1 _ _ h4, view_tup (VW.start (H := A1)) fun p1 A2 v2 => ?_⟩
        have s2 := Same.tr2 s1 v2.fr
        refine ⟨CB, dx, _, s2 _ _ h1, N.cl, N.nM, _, rfl, mo, rfl, CM, dm, _, s2 _ _ h2, N.clM, N.nU, _, rfl, _, s2 _ _ h4, _, rfl, _, at_last, ?_⟩
        refine ⟨sz_le (by decide), view_tup (VW.start (H := A2)) fun p3 A3 v3 => ?_⟩
        refine ⟨tu, rfl, _, v3.fr _ _ (s2 _ _ h6), _, v3.tu (p3, _) (.head _), sz_le (by rw [ly]; simp; omega), view_tup v3 fun p4 A4 v4 => ?_⟩
        refine mom_at fun mo2 A5 s5 nmo hmo => ?_
        have s25 := Same.tr2 v4.fr s5
        have s05 := Same.tr2 s2 s25
        have hb5 := s05 _ _ h1
        refine ⟨CB, dx, _, hb5, N.cl, N.nM, (show 3 < 1000 by decide), ?_⟩
        have hp1 := v2.tu (p1, _) (.head _)
        rw [cut_last] at hp1
        exact hZ2 _ _ ⟨rfl, (SmX.of s05).seq (SmX.start hb5), ben_put N.bm N.br hb5 hmo (hq1.same (Same.tr2 v2.fr s25)) (s25 _ _ hp1) (hP'.same s05) (s5 _ _ (v4.tu (p4, _) (.head _))) ((h7.same s05).snoc (s05 _ _ ht))⟩
      · exfalso
        simp [stOk, wholeV] at e
        omega
    rintro σ3 H3 ⟨rfl, sx, hB3⟩
    walk_at "s"
    have ne4 : td ≠ b := fun z => by rw [z, h1] at h4; cases h4
    have net : t ≠ b := fun z => by rw [z, h1] at ht; cases ht
    exact ⟨_, sx _ _ ne4 h4, _, rfl, _, at_last, k qs i j rfl t H3 sx hB3 (sx _ _ net ht)⟩
def spRedo (C : Kd → Addr) (CR CB CM : Addr) : Sp := fun vs H Q E => ∃ (b r0 r1 : Addr) (ws : List Int) (ps us : List (Nat × Nat)) (n : Nat), vs = [.ref b] ∧ BenAt CR CB CM H b r0 r1 ws ps us ∧ IsRow ws n ∧ n ≤ 24 ∧ ps.length ≤ 1000 ∧ us.length ≤ 1000 ∧ (∀ p ∈ us, p.1 ≤ p.2 ∧ p.2 < n) ∧
  (us = [] → ∀ H', Same H H' → E (.ref (C .nothing)) none H') ∧ (∀ qs i j, us = qs ++ [(i, j)] → ∀ t H', SmX b H H' → BenAt CR CB CM H' b r0 r1 (turnL ws i j) (ps ++ [(i, j)]) qs → H' t = some (.tup [.int (i : Nat), .int (j : Nat)]) → Q (.ref t) H')
theorem scBRedo : FnScope ["self", "undone"] ["self"] (defScope sBRedo) := ⟨rfl, rfl, rfl, by decide +kernel, rfl, by decide +kernel, by decide +kernel⟩
theorem ok_redo {f fM fR fT : Addr} {fd fdM fdR fdT : FuncData} {pr : Addr} (F : Fun K "redo" "Bench.redo" sBRedo f fd) (B : Blt mg) (N : BenC K mg CR CB CM) (O : NotC K mg (C .nothing)) (MM : Mk K CM fM) (FMI : FnOk P w K mg base CX0 1 fM fdM ["self", "here", "done", "undone"] (spMI CM)) (mb : Binds K fdM ["self", "here", "done", "undone"] [])
    (PRow : PropOf K CB "row" pr fR) (FRow : FnOk P w K mg base CX0 1 fR fdR ["self"] (spBRow CR CB CM)) (bRow : Binds K fdR ["self"] []) (cPT : DnX P w K mg base 5 "turned" fT fdT ["row", "turning"] (spPTurned K C CR)) : FnOk P w K mg base (L2.CX P w) 6 f fd ["self"] (spRedo C CR CB CM) := by
  refine F.okX scBRedo (fun vs H Q E h => ?_) (fun cdv A outer s H vs Q E hr h => ⟨_, (pss_cons (ps_set (i := 1) scBRedo.nd rfl (by first | exact Or.inl rfl | exact Or.inr rfl) (pe_fldF (pe_fldF (pv 0))))
      (pss_cons (ps_if (pt_not (pt_truth (pv 1) (fun _ => rfl))) (pss_one (ps_raiseN rfl O (takes_of rfl rfl rfl rfl) (by rfl))) pss_nil)
      (pss_cons (ps_fldF (pv 0) (pe_make (E := fun _ _ _ => False) MM FMI (hr.mono (by decide)) (by rfl) N.mgM mb .nil pass0 (pa_cons (pe_call (E := E) cPT.ok (hr.mono (by decide)) rfl cPT.mgf cPT.kp cPT.bi .nil (passes_call (takes_of rfl rfl rfl rfl) (fun _ _ _ _ h => h)) (pa_cons (pe_prop (pv 0) N.cl PRow FRow (hr.mono (by decide)) bRow .nil pass0 (by rfl)) (pa_cons (pe_ix ixF (pv 1) (pe_un un_neg pe_int) (fun _ _ => rfl)) pa_nil))) (pa_cons (pe_op catTF (pe_fldF (pe_fldF (pv 0))) (pe_tupF (pa_cons (pe_ix ixF (pv 1) (pe_un un_neg pe_int) (fun _ _ => rfl)) pa_nil))) (pa_cons (pe_slice slTF (pv 1) po_none (po_some (pe_un un_neg pe_int))) pa_nil)))))
      (pss_one (ps_ret (pe_ix ixF (pv 1) (pe_un un_neg pe_int) (fun _ _ => rfl))))))), ?_⟩)
  · obtain ⟨b, r0, r1, ws, ps, us, n, rfl, _⟩ := h
    rfl
  · obtain ⟨b, r0, r1, ws, ps, us, n, rfl, hB, hw, hn, lp, lu, hps, ke, k⟩ := h
    obtain ⟨dx, mo, h, td, tu, zs, ys, h1, ⟨dm, h2⟩, h3, h4, h5, h6, h7⟩ := id hB
    have lz := h5.len
    have ly := h7.len
    refine seq_nx (fun σ' H' => σ' = [some (.ref b), some (.ref tu)] ∧ H' = H) (fun Z hZ => ?_) ?_
    · walk_at "s"
      exact ⟨CB, dx, _, h1, N.cl, N.nM, _, rfl, mo, rfl, CM, dm, _, h2, N.clM, N.nU, _, rfl, hZ _ _ ⟨rfl, rfl⟩⟩
    rintro σ1 H1 ⟨rfl, rfl⟩
    refine seq_q (fun σ' H' => ∃ qs i j, us = qs ++ [(i, j)] ∧ σ' = [some (.ref b), some (.ref tu)] ∧ H' = H1) (fun D2 eD2 hZ2 => ?_) ?_
    · walk_at "s"
      rcases List.eq_nil_or_concat us with e | ⟨qs, p, e⟩
      · refine .inl ⟨.inr (.inl ⟨ys, SqT.of h6, ?_⟩), ke e H1 fun _ _ h => h⟩
        subst e
        have : ys = [] := List.eq_nil_of_length_eq_zero (by rw [ly]; rfl)
        rw [this]
        rfl
      · rw [List.concat_eq_append] at e
        refine .inr ⟨.inr (.inl ⟨ys, SqT.of h6, ?_⟩), hZ2 _ _ ⟨qs, p.1, p.2, e, rfl, rfl⟩⟩
        cases ys with
        | nil => rw [e] at ly; simp at ly
        | cons _ _ => rfl
    rintro σ2 H2 ⟨qs, i, j, eps, rfl, rfl⟩
    subst eps
    obtain ⟨zs', t, ez, hP', ht⟩ := prl_snoc_inv h7
    subst ez
    have hq := hps (i, j) (List.mem_append_right _ (List.mem_singleton.mpr rfl))
    refine seq_q (fun σ' H' => σ' = [some (.ref b), some (.ref tu)] ∧ SmX b H2 H' ∧ BenAt CR CB CM H' b r0 r1 (turnL ws i j) (ps ++ [(i, j)]) qs) (fun D2 eD2 hZ2 => ?_) ?_
    · walk_at "s"
      refine ⟨⟨_, _, h1⟩, b, r0, r1, ws, ps, _, rfl, hB, fun h' h3' => ?_⟩
      refine ⟨_, h6, _, rfl, _, at_last, h', .ref t, ws, n, some (.int (i : Nat), .int (j : Nat)), rfl, h3', hw, hn, ⟨t, rfl, ht, .int _, .int _⟩, fun i' j' e _ _ q A1 s1 hq1 => ?_, fun e => ?_⟩
      · have e := Prod.mk.inj (Option.some.inj e)
        have e1 := V.int.inj e.1
        have e2 := V.int.inj e.2
        obtain rfl : i' = i := by omega
        obtain rfl : j' = j := by omega
        refine ⟨CB, dx, _, s1 _ _ h1, N.cl, N.nM, _, rfl, mo, rfl, CM, dm, _, s1 _ _ h2, N.clM, N.nD, _, rfl, _, s1 _ _ h6, _, rfl, _, at_last, ?_⟩
        refine ⟨sz_le (by decide), view_tup (VW.start (H := A1)) fun p3 A3 v3 => ?_⟩
        refine ⟨td, rfl, _, v3.fr _ _ (s1 _ _ h4), _, v3.tu (p3, _) (.head _), sz_le (by rw [lz]; simp; omega), view_tup v3 fun p4 A4 v4 => ?_⟩
        refine ⟨_, v4.fr _ _ (s1 _ _ h6), view_tup v4 fun p1 A6 v6 => ?_⟩
        refine mom_at fun mo2 A5 s5 nmo hmo => ?_
        have s25 := Same.tr2 v6.fr s5
        have s05 := Same.tr2 s1 s25
        have hb5 := s05 _ _ h1
        refine ⟨CB, dx, _, hb5, N.cl, N.nM, (show 3 < 1000 by decide), ?_⟩
        have hp1 := v6.tu (p1, _) (.head _)
        rw [cut_last] at hp1
        exact hZ2 _ _ ⟨rfl, (SmX.of s05).seq (SmX.start hb5), ben_put N.bm N.br hb5 hmo (hq1.same s25) (s5 _ _ (v6.tu (p4, _) (.tail _ (.head _)))) ((h5.same s05).snoc (s05 _ _ ht)) (s5 _ _ hp1) (hP'.same s05)⟩
      · exfalso
        simp [stOk, wholeV] at e
        omega
    rintro σ3 H3 ⟨rfl, sx, hB3⟩
    walk_at "s"
    have ne4 : tu ≠ b := fun z => by rw [z, h1] at h6; cases h6
    have net : t ≠ b := fun z => by rw [z, h1] at ht; cases ht
    exact ⟨_, sx _ _ ne4 h6, _, rfl, _, at_last, k qs i j rfl t H3 sx hB3 (sx _ _ net ht)⟩
theorem prD_layB : ∀ ps : List (Nat × Nat), PyData.canLayAll0 (prD ps) = true ∧ PyData.depthAll (prD ps) ≤ 1
  | [] => ⟨rfl, Nat.zero_le _⟩
  | q :: r => by
    obtain ⟨h1, h2⟩ := prD_layB r
    have e : prD (q :: r) = .tuple [.int (q.1 : Nat), .int (q.2 : Nat)] :: prD r := rfl
    rw [e]
    constructor
    · rw [PyData.canLayAll0, h1]
      simp [PyData.canLay0, PyData.canLayAll0]
    · rw [PyData.depthAll]
      simp [PyData.depth, PyData.depthAll]
      omega
end
end Fab
set_option maxHeartbeats 2000000
namespace Fab
open PySem L2 PySem.FabX
abbrev sClass : Stmt := top 72
abbrev sTold : Stmt := top 73
local macro_rules | `(tactic| walk_at "s") => `(tactic| simp [tPar, tSeq, tAsg, tOp, tUn, tVar, tC, gName, tCons, tNil, tCB, tCall, rI, rI0, rU, tRet, tDrop, tIfS, tNext, tIf, tTest, tNot, tOr, tAnd, tB, L2.start, CMul, CDiv, rIxF, rLenF, rIntF, sq_lst, sq_tup, tLstF, tTupF, gSub, rCatF, rCatTF, rInF, rNe, rEq, tAndV, tOrV, tNotV, tChain, rTupF, tFldF, tXfK, tRx, tMake, tSl, tPart, tNoPart, rSlTF, rSlF, tRevTF, gTup, gCons, gNil])
theorem rIsK_of {K : PySem.W.Frag} {mg : Str → Option Value} {CF : Addr} {C : Kd → Addr} (T : Exs K mg CF C) {k : Kd} {a : Addr} {d : Option Addr} {H : Hp} {Q : VK} (j : Kd) (e : H a = some (exK a (.ref (C k)) d)) (x : XdAt H d) (q : Q (.bl (decide (k = j))) H) : rIsK K [.ref a, .ref (C j)] H Q :=
  ⟨a, C k, d, _, _, _, rfl, .own _, e, x, T.exc k, T.kit k j, q⟩
theorem Same.cp {H H1 H2 : Hp} (a : Same H H1) (b : Same H1 H2) : Same H H2 := fun x o h => b _ _ (a _ _ h)
def kbs9 (k : Kd) : List Bool := kds9.map fun j => decide (k = j)
theorem fws_kd9 (k : Kd) : fws wds9 (kbs9 k) 9 = [.str k.name] := by
  cases k <;> kernel_rfl
/-- the pairs of a class's word and of whether it is the exception's, n of them -/
def Rws (k : Kd) (H : Hp) (vs : List V) (n : Nat) : Prop := vs.length = n ∧ ∀ i w b, i < n → wds9[i]? = some w → (kbs9 k)[i]? = some b → ∃ p, vs[i]? = some (.ref p) ∧ H p = some (.tup [.str w, .bl b])
theorem Rws.keep {k : Kd} {H H' : Hp} {vs : List V} {n : Nat} (h : Rws k H vs n) (s : ∀ p xs, H p = some (.tup xs) → H' p = some (.tup xs)) : Rws k H' vs n :=
  ⟨h.1, fun i w b hi hw hb => (h.2 i w b hi hw hb).imp fun _ z => ⟨z.1, s _ _ z.2⟩⟩
theorem Rws.same {k : Kd} {H H' : Hp} {vs : List V} {n : Nat} (h : Rws k H vs n) (s : Same H H') : Rws k H' vs n :=
  ⟨h.1, fun i w b hi hw hb => (h.2 i w b hi hw hb).imp fun _ z => ⟨z.1, s _ _ z.2⟩⟩
theorem Rws.snoc {k j : Kd} {H : Hp} {vs : List V} {n : Nat} {p : Addr} {w : Str} (h : Rws k H vs n) (hw : wds9[n]? = some w) (hj : kds9[n]? = some j) (hp : H p = some (.tup [.str w, .bl (decide (k = j))])) : Rws k H (vs ++ [.ref p]) (n + 1) := by
  refine ⟨by rw [List.length_append, h.1]; rfl, fun i w' b hi hw' hb => ?_⟩
  rcases Nat.lt_or_ge i n with h1 | h1
  · obtain ⟨q, h2, h3⟩ := h.2 i w' b h1 hw' hb
    exact ⟨q, by rw [List.getElem?_append_left (by rw [h.1]; exact h1)]; exact h2, h3⟩
  · have e : i = n := by omega
    subst e
    rw [hw] at hw'
    cases hw'
    have : (kbs9 k)[i]? = some (decide (k = j)) := by
      unfold kbs9
      rw [List.getElem?_map, hj]
      rfl
    rw [this] at hb
    cases hb
    exact ⟨p, by rw [List.getElem?_append_right (by rw [h.1]; omega), h.1]; simp, hp⟩
section
variable {P : Program} {w : World} {K : PySem.W.Frag} {mg : Str → Option Value} {base : Heap} {C : Kd → Addr} {CF : Addr}
def spClass (C : Kd → Addr) : Sp := fun vs H Q _ => ∃ (a : Addr) (k : Kd) (d : Option Addr), vs = [.ref a] ∧ H a = some (exK a (.ref (C k)) d) ∧
  ((k.has = true ∧ ∃ dd v, d = some dd ∧ H dd = some (.xd [(k.fld, v)]) ∧ ∀ p H', Same H H' → H' p = some (.tup (TdT k v)) → Q (.ref p) H') ∨ (k.has = false ∧ d = none ∧ ∀ p H', Same H H' → H' p = some (.tup (TdT k .non)) → Q (.ref p) H'))
theorem scClass : FnScope ["error", "rows", "words", "word", "holds"] ["error"] (defScope sClass) := ⟨rfl, rfl, rfl, by decide +kernel, rfl, by decide +kernel, by decide +kernel⟩
theorem ok_class {f : Addr} {fd : FuncData} (F : Fun K "_law_class" "_law_class" sClass f fd) (B : Blt mg) (T : Exs K mg CF C) : FnOk P w K mg base CX0 1 f fd ["error"] (spClass C) := by
  refine F.ok scClass (fun vs H Q E h => ?_) (fun cdv A outer s H vs Q E hr h => ?_)
  · obtain ⟨a, k, d, rfl, _⟩ := h
    rfl
  · obtain ⟨a, k, d, rfl, ha, hk⟩ := h
    refine ⟨_, (pss_cons (ps_set (i := 1) scClass.nd rfl (by first | exact Or.inl rfl | exact Or.inr rfl) (pe_lstF (pa_cons (pe_tupF (pa_cons pe_str (pa_cons (pe_callB call_isK (by rfl) B.isinstance (by decide +kernel) (pa_cons (pv 0) (pa_cons (pe_cl (by rfl) (T.mgc .row)) pa_nil))) pa_nil))) (pa_cons (pe_tupF (pa_cons pe_str (pa_cons (pe_callB call_isK (by rfl) B.isinstance (by decide +kernel) (pa_cons (pv 0) (pa_cons (pe_cl (by rfl) (T.mgc .turn)) pa_nil))) pa_nil))) pa_nil))))
      (pss_cons (ps_set (i := 1) scClass.nd rfl (by first | exact Or.inl rfl | exact Or.inr rfl) (pe_op catF (pv 1) (pe_lstF (pa_cons (pe_tupF (pa_cons pe_str (pa_cons (pe_callB call_isK (by rfl) B.isinstance (by decide +kernel) (pa_cons (pv 0) (pa_cons (pe_cl (by rfl) (T.mgc .place)) pa_nil))) pa_nil))) (pa_cons (pe_tupF (pa_cons pe_str (pa_cons (pe_callB call_isK (by rfl) B.isinstance (by decide +kernel) (pa_cons (pv 0) (pa_cons (pe_cl (by rfl) (T.mgc .number)) pa_nil))) pa_nil))) pa_nil)))))
      (pss_cons (ps_set (i := 1) scClass.nd rfl (by first | exact Or.inl rfl | exact Or.inr rfl) (pe_op catF (pv 1) (pe_lstF (pa_cons (pe_tupF (pa_cons pe_str (pa_cons (pe_callB call_isK (by rfl) B.isinstance (by decide +kernel) (pa_cons (pv 0) (pa_cons (pe_cl (by rfl) (T.mgc .other)) pa_nil))) pa_nil))) (pa_cons (pe_tupF (pa_cons pe_str (pa_cons (pe_callB call_isK (by rfl) B.isinstance (by decide +kernel) (pa_cons (pv 0) (pa_cons (pe_cl (by rfl) (T.mgc .text)) pa_nil))) pa_nil))) pa_nil)))))
      (pss_cons (ps_set (i := 1) scClass.nd rfl (by first | exact Or.inl rfl | exact Or.inr rfl) (pe_op catF (pv 1) (pe_lstF (pa_cons (pe_tupF (pa_cons pe_str (pa_cons (pe_callB call_isK (by rfl) B.isinstance (by decide +kernel) (pa_cons (pv 0) (pa_cons (pe_cl (by rfl) (T.mgc .way)) pa_nil))) pa_nil))) (pa_cons (pe_tupF (pa_cons pe_str (pa_cons (pe_callB call_isK (by rfl) B.isinstance (by decide +kernel) (pa_cons (pv 0) (pa_cons (pe_cl (by rfl) (T.mgc .nothing)) pa_nil))) pa_nil))) pa_nil)))))
      (pss_cons (ps_expr (pe_lm PySem.F.slot_list_append PySem.F.type_list_append appF (pv 1) (pa_cons (pe_tupF (pa_cons pe_str (pa_cons (pe_callB call_isK (by rfl) B.isinstance (by decide +kernel) (pa_cons (pv 0) (pa_cons (pe_cl (by rfl) (T.mgc .great)) pa_nil))) pa_nil))) pa_nil)))
      (pss_cons (ps_setLc (i := 2) (own := [("word", 3), ("holds", 4)]) (g := gTup K 2 (gCons (gName 3) (gCons (gName 4) gNil))) rfl scClass.nd rfl rfl (sw_true rfl rfl rfl (by decide +kernel)) (pi_list (pv 1)) (blkOk_by (own := [("word", 3), ("holds", 4)]) (N := ["error", "rows", "words", "word", "holds"]) (sc := defScope sClass) (by decide +kernel)) (fun _ _ _ _ _ => (pg_tup (by rfl) (pgs_cons (pg_name (i := 3) scClass.nd rfl (by first | exact Or.inl rfl | exact Or.inr rfl)) (pgs_cons (pg_name (i := 4) scClass.nd rfl (by first | exact Or.inl rfl | exact Or.inr rfl)) pgs_nil)))) (fun _ _ _ _ _ => (pts_one (pt_val (pv 4)))) (fun _ _ _ _ _ => (pv 3)))
      (pss_cons (ps_if (pt_cmpR op_ne (pe_callB lenF (by rfl) B.len (by decide +kernel) (pa_cons (pv 2) pa_nil)) pe_int (nomark _)) (pss_one (ps_ret (pe_tupF (pa_cons pe_str pa_nil)))) pss_nil)
      (pss_cons (ps_if (pt_cmpR inF (pe_ix ixF (pv 2) pe_int (fun _ _ => rfl)) (pe_tupF (pa_cons pe_str (pa_cons pe_str (pa_cons pe_str pa_nil)))) (by rfl)) (pss_one (ps_ret (pe_tupF (pa_cons (pe_ix ixF (pv 2) pe_int (fun _ _ => rfl)) (pa_cons (pe_xfK (pv 0)) pa_nil))))) pss_nil)
      (pss_cons (ps_if (pt_cmpR inF (pe_ix ixF (pv 2) pe_int (fun _ _ => rfl)) (pe_tupF (pa_cons pe_str (pa_cons pe_str (pa_cons pe_str pa_nil)))) (by rfl)) (pss_one (ps_ret (pe_tupF (pa_cons (pe_ix ixF (pv 2) pe_int (fun _ _ => rfl)) (pa_cons (pe_xfK (pv 0)) pa_nil))))) pss_nil)
      (pss_one (ps_ret (pe_ifExp (pt_cmpR op_eq (pe_ix ixF (pv 2) pe_int (fun _ _ => rfl)) pe_str (nomark _)) (pe_tupF (pa_cons (pe_ix ixF (pv 2) pe_int (fun _ _ => rfl)) (pa_cons (pe_xfK (pv 0)) pa_nil))) (pe_tupF (pa_cons (pe_ix ixF (pv 2) pe_int (fun _ _ => rfl)) pa_nil)))))))))))))), ?_⟩
    have hx : XdAt H d := by
      rcases hk with ⟨_, dd, v, rfl, e, _⟩ | ⟨_, rfl, _⟩
      · exact ⟨_, e⟩
      · exact True.intro
    have fin : ∀ {H2 : Hp}, Same H H2 → H2 a = some (exK a (.ref (C k)) d) ∧ XdAt H2 d := fun {H2} s => ⟨s _ _ ha, by
      cases d with
      | none => exact True.intro
      | some dd =>
        obtain ⟨fs, hfs⟩ := hx
        exact ⟨fs, s _ _ hfs⟩⟩
    have bk : ∀ {H2 : Hp} {b : Addr}, Same H H2 → H2 b = none → H b = none := fun {H2} {b} s h => by
      cases e : H b with
      | none => rfl
      | some o =>
        rw [s _ _ e] at h
        cases h
    have r0 : ∀ H', Rws k H' [] 0 := fun H' => ⟨rfl, fun i w b hi => by omega⟩
    refine seq_nx (fun σ' H' => ∃ (l : Addr) (vs : List V), σ' = [some (.ref a), some (.ref l), none, none, none] ∧ Same H H' ∧ H' l = some (.lst vs) ∧ Rws k H' vs 2 ∧ H l = none) (fun Z hZ => ?_) ?_
    · walk_at "s"
      refine rIsK_of T .row ha hx ⟨sz_le (by decide), view_tup VW.start fun t1 A1 v1 => ?_⟩
      have f1 := fin v1.fr
      refine rIsK_of T .turn f1.1 f1.2 ⟨sz_le (by decide), view_tup v1 fun t2 A2 v2 => ⟨sz_le (by decide), view_new v2 fun l2 A3 v3 => hZ _ _ ⟨l2, _, rfl, v3.fr, v3.facts.1, ?_, v3.own _ List.mem_cons_self⟩⟩⟩
      exact ((r0 A3).snoc (j := .row) (p := t1) rfl rfl (v3.tu _ (List.mem_cons_of_mem _ List.mem_cons_self))).snoc (j := .turn) (p := t2) rfl rfl (v3.tu _ List.mem_cons_self)
    rintro σ1 H1 ⟨l, vs, rfl, s1, hl, hw, hn⟩
    refine seq_nx (fun σ' H' => ∃ (l : Addr) (vs : List V), σ' = [some (.ref a), some (.ref l), none, none, none] ∧ Same H H' ∧ H' l = some (.lst vs) ∧ Rws k H' vs 4 ∧ H l = none) (fun Z hZ => ?_) ?_
    · walk_at "s"
      refine rIsK_of T .place (fin s1).1 (fin s1).2 ⟨sz_le (by decide), view_tup VW.start fun t1 A1 v1 => ?_⟩
      have f1 := fin (Same.cp s1 v1.fr)
      refine rIsK_of T .number f1.1 f1.2 ⟨sz_le (by decide), view_tup v1 fun t2 A2 v2 => ⟨sz_le (by decide), view_new v2 fun l2 A3 v3 => ?_⟩⟩
      have lv := hw.1
      refine ⟨_, v3.fr _ _ hl, _, v3.facts.1, sz_le (by simp [lv]), view_new v3 fun l3 A4 v4 => hZ _ _ ⟨l3, _, rfl, Same.cp s1 v4.fr, v4.facts.1, ?_, bk s1 (v4.own _ List.mem_cons_self)⟩⟩
      have h2 := ((hw.same v4.fr).snoc (j := .place) (p := t1) rfl rfl (v4.tu _ (List.mem_cons_of_mem _ List.mem_cons_self))).snoc (j := .number) (p := t2) rfl rfl (v4.tu _ List.mem_cons_self)
      simpa using h2
    clear hw hl s1 hn
    clear l vs
    clear H1
    rintro σ1 H1 ⟨l, vs, rfl, s1, hl, hw, hn⟩
    refine seq_nx (fun σ' H' => ∃ (l : Addr) (vs : List V), σ' = [some (.ref a), some (.ref l), none, none, none] ∧ Same H H' ∧ H' l = some (.lst vs) ∧ Rws k H' vs 6 ∧ H l = none) (fun Z hZ => ?_) ?_
    · walk_at "s"
      refine rIsK_of T .other (fin s1).1 (fin s1).2 ⟨sz_le (by decide), view_tup VW.start fun t1 A1 v1 => ?_⟩
      have f1 := fin (Same.cp s1 v1.fr)
      refine rIsK_of T .text f1.1 f1.2 ⟨sz_le (by decide), view_tup v1 fun t2 A2 v2 => ⟨sz_le (by decide), view_new v2 fun l2 A3 v3 => ?_⟩⟩
      have lv := hw.1
      refine ⟨_, v3.fr _ _ hl, _, v3.facts.1, sz_le (by simp [lv]), view_new v3 fun l3 A4 v4 => hZ _ _ ⟨l3, _, rfl, Same.cp s1 v4.fr, v4.facts.1, ?_, bk s1 (v4.own _ List.mem_cons_self)⟩⟩
      have h2 := ((hw.same v4.fr).snoc (j := .other) (p := t1) rfl rfl (v4.tu _ (List.mem_cons_of_mem _ List.mem_cons_self))).snoc (j := .text) (p := t2) rfl rfl (v4.tu _ List.mem_cons_self)
      simpa using h2
    clear hw hl s1 hn
    clear l vs
    clear H1
    rintro σ1 H1 ⟨l, vs, rfl, s1, hl, hw, hn⟩
    refine seq_nx (fun σ' H' => ∃ (l : Addr) (vs : List V), σ' = [some (.ref a), some (.ref l), none, none, none] ∧ Same H H' ∧ H' l = some (.lst vs) ∧ Rws k H' vs 8 ∧ H l = none) (fun Z hZ => ?_) ?_
    · walk_at "s"
      refine rIsK_of T .way (fin s1).1 (fin s1).2 ⟨sz_le (by decide), view_tup VW.start fun t1 A1 v1 => ?_⟩
      have f1 := fin (Same.cp s1 v1.fr)
      refine rIsK_of T .nothing f1.1 f1.2 ⟨sz_le (by decide), view_tup v1 fun t2 A2 v2 => ⟨sz_le (by decide), view_new v2 fun l2 A3 v3 => ?_⟩⟩
      have lv := hw.1
      refine ⟨_, v3.fr _ _ hl, _, v3.facts.1, sz_le (by simp [lv]), view_new v3 fun l3 A4 v4 => hZ _ _ ⟨l3, _, rfl, Same.cp s1 v4.fr, v4.facts.1, ?_, bk s1 (v4.own _ List.mem_cons_self)⟩⟩
      have h2 := ((hw.same v4.fr).snoc (j := .way) (p := t1) rfl rfl (v4.tu _ (List.mem_cons_of_mem _ List.mem_cons_self))).snoc (j := .nothing) (p := t2) rfl rfl (v4.tu _ List.mem_cons_self)
      simpa using h2
    clear hw hl s1 hn
    clear l vs
    clear H1
    rintro σ1 H1 ⟨l, vs, rfl, s1, hl, hw, hn⟩
    refine seq_nx (fun σ' H' => ∃ (l : Addr) (vs : List V), σ' = [some (.ref a), some (.ref l), none, none, none] ∧ Same H H' ∧ H' l = some (.lst vs) ∧ Rws k H' vs 9 ∧ H l = none) (fun Z hZ => ?_) ?_
    · unfold tDrop tLM rAppF
      walk_at "s"
      have lv := hw.1
      refine ⟨⟨_, hl⟩, rIsK_of T .great (fin s1).1 (fin s1).2 ⟨sz_le (by decide), view_tup VW.start fun t1 A1 v1 => ⟨_, v1.fr _ _ hl, sz_lt (by omega), ?_⟩⟩⟩
      refine hZ _ _ ⟨l, _, rfl, fun b o h => ?_, upd_same, ?_, hn⟩
      · rw [upd_ne (ne_of_none h hn)]
        exact v1.fr _ _ (s1 _ _ h)
      · refine ((hw.same v1.fr).snoc (j := .great) (p := t1) rfl rfl (v1.tu _ List.mem_cons_self)).keep fun p xs hp => ?_
        rw [upd_ne (fun z => by rw [z, v1.fr _ _ hl] at hp; cases hp)]
        exact hp
    clear hw hl s1 hn
    clear l vs
    clear H1
    rintro σ1 H1 ⟨l, vs, rfl, s1, hl, hw, hn⟩
    refine seq_nx (fun σ' H' => ∃ (l D : Addr), σ' = [some (.ref a), some (.ref l), some (.ref D), none, none] ∧ Same H H' ∧ H' D = some (.lst [.str k.name])) (fun Z hZ => ?_) ?_
    · refine ⟨_, rfl, l, rfl, ⟨_, SqL.of hl⟩, fun D hD => ?_⟩
      refine lc_it (walk_list (K := K) (a := l) (xs := vs)) (fun i H' => VW H1 H' [(D, .lst (fws wds9 (kbs9 k) i))] []) (VW.start.push hD) (fun i H' _ v' => SqL.of (v'.fr _ _ hl)) ?_ (fun H' v' => hZ _ _ ⟨l, D, rfl, Same.cp s1 v'.fr, ?_⟩)
      · rintro i y H4 H5 hi v1 ⟨rfl, hy⟩
        have lv := hw.1
        obtain ⟨w, hw9⟩ : ∃ w, wds9[i]? = some w := ⟨_, List.getElem?_eq_getElem (by show i < 9; omega)⟩
        obtain ⟨b, hb9⟩ : ∃ b, (kbs9 k)[i]? = some b := ⟨_, List.getElem?_eq_getElem (by show i < 9; omega)⟩
        obtain ⟨p, hp1, hp2⟩ := hw.2 i w b (by omega) hw9 hb9
        rw [hp1] at hy
        cases hy
        have nx := fws_next (n := i) hw9 hb9
        refine ⟨p, _, rfl, SqT.of (v1.fr _ _ hp2), rfl, _, _, rfl, _, _, rfl, rfl, rfl, ?_⟩
        refine ⟨_, rfl, b, rfl, ?_⟩
        cases b with
        | false =>
          rw [if_neg (by decide)] at nx ⊢
          rw [nx]
          exact v1
        | true =>
          rw [if_pos rfl] at nx ⊢
          rw [nx]
          refine ⟨_, rfl, _, v1.facts.1, ?_, v1.put 0 rfl rfl⟩
          have := fws_len (ws := wds9) (bs := kbs9 k) (n := i)
          exact sz_lt (by omega)
      · have := v'.facts.1
        rw [hw.1, fws_kd9] at this
        exact this
    rintro σ2 H2 ⟨l2, D, rfl, s2, hD⟩
    walk_at "s"
    refine ⟨_, hD, _, rfl, rfl, .inl ⟨rfl, _, hD, _, rfl, _, rfl, sz_le (by decide), view_tup VW.start fun t1 A1 v1 => ⟨_, v1.tu _ List.mem_cons_self, _, rfl, rfl, by simp [flatV], ?_⟩⟩⟩
    have hD1 := v1.fr _ _ hD
    obtain ⟨f1, f2⟩ := fin (Same.cp s2 v1.fr)
    have lst : ∀ (A : Hp), Same A1 A → A D = some (.lst [.str k.name]) ∧ A a = some (exK a (.ref (C k)) d) := fun A s => ⟨s _ _ hD1, s _ _ f1⟩
    rcases hk with ⟨hh, dd, v, rfl, e, kq⟩ | ⟨hh, rfl, kq⟩
    · have e1 : ∀ {A : Hp}, Same A1 A → A dd = some (.xd [(k.fld, v)]) := fun {A} s => s _ _ (v1.fr _ _ (s2 _ _ e))
      have q1 : ∀ {A : Hp}, Same A1 A → newTup A [.str k.name, v] fun p H' => Q (.ref p) H' := fun {A} s => view_tup VW.start fun p H' v' => kq p H' (Same.cp (Same.cp (Same.cp s2 v1.fr) s) v'.fr) (by
        rw [TdT, if_pos hh]
        exact v'.tu _ List.mem_cons_self)
      have s11 : Same A1 A1 := fun _ _ z => z
      cases k
      case other => cases hh
      case nothing => cases hh
      all_goals first
        | (rw [if_pos (by rfl)]
           exact ⟨_, hD1, _, rfl, _, rfl, _, _, f1, T.xf _, T.no _, _, e1 s11, _, rfl, sz_le (by decide), q1 s11⟩)
        | (rw [if_neg (by show ¬ inV _ [V.str "BadRow", V.str "BadTurn", V.str "BadText"] = true; decide)]
           refine ⟨_, hD1, _, rfl, _, rfl, sz_le (by decide), view_tup (VW.start (H := A1)) fun t2 A2 v2 => ⟨_, v2.tu _ List.mem_cons_self, _, rfl, rfl, by simp [flatV], ?_⟩⟩
           obtain ⟨g1, g2⟩ := lst A2 v2.fr
           first
           | (rw [if_pos (by rfl)]
              exact ⟨_, g1, _, rfl, _, rfl, _, _, g2, T.xf _, T.no _, _, e1 v2.fr, _, rfl, sz_le (by decide), q1 v2.fr⟩)
           | (rw [if_neg (by show ¬ inV _ [V.str "BadPlace", V.str "BadNumber", V.str "BadWay"] = true; decide)]
              refine ⟨_, g1, _, rfl, _, rfl, rfl, ?_⟩
              rw [if_pos (by rfl)]
              exact ⟨_, g1, _, rfl, _, rfl, _, _, g2, T.xf _, T.no _, _, e1 v2.fr, _, rfl, sz_le (by decide), q1 v2.fr⟩))
    · have q1 : ∀ {A : Hp}, Same A1 A → newTup A [.str k.name] fun p H' => Q (.ref p) H' := fun {A} s => view_tup VW.start fun p H' v' => kq p H' (Same.cp (Same.cp (Same.cp s2 v1.fr) s) v'.fr) (by
        rw [TdT, if_neg (by rw [hh]; decide)]
        exact v'.tu _ List.mem_cons_self)
      cases k
      case other =>
        rw [if_neg (by show ¬ inV _ [V.str "BadRow", V.str "BadTurn", V.str "BadText"] = true; decide)]
        refine ⟨_, hD1, _, rfl, _, rfl, sz_le (by decide), view_tup (VW.start (H := A1)) fun t2 A2 v2 => ⟨_, v2.tu _ List.mem_cons_self, _, rfl, rfl, by simp [flatV], ?_⟩⟩
        obtain ⟨g1, g2⟩ := lst A2 v2.fr
        rw [if_neg (by show ¬ inV _ [V.str "BadPlace", V.str "BadNumber", V.str "BadWay"] = true; decide)]
        refine ⟨_, g1, _, rfl, _, rfl, rfl, ?_⟩
        rw [if_neg (by decide)]
        exact ⟨_, g1, _, rfl, _, rfl, sz_le (by decide), q1 v2.fr⟩
      case nothing =>
        rw [if_neg (by show ¬ inV _ [V.str "BadRow", V.str "BadTurn", V.str "BadText"] = true; decide)]
        refine ⟨_, hD1, _, rfl, _, rfl, sz_le (by decide), view_tup (VW.start (H := A1)) fun t2 A2 v2 => ⟨_, v2.tu _ List.mem_cons_self, _, rfl, rfl, by simp [flatV], ?_⟩⟩
        obtain ⟨g1, g2⟩ := lst A2 v2.fr
        rw [if_neg (by show ¬ inV _ [V.str "BadPlace", V.str "BadNumber", V.str "BadWay"] = true; decide)]
        refine ⟨_, g1, _, rfl, _, rfl, rfl, ?_⟩
        rw [if_neg (by decide)]
        exact ⟨_, g1, _, rfl, _, rfl, sz_le (by decide), q1 v2.fr⟩
      all_goals cases hh
end
theorem Et.any {K : PySem.W.Frag} {mg : Str → Option Value} {CF : Addr} {C : Kd → Addr} (T : Exs K mg CF C) {Q : VK} {cls : Value} {d : Option Addr} {H : Hp} (h : Et C Q cls d H) : PySem.W.exmAny K cls [.ref CF, .ref (C .great)] = some true := by
  obtain ⟨k, rfl, _⟩ := h
  exact T.any k
def tbT (f : Addr) (F : Hp → Prop) (tl : XK → Hp → VK → Prop) : WX → TS := fun W D σ H => ∃ Ech : XK, (∀ cls d σ' H', Ech cls d H' → W cls d σ' H') ∧ σ[0]? = some (some (.ref f)) ∧ F H ∧ tl Ech H fun v H1 => D.nx (σ.set 1 (some v)) H1
/-- of a call that is told: what it returns, alone in a list, or what is told of its exception -/
def TTt (C : Kd → Addr) : (XK → Hp → VK → Prop) → Hp → VK → Prop := fun tl H Q => ∀ H1, Same H H1 → ∀ Qx : VK, (∀ v H2, Qh Q v H2 → Qx v H2) → tl (Et C Q) H1 Qx
theorem scTold : FnScope ["call", "found", "error", "e"] ["call"] (defScope sTold) := ⟨rfl, rfl, rfl, by decide +kernel, rfl, by decide +kernel, by decide +kernel⟩
theorem told_gives {X : Cx} {g CF fC : Addr} {fdC : FuncData} {cdg : Value} {C : Kd → Addr} (T : Exs X.K X.mg CF C) (B : Blt X.mg) (cClass : Dn X.prog X.w X.K X.mg X.base 1 "_law_class" fC fdC ["error"] (spClass C)) (hr : Room 3 X.A) :
    GivesN X ["call", "found", "error", "e"] "_law_told" (defScope sTold) g cdg (defBody sTold) "call" (TTt C) := by
  intro f s H Q tl F stays act hc h
  refine ⟨_, (pss_cons (ps_asg (pe_tupF (pa_cons pe_non (pa_cons pe_non pa_nil))) (pg_tup (by rfl) (pgs_cons (pg_name (i := 1) scTold.nd rfl (by first | exact Or.inl rfl | exact Or.inr rfl)) (pgs_cons (pg_name (i := 2) scTold.nd rfl (by first | exact Or.inl rfl | exact Or.inr rfl)) pgs_nil))))
      (pss_cons (ps_try_two (i := 3) (n := "e") (tb := tbT f F tl) (ts := fun a => tAsg (tVar 3) (gName 2)) rfl rfl rfl scTold.nd rfl rfl (by rfl) T.mgF (by rfl) (T.mgc .great) (fun W pn xe tk _ => (⟨fun pins s' σ H' D I h => by
        obtain ⟨Ech, hW, h1, h2, h3⟩ := h
        exact (pss_one (ps_set (i := 1) scTold.nd rfl (Or.inl rfl) (act W pn xe Ech _ _ tk hW))).run pins s' σ H' D I ⟨h1, h2, h3⟩⟩ : PSs _ _ _)) (fun a pn => pss_one (ps_set (i := 2) scTold.nd rfl (Or.inl rfl) (pv 3))))
      (pss_one (ps_ret (pe_ifExp (pt_cmpR op_isN (pv 2) pe_non (nomark _)) (pe_lstF (pa_cons (pv 1) pa_nil)) (pe_call cClass.ok ((hr.deeper _).mono (by decide)) rfl cClass.mgf cClass.kp cClass.bi .nil pass0 (pa_cons (pv 2) pa_nil))))))), ?_⟩
  refine ⟨sz_le (by decide), view_tup VW.start fun p0 H1 v1 => ⟨p0, _, rfl, SqT.of (v1.tu _ List.mem_cons_self), rfl, _, _, rfl, _, _, rfl, rfl, ?_⟩⟩
  refine ⟨Et C Q, ?_, rfl, stays _ _ v1.fr hc, ?_⟩
  · rintro cls d σ' H' hE
    refine ⟨Et.any T hE, fun a ha hl => ?_⟩
    obtain ⟨a0, a1, a2, a3, rfl⟩ : ∃ a0 a1 a2 a3 : Option V, σ' = [a0, a1, a2, a3] := by
      match σ', hl with
      | [a0, a1, a2, a3], _ => exact ⟨a0, a1, a2, a3, rfl⟩
    have sa : Same H' (upd H' a (exK a cls d)) := Same.new ha
    obtain ⟨k, rfl, hE⟩ := hE
    walk_at "s"
    intro _
    refine ⟨a, k, d, rfl, upd_same, ?_⟩
    rcases hE with ⟨hh, dd, v, rfl, e, kq⟩ | ⟨hh, rfl, kq⟩
    · exact .inl ⟨hh, dd, v, rfl, sa _ _ e, fun p H'' s h => kq p H'' (Same.cp sa s) h⟩
    · exact .inr ⟨hh, rfl, fun p H'' s h => kq p H'' (Same.cp sa s) h⟩
  · refine h H1 v1.fr _ fun v H2 hv => ?_
    walk_at "s"
    exact ⟨sz_le (by decide), fun p hp => hv p _ (Same.new hp) upd_same⟩
end Fab
set_option maxHeartbeats 4000000
namespace Fab
open PySem L2 PySem.FabX
open PyProof.Rows (envOfC)
abbrev sDoAll : Stmt := inClass (top 59) 6
abbrev sBTr : Stmt := inClass (top 59) 11
abbrev sKI : Stmt := inClass (top 60) 0
abbrev sTI : Stmt := inClass (top 61) 0
abbrev sTE : Stmt := inClass (top 61) 1
abbrev sTX : Stmt := inClass (top 61) 2
abbrev sTried : Stmt := top 62
local macro_rules | `(tactic| walk_at "s") => `(tactic| simp [tPar, tProp, tFldF, sFldF, putF, tSeq, tAsg, tOp, tUn, tVar, tC, gName, tCons, tNil, tCB, tCall, rI, rI0, rU, tRet, tDrop, tIfS, tNext, tIf, tTest, tNot, tOr, tAnd, tB, L2.start, CMul, CDiv, rIxF, rLenF, rIntF, sq_lst, sq_tup, tLstF, tTupF, gSub, rCatF, rCatTF, rInF, rNe, rEq, tAndV, tOrV, tNotV, tChain, rTupF, rListF, tFldF, tRx, tMake, tMeth, tSl, tPart, tNoPart, rSlTF, rSlF, tRevTF, gTup, gCons, gNil, rIsB, rNotB, tLM, rAppF, tLstRgF, tRg2, tLstRg, iRng1, iRng2])
/-- what the text says of Kept and Trial -/
structure TriC (K : PySem.W.Frag) (mg : Str → Option Value) (CB CM CK CT : Addr) : Prop where
  clK : Cls K CK
  nKM : NoAttr K CK "moment"
  nKO : NoAttr K CK "outer"
  clT : Cls K CT
  nTB : NoAttr K CT "bench"
  nTK : NoAttr K CT "kept"
  mgK : mg "Kept" = some (.ref CK)
  mgT : mg "Trial" = some (.ref CT)
  tk : CT ≠ CK
  tb : CT ≠ CB
  kb : CK ≠ CB
section
variable {P : Program} {w : World} {K : PySem.W.Frag} {mg : Str → Option Value} {base : Heap} {C : Kd → Addr} {CR CB CM CK CT : Addr}
def spDoAll (K : PySem.W.Frag) (C : Kd → Addr) (CR CB CM : Addr) : Sp := fun vs H Q E => ∃ (b r0 r1 : Addr) (x : V) (ws : List Int) (ps us : List (Nat × Nat)) (many : Nat), vs = [.ref b, x] ∧ BenAt CR CB CM H b r0 r1 ws ps us ∧ IsRow ws many ∧ many ≤ 24 ∧ ps.length ≤ 1000 ∧
  ((∃ (c : Addr) (o : HO) (xs : List V) (n : Nat) (qs : List (Nat × Nat)), x = .ref c ∧ H c = some o ∧ (o = .lst xs ∨ o = .tup xs) ∧ n ≤ xs.length ∧ xs.length ≤ 1000 ∧ qs.length = n ∧ PrL H (xs.take n) qs ∧ (∀ p ∈ qs, p.1 ≤ p.2 ∧ p.2 < many) ∧
    ((n = xs.length ∧ (qs = [] → ∀ q H', Same H H' → RowAt CR H' q (ws.map V.int) → Q (.ref q) H') ∧ (qs ≠ [] → ∀ q H', SmX b H H' → BenAt CR CB CM H' b r0 r1 (foldT ws qs) (ps ++ qs) [] → RowAt CR H' q ((foldT ws qs).map V.int) → Q (.ref q) H')) ∨
     (∃ y ov, xs[n]? = some y ∧ (∀ H', Same H H' → StV K H' y ov) ∧ stOk ((many : Int) - 1) ov = false ∧ ∀ d H', Same H H' → H' d = some (.xd [("place", .int (n : Nat))]) → E (.ref (C .turn)) (some d) H'))) ∨
   ((∀ H', Same H H' → ∃ t, TyX K H' x t ∧ PySem.W.kitAny K t [.type "list", .type "tuple"] = some false) ∧ ∀ d H', Same H H' → H' d = some (.xd [("place", .non)]) → E (.ref (C .turn)) (some d) H'))
theorem scDoAll : FnScope ["self", "turnings", "behind"] ["self", "turnings"] (defScope sDoAll) := ⟨rfl, rfl, rfl, by decide +kernel, rfl, by decide +kernel, by decide +kernel⟩
theorem ok_doall {f fM fR fT : Addr} {fd fdM fdR fdT : FuncData} {pr : Addr} (F : Fun K "do_all" "Bench.do_all" sDoAll f fd) (B : Blt mg) (N : BenC K mg CR CB CM) (MM : Mk K CM fM) (FMI : FnOk P w K mg base CX0 1 fM fdM ["self", "here", "done", "undone"] (spMI CM)) (mb : Binds K fdM ["self", "here", "done", "undone"] [])
    (PRow : PropOf K CB "row" pr fR) (FRow : FnOk P w K mg base CX0 1 fR fdR ["self"] (spBRow CR CB CM)) (bRow : Binds K fdR ["self"] []) (cRun : DnX P w K mg base 6 "run" fT fdT ["row", "turnings"] (spRun K C CR)) : FnOk P w K mg base (L2.CX P w) 7 f fd ["self", "turnings"] (spDoAll K C CR CB CM) := by
  refine F.okX scDoAll (fun vs H Q E h => ?_) (fun cdv A outer s H vs Q E hr h => ⟨_, (pss_cons (ps_set (i := 2) scDoAll.nd rfl (by first | exact Or.inl rfl | exact Or.inr rfl) (pe_call (E := E) cRun.ok (hr.mono (by decide)) rfl cRun.mgf cRun.kp cRun.bi .nil (passes_call (takes_of rfl rfl rfl rfl) (fun _ _ _ _ h => h)) (pa_cons (pe_prop (pv 0) N.cl PRow FRow (hr.mono (by decide)) bRow .nil pass0 (by rfl)) (pa_cons (pv 1) pa_nil))))
      (pss_cons (ps_if (pt_truth (pv 1) (fun _ => rfl)) (pss_one (ps_fldF (pv 0) (pe_make (E := fun _ _ _ => False) MM FMI (hr.mono (by decide)) (by rfl) N.mgM mb .nil pass0 (pa_cons (pv 2) (pa_cons (pe_op catTF (pe_fldF (pe_fldF (pv 0))) (pe_callTy tupF (by rfl) B.tuple (by decide +kernel) (pa_cons (pv 1) pa_nil))) (pa_cons (pe_tupF pa_nil) pa_nil)))))) pss_nil)
      (pss_one (ps_ret (pe_prop (pv 0) N.cl PRow FRow (hr.mono (by decide)) bRow .nil pass0 (by rfl)))))), ?_⟩)
  · obtain ⟨b, r0, r1, x, ws, ps, us, n, rfl, _⟩ := h
    rfl
  · obtain ⟨b, r0, r1, x, ws, ps, us, many, rfl, hB, hw, hm, lp, hx⟩ := h
    obtain ⟨dx, mo, h, td, tu, zs, ys, h1, ⟨dm, h2⟩, h3, h4, h5, h6, h7⟩ := id hB
    refine seq_q (fun σ' H' => ∃ (c : Addr) (o : HO) (xs : List V) (qs : List (Nat × Nat)) (q : Addr), x = .ref c ∧ σ' = [some (.ref b), some x, some (.ref q)] ∧ Same H H' ∧ H c = some o ∧ (o = .lst xs ∨ o = .tup xs) ∧ xs.length ≤ 1000 ∧ PrL H xs qs ∧ RowAt CR H' q ((foldT ws qs).map V.int) ∧
      (qs = [] → ∀ q H', Same H H' → RowAt CR H' q (ws.map V.int) → Q (.ref q) H') ∧ (qs ≠ [] → ∀ q H', SmX b H H' → BenAt CR CB CM H' b r0 r1 (foldT ws qs) (ps ++ qs) [] → RowAt CR H' q ((foldT ws qs).map V.int) → Q (.ref q) H')) (fun D2 eD2 hZ2 => ?_) ?_
    · walk_at "s"
      refine ⟨⟨_, _, h1⟩, b, r0, r1, ws, ps, us, rfl, hB, fun h' h3' => ?_⟩
      rcases hx with ⟨c, o, xs, n, qs, rfl, hc, ho, hn, hl, lq, hP, hq, hx⟩ | ⟨ty, ke⟩
      · have hsq : sq o = some xs := by rcases ho with rfl | rfl <;> rfl
        refine ⟨h', .ref c, ws, many, rfl, h3', hw, hm, .inl ⟨c, o, xs, n, qs, rfl, hc, hsq, hn, hl, lq, hP, hq, ?_⟩⟩
        rcases hx with ⟨en, k0, k1⟩ | ⟨y, ov, hy, hst, hno, ke⟩
        · refine .inl ⟨en, fun q H' s' hq' => hZ2 _ _ ⟨c, o, xs, qs, q, rfl, rfl, s', hc, ho, hl, ?_, hq', k0, k1⟩⟩
          rw [en, List.take_length] at hP
          exact hP
        · exact .inr ⟨y, ov, hy, hst, hno, fun d H' s' hd => ke d H' s' hd⟩
      · exact ⟨h', x, ws, many, rfl, h3', hw, hm, .inr ⟨ty, fun d H' s' hd => ke d H' s' hd⟩⟩
    rintro σ1 H1 ⟨c, o, xs, qs, q, rfl, rfl, s1, hc, ho, hl, hP, hq, k0, k1⟩
    have lq := hP.len
    have hP1 := hP.same s1
    have hc1 := s1 _ _ hc
    have hB1 := hB.same s1
    have lz := h5.len
    have g1 := s1 _ _ h1
    refine seq_q (fun σ' H' => σ' = [some (.ref b), some (.ref c), some (.ref q)] ∧ ((qs = [] ∧ Same H H' ∧ BenAt CR CB CM H' b r0 r1 ws ps us) ∨ (qs ≠ [] ∧ SmX b H H' ∧ BenAt CR CB CM H' b r0 r1 (foldT ws qs) (ps ++ qs) []))) (fun D2 eD2 hZ2 => ?_) ?_
    · walk_at "s"
      have hsq : sq o = some xs := by rcases ho with rfl | rfl <;> rfl
      have tru : ∀ {t : Bool}, (!xs.isEmpty) = t → TruV K (.ref c) H1 t := fun {t} e => by
        rcases ho with rfl | rfl
        · exact .inl ⟨xs, SqL.of hc1, e.symm⟩
        · exact .inr (.inl ⟨xs, SqT.of hc1, e.symm⟩)
      cases hq0 : qs with
      | nil =>
        refine .inl ⟨tru ?_, hZ2 _ _ ⟨rfl, .inl ⟨hq0, s1, hB1⟩⟩⟩
        cases xs with
        | nil => rfl
        | cons _ _ => rw [hq0] at lq; simp at lq
      | cons q0 qr =>
        have hne : qs ≠ [] := by rw [hq0]; simp
        refine .inr ⟨tru ?_, ?_⟩
        · cases xs with
          | nil => rw [hq0] at lq; simp at lq
          | cons _ _ => rfl
        refine ⟨CB, dx, _, g1, N.cl, N.nM, _, rfl, mo, rfl, CM, dm, _, s1 _ _ h2, N.clM, N.nD, _, rfl, o, hc1, xs, hsq, view_tup (VW.start (H := H1)) fun p1 A2 v2 => ?_⟩
        refine ⟨td, rfl, _, v2.fr _ _ (s1 _ _ h4), _, v2.tu (p1, _) (.head _), sz_le (by show zs.length + xs.length ≤ _; rw [lz]; omega), view_tup v2 fun p2 A3 v3 => view_tup v3 fun p3 A4 v4 => ?_⟩
        refine mom_at fun mo2 A5 s5 nmo hmo => ?_
        have s15 := Same.tr2 v4.fr s5
        have s05 := Same.tr2 s1 s15
        have hb5 := s05 _ _ h1
        refine ⟨CB, dx, _, hb5, N.cl, N.nM, (show 3 < 1000 by decide), ?_⟩
        refine hZ2 _ _ ⟨rfl, .inr ⟨hne, (SmX.of s05).seq (SmX.start hb5), ben_put N.bm N.br hb5 hmo (hq.same s15) (s5 _ _ (v4.tu (p2, _) (.tail _ (.head _)))) ?_ (s5 _ _ (v4.tu (p3, _) (.head _))) .nil⟩⟩
        exact PrL.app (h5.same s05) (hP.same s05)
    rintro σ2 H2 ⟨rfl, h | h⟩
    · obtain ⟨e, s2, hB2⟩ := h
      walk_at "s"
      obtain ⟨dx2, mo2, _, _, _, _, _, gg, _⟩ := id hB2
      exact ⟨⟨_, _, gg⟩, b, r0, r1, _, _, _, rfl, hB2, fun h' h3' => k0 e h' H2 s2 h3'⟩
    · obtain ⟨e, s2, hB2⟩ := h
      walk_at "s"
      obtain ⟨dx2, mo2, _, _, _, _, _, gg, _⟩ := id hB2
      exact ⟨⟨_, _, gg⟩, b, r0, r1, _, _, _, rfl, hB2, fun h' h3' => k1 e h' H2 s2 hB2 h3'⟩
def spKI (CK : Addr) : Sp := fun vs H Q _ => ∃ (p dx : Addr) (x y : V), vs = [.ref p, x, y] ∧ H p = some (.ins CK dx []) ∧ ∀ H', (∀ b u, H b = some u → b ≠ p → H' b = some u) → H' p = some (.ins CK dx [("moment", x), ("outer", y)]) → Q .non H'
theorem scKI : FnScope ["self", "moment", "outer"] ["self", "moment", "outer"] (defScope sKI) := ⟨rfl, rfl, rfl, by decide +kernel, rfl, by decide +kernel, by decide +kernel⟩
theorem ok_ki {f : Addr} {fd : FuncData} (F : Fun K "__init__" "Kept.__init__" sKI f fd) (TC : TriC K mg CB CM CK CT) : FnOk P w K mg base CX0 1 f fd ["self", "moment", "outer"] (spKI CK) := by
  refine F.ok scKI (fun vs H Q E h => ?_) (fun cdv A outer s H vs Q E hr h => ⟨_, (pss_cons (ps_fldF (pv 0) (pv 1))
      (pss_one (ps_fldF (pv 0) (pv 2)))), ?_⟩)
  · obtain ⟨p, dx, x, y, rfl, _⟩ := h
    rfl
  · obtain ⟨p, dx, x, y, rfl, hp, k⟩ := h
    refine ⟨_, rfl, _, rfl, p, rfl, CK, dx, [], hp, TC.clK, TC.nKM, by decide, ?_⟩
    refine ⟨_, rfl, _, rfl, p, rfl, CK, dx, _, upd_same, TC.clK, TC.nKO, (show 1 < 1000 by decide), ?_⟩
    refine k _ (fun b u hb hne => ?_) ?_
    · rw [upd_ne hne, upd_ne hne]
      exact hb
    · rw [upd_same]
      rfl
theorem kept_at {H : Hp} {x y : V} {Q : Addr → Hp → Prop} {E : XK} (k : ∀ p dx H', Same H H' → H p = none → H' p = some (.ins CK dx [("moment", x), ("outer", y)]) → Q p H') :
    ∀ p dx, H p = none → H dx = none → dx ≠ p → spKI CK [.ref p, x, y] (upd (upd H dx (.own p)) p (.ins CK dx [])) (fun v H2 => v = .non ∧ Q p H2) E := by
  intro p dx np ndx nex
  have e1 : Same H (upd (upd H dx (.own p)) p (.ins CK dx [])) := fun c u hc => by
    rw [upd_ne (ne_of_none hc np), upd_ne (ne_of_none hc ndx)]
    exact hc
  exact ⟨p, dx, x, y, rfl, upd_same, fun H' fr hp => ⟨rfl, k p dx H' (fun b u hb => fr b u (e1 _ _ hb) (ne_of_none hb np)) np hp⟩⟩
def spTI (CT : Addr) : Sp := fun vs H Q _ => ∃ (p dx : Addr) (x : V), vs = [.ref p, x] ∧ H p = some (.ins CT dx []) ∧ ∀ H', (∀ b u, H b = some u → b ≠ p → H' b = some u) → H' p = some (.ins CT dx [("bench", x), ("kept", .non)]) → Q .non H'
theorem scTI : FnScope ["self", "bench"] ["self", "bench"] (defScope sTI) := ⟨rfl, rfl, rfl, by decide +kernel, rfl, by decide +kernel, by decide +kernel⟩
theorem ok_ti {f : Addr} {fd : FuncData} (F : Fun K "__init__" "Trial.__init__" sTI f fd) (TC : TriC K mg CB CM CK CT) : FnOk P w K mg base CX0 1 f fd ["self", "bench"] (spTI CT) := by
  refine F.ok scTI (fun vs H Q E h => ?_) (fun cdv A outer s H vs Q E hr h => ⟨_, (pss_cons (ps_fldF (pv 0) (pv 1))
      (pss_one (ps_fldF (pv 0) pe_non))), ?_⟩)
  · obtain ⟨p, dx, x, rfl, _⟩ := h
    rfl
  · obtain ⟨p, dx, x, rfl, hp, k⟩ := h
    refine ⟨_, rfl, _, rfl, p, rfl, CT, dx, [], hp, TC.clT, TC.nTB, by decide, ?_⟩
    refine ⟨_, rfl, p, rfl, CT, dx, _, upd_same, TC.clT, TC.nTK, (show 1 < 1000 by decide), ?_⟩
    refine k _ (fun b u hb hne => ?_) ?_
    · rw [upd_ne hne, upd_ne hne]
      exact hb
    · rw [upd_same]
      rfl
def spBTr (CT : Addr) : Sp := fun vs H Q _ => ∃ b : Addr, vs = [.ref b] ∧ ∀ t dt H', Same H H' → H t = none → H' t = some (.ins CT dt [("bench", .ref b), ("kept", .non)]) → Q (.ref t) H'
theorem scBTr : FnScope ["self"] ["self"] (defScope sBTr) := ⟨rfl, rfl, rfl, by decide +kernel, rfl, by decide +kernel, by decide +kernel⟩
theorem ok_btr {f fT : Addr} {fd fdT : FuncData} (F : Fun K "trial" "Bench.trial" sBTr f fd) (TC : TriC K mg CB CM CK CT) (MT : Mk K CT fT) (FTI : FnOk P w K mg base CX0 1 fT fdT ["self", "bench"] (spTI CT)) (tb : Binds K fdT ["self", "bench"] []) : FnOk P w K mg base CX0 3 f fd ["self"] (spBTr CT) := by
  refine F.ok scBTr (fun vs H Q E h => ?_) (fun cdv A outer s H vs Q E hr h => ⟨_, (pss_one (ps_ret (pe_make (E := fun _ _ _ => False) MT FTI (hr.mono (by decide)) (by rfl) TC.mgT tb .nil pass0 (pa_cons (pv 0) pa_nil)))), ?_⟩)
  · obtain ⟨b, rfl, _⟩ := h
    rfl
  · obtain ⟨b, rfl, k⟩ := h
    refine ⟨_, rfl, fun p dx np ndx nex => ?_⟩
    have e1 : Same H (upd (upd H dx (.own p)) p (.ins CT dx [])) := fun c u hc => by
      rw [upd_ne (ne_of_none hc np), upd_ne (ne_of_none hc ndx)]
      exact hc
    exact ⟨p, dx, _, rfl, upd_same, fun H' fr hp => ⟨rfl, k p dx H' (fun b u hb => fr b u (e1 _ _ hb) (ne_of_none hb np)) np hp⟩⟩
def spTE (CB CK CT : Addr) : Sp := fun vs H Q _ => ∃ (t dt b db : Addr) (f g m kv : V), vs = [.ref t] ∧ H t = some (.ins CT dt [("bench", .ref b), ("kept", kv)]) ∧ H b = some (.ins CB db [("first", f), ("goal", g), ("moment", m)]) ∧
  ∀ k dk H', (∀ a u, a ≠ t → H a = some u → H' a = some u) → H k = none → H' t = some (.ins CT dt [("bench", .ref b), ("kept", .ref k)]) → H' k = some (.ins CK dk [("moment", m), ("outer", kv)]) → Q (.ref b) H'
theorem scTE : FnScope ["self"] ["self"] (defScope sTE) := ⟨rfl, rfl, rfl, by decide +kernel, rfl, by decide +kernel, by decide +kernel⟩
theorem ok_te {f fK : Addr} {fd fdK : FuncData} (F : Fun K "__enter__" "Trial.__enter__" sTE f fd) (N : BenC K mg CR CB CM) (TC : TriC K mg CB CM CK CT) (MK : Mk K CK fK) (FKI : FnOk P w K mg base CX0 1 fK fdK ["self", "moment", "outer"] (spKI CK)) (kb : Binds K fdK ["self", "moment", "outer"] []) : FnOk P w K mg base CX0 3 f fd ["self"] (spTE CB CK CT) := by
  refine F.ok scTE (fun vs H Q E h => ?_) (fun cdv A outer s H vs Q E hr h => ⟨_, (pss_cons (ps_fldF (pv 0) (pe_make (E := fun _ _ _ => False) MK FKI (hr.mono (by decide)) (by rfl) TC.mgK kb .nil pass0 (pa_cons (pe_fldF (pe_fldF (pv 0))) (pa_cons (pe_fldF (pv 0)) pa_nil))))
      (pss_one (ps_ret (pe_fldF (pv 0))))), ?_⟩)
  · obtain ⟨t, dt, b, db, f, g, m, kv, rfl, _⟩ := h
    rfl
  · obtain ⟨t, dt, b, db, f, g, m, kv, rfl, ht, hb, k⟩ := h
    walk_at "s"
    refine ⟨CT, dt, _, ht, TC.clT, TC.nTB, _, rfl, b, rfl, CB, db, _, hb, N.cl, N.nM, _, rfl, CT, dt, _, ht, TC.clT, TC.nTK, _, rfl, ?_⟩
    refine kept_at fun p dp H1 s1 np hp => ?_
    have ht1 := s1 _ _ ht
    refine ⟨CT, dt, _, ht1, TC.clT, TC.nTK, (show 2 < 1000 by decide), ?_⟩
    refine ⟨CT, dt, _, upd_same, TC.clT, TC.nTB, _, rfl, ?_⟩
    refine k p dp _ (fun a u ha h => by rw [upd_ne ha]; exact s1 _ _ h) np (by rw [upd_same]; rfl) ?_
    rw [upd_ne (fun z => by rw [z, ht] at np; cases np)]
    exact hp
def spTX (CB CK CT : Addr) : Sp := fun vs H Q _ => ∃ (t dt b db k dk : Addr) (f g m m' kv x y z : V), vs = [.ref t, x, y, z] ∧ H t = some (.ins CT dt [("bench", .ref b), ("kept", .ref k)]) ∧ H k = some (.ins CK dk [("moment", m), ("outer", kv)]) ∧ H b = some (.ins CB db [("first", f), ("goal", g), ("moment", m')]) ∧
  ∀ H', (∀ a u, a ≠ b → a ≠ t → H a = some u → H' a = some u) → H' b = some (.ins CB db [("first", f), ("goal", g), ("moment", m)]) → H' t = some (.ins CT dt [("bench", .ref b), ("kept", kv)]) → Q .non H'
theorem scTX : FnScope ["self", "kind", "value", "trace"] ["self", "kind", "value", "trace"] (defScope sTX) := ⟨rfl, rfl, rfl, by decide +kernel, rfl, by decide +kernel, by decide +kernel⟩
theorem ok_tx {f : Addr} {fd : FuncData} (F : Fun K "__exit__" "Trial.__exit__" sTX f fd) (N : BenC K mg CR CB CM) (TC : TriC K mg CB CM CK CT) : FnOk P w K mg base CX0 1 f fd ["self", "kind", "value", "trace"] (spTX CB CK CT) ∧ FnQ P w K mg base 1 f fd ["self", "kind", "value", "trace"] (spTX CB CK CT) := by
  have len : ∀ vs H Q E, spTX CB CK CT vs H Q E → vs.length = ["self", "kind", "value", "trace"].length := fun vs H Q E h => by
    obtain ⟨t, dt, b, db, k, dk, f, g, m, m', kv, x, y, z, rfl, _⟩ := h
    rfl
  have go : ∀ {vs : List V} {H : Hp} {Q : VK} {E : XK}, spTX CB CK CT vs H Q E → (sFldF K (tFldF K (tVar 0) "bench") (tFldF K (tFldF K (tVar 0) "kept") "moment") "moment") { nx := fun σ1 H1 => (sFldF K (tVar 0) (tFldF K (tFldF K (tVar 0) "kept") "outer") "kept") { nx := fun _ H' => Q .non H', rt := Q } σ1 H1, rt := Q } (L2.start ["self", "kind", "value", "trace"] vs) H := fun {vs H Q E} h => by
    obtain ⟨t, dt, b, db, k, dk, f, g, m, m', kv, x, y, z, rfl, ht, hk, hb, q⟩ := h
    have nbt : b ≠ t := fun z => by rw [z, ht] at hb; cases hb
    have nkt : k ≠ t := fun z => by rw [z, ht] at hk; cases hk
    have nkb : k ≠ b := fun z => by rw [z, hb] at hk; cases hk
    walk_at "s"
    refine ⟨CT, dt, _, ht, TC.clT, TC.nTK, _, rfl, k, rfl, CK, dk, _, hk, TC.clK, TC.nKM, _, rfl, CT, dt, _, ht, TC.clT, TC.nTB, _, rfl, b, rfl, CB, db, _, hb, N.cl, N.nM, (show 3 < 1000 by decide), ?_⟩
    have a1 : ∀ {H' : Hp}, H' = upd H b (.ins CB db (putF "moment" m [("first", f), ("goal", g), ("moment", m')])) → H' t = some (.ins CT dt [("bench", .ref b), ("kept", .ref k)]) ∧ H' k = some (.ins CK dk [("moment", m), ("outer", kv)]) := fun e => by
      rw [e]
      exact ⟨by rw [upd_ne (Ne.symm nbt)]; exact ht, by rw [upd_ne nkb]; exact hk⟩
    obtain ⟨a2, a3⟩ := a1 rfl
    refine ⟨CT, dt, _, a2, TC.clT, TC.nTK, _, rfl, k, rfl, CK, dk, _, a3, TC.clK, TC.nKO, _, rfl, CT, dt, _, a2, TC.clT, TC.nTK, (show 2 < 1000 by decide), ?_⟩
    refine q _ (fun a u h1 h2 h => ?_) ?_ ?_
    · rw [upd_ne h2, upd_ne h1]
      exact h
    · rw [upd_ne nbt, upd_same]
      rfl
    · rw [upd_same]
      rfl
  constructor
  · exact F.ok scTX len (fun cdv A outer s H vs Q E hr h => ⟨_, (pss_cons (ps_fldF (pe_fldF (pv 0)) (pe_fldF (pe_fldF (pv 0))))
      (pss_one (ps_fldF (pv 0) (pe_fldF (pe_fldF (pv 0)))))), go h⟩)
  · exact Fab.Fun.okQ F scTX len (fun cdv A outer s H vs Q p h => ⟨_, (pss_cons (ps_fldF (pe_fldF (pv 0)) (pe_fldF (pe_fldF (pv 0))))
      (pss_one (ps_fldF (pv 0) (pe_fldF (pe_fldF (pv 0)))))), go h⟩)
end
/-- a call within a trial: the bench is handed over, behind it the moment is put back -/
def TTr (CB CK CT : Addr) : V → (V → XK → Hp → VK → Prop) → Hp → VK → XK → Prop := fun v tl H Q E => ∃ (b db : Addr) (f g m : V), v = .ref b ∧ H b = some (.ins CB db [("first", f), ("goal", g), ("moment", m)]) ∧
  ∀ (t k dt dk : Addr) (H1 : Hp), Same H H1 → H t = none → H k = none → H1 t = some (.ins CT dt [("bench", .ref b), ("kept", .ref k)]) → H1 k = some (.ins CK dk [("moment", m), ("outer", .non)]) →
    tl (.ref b) (fun cls d H2 => (∃ vc, RelV vc cls) ∧ ∀ x y z, spTX CB CK CT [.ref t, x, y, z] H2 (fun z H5 => z = .non ∧ E cls d H5) C8.E0) H1 (fun v H2 => spTX CB CK CT [.ref t, .non, .non, .non] H2 (fun _ H5 => Q v H5) C8.E0)
def tbR (f : Addr) (F : Hp → Prop) (tl : V → XK → Hp → VK → Prop) : WX → TE := fun W σZ HZ Q => ∃ E' : XK, (∀ cls d σ' H', E' cls d H' → W cls d σ' H') ∧ σZ[1]? = some (some (.ref f)) ∧ tVar 2 σZ HZ fun y H1 => F H1 ∧ tl y E' H1 Q
theorem spTX_mono {CB CK CT : Addr} {vs : List V} {H : Hp} {Q Q' : VK} {E E' : XK} (h : spTX CB CK CT vs H Q E) (k : ∀ H', Q .non H' → Q' .non H') : spTX CB CK CT vs H Q' E' := by
  obtain ⟨t, dt, b, db, kk, dk, f, g, m, m', kv, x, y, z, e, ht, hk, hb, q⟩ := h
  exact ⟨t, dt, b, db, kk, dk, f, g, m, m', kv, x, y, z, e, ht, hk, hb, fun H' h1 h2 h3 => k _ (q H' h1 h2 h3)⟩
theorem scTried : FnScope ["bench", "function", "same"] ["bench", "function"] (defScope sTried) := ⟨rfl, rfl, rfl, by decide +kernel, rfl, by decide +kernel, by decide +kernel⟩
theorem tried_gives {X : Cx} {g fB fE fX : Addr} {fdB fdE fdX : FuncData} {cdg : Value} {CR CB CM CK CT : Addr} (N : BenC X.K X.mg CR CB CM) (TC : TriC X.K X.mg CB CM CK CT) (mB : Meth X.K CB "trial" fB) (FB : FnOk X.prog X.w X.K X.mg X.base CX0 3 fB fdB ["self"] (spBTr CT)) (bB : Binds X.K fdB ["self"] [])
    (mE : Meth X.K CT "__enter__" fE) (mX : Meth X.K CT "__exit__" fX) (FE : FnOk X.prog X.w X.K X.mg X.base CX0 3 fE fdE ["self"] (spTE CB CK CT)) (bE : Binds X.K fdE ["self"] []) (FXX : FnOk X.prog X.w X.K X.mg X.base CX0 1 fX fdX ["self", "kind", "value", "trace"] (spTX CB CK CT) ∧ FnQ X.prog X.w X.K X.mg X.base 1 fX fdX ["self", "kind", "value", "trace"] (spTX CB CK CT)) (bX : Binds X.K fdX ["self", "kind", "value", "trace"] []) (hr : Room 4 X.A) :
    GivesT X ["bench", "function", "same"] "tried" (defScope sTried) g cdg (defBody sTried) "function" (TTr CB CK CT) := by
  intro f s H Q E v tl F stays act hF h
  have hr' : Room 3 (X.A.deeper (envOfC "tried" (defScope sTried) s.heap.objs.size g cdg)) := hr.deeper _
  have tk : Takes (cxOf (L2.CX X.prog X.w) X.prog X.w X.K X.mg X.base ["bench", "function", "same"] "tried" (defScope sTried) g cdg X.A X.stack s H E) (fun cls d _ H' => E cls d H') := takes_of rfl rfl rfl rfl
  refine ⟨_, pss_one (ps_withRet (X := cxOf (L2.CX X.prog X.w) X.prog X.w X.K X.mg X.base ["bench", "function", "same"] "tried" (defScope sTried) g cdg X.A X.stack s H E) (k := 3) (CT := CT) (teb := tbR f F tl) (tg := gName 2) rfl rfl rfl tk (pe_meth0 (pv 0) N.cl mB FB hr' bB .nil pass0) mE mX FE bE (FXX.1.mono (by decide)) ⟨FXX.2.len, fun A outer s H args us vs Q p r => FXX.2.run A outer s H args us vs Q p (r.mono (by decide))⟩ bX hr' (fun pn xe => pg_name (i := 2) scTried.nd rfl (by first | exact Or.inl rfl | exact Or.inr rfl)) (fun W pn xe tk' _ => ⟨fun pins s' σ' H' Q' I' h' => ?_⟩)), ?_⟩
  · obtain ⟨E', hW, h1⟩ := h'
    exact (act W pn xe E' _ _ _ (tVar 2) tk' hW (pv 2) rfl).run pins s' σ' H' Q' I' h1
  · obtain ⟨b, db, ff, gg, m, rfl, hb, k⟩ := h
    refine ⟨_, rfl, b, db, _, rfl, hb, by rfl, b, rfl, fun t dt H1 s1 nt ht => ?_⟩
    refine ⟨t, dt, _, rfl, ht, t, dt, b, db, ff, gg, m, .non, rfl, ht, s1 _ _ hb, fun kk dk H2 fr nk ht2 hk2 => ?_⟩
    have s2 : Same H H2 := fun a u ha => fr a u (fun z => by rw [z, nt] at ha; cases ha) (s1 _ _ ha)
    refine ⟨fun cls d H3 => (∃ vc, RelV vc cls) ∧ ∀ x y z, spTX CB CK CT [.ref t, x, y, z] H3 (fun z H5 => z = .non ∧ E cls d H5) C8.E0, fun cls d σ' H' ⟨⟨vc, r⟩, q⟩ => ⟨vc, r, fun a vt => q _ _ _⟩, rfl, _, rfl, stays _ _ s2 hF, ?_⟩
    exact k t kk dt dk H2 s2 nt (s1.free nk) ht2 hk2
/-- all but one object and the tables stays -/
def KB (b : Addr) (H H' : Hp) : Prop := ∀ a u, a ≠ b → noTbl u = true → H a = some u → H' a = some u
theorem KB.of {b : Addr} {H H' : Hp} (s : Same H H') : KB b H H' := fun _ _ _ _ h => s _ _ h
theorem KB.ofN {b : Addr} {H H' : Hp} (e : LamX.ExtN H H') : KB b H H' := fun _ _ _ n h => e _ _ h (noTbl_ne n)
theorem KB.ofX {b : Addr} {H H' : Hp} (s : SmX b H H') : KB b H H' := fun _ _ n _ h => s _ _ n h
theorem KB.trans {b : Addr} {H H1 H2 : Hp} (s : KB b H H1) (s2 : KB b H1 H2) : KB b H H2 := fun _ _ n t h => s2 _ _ n t (s _ _ n t h)
/-- the bench, whatever its moment -/
def Bsh (CB : Addr) (H : Hp) (b r0 r1 : Addr) : Prop := ∃ (db : Addr) (m : V), H b = some (.ins CB db [("first", .ref r0), ("goal", .ref r1), ("moment", m)])
theorem BenAt.bsh {CR CB CM : Addr} {H : Hp} {b r0 r1 : Addr} {ws : List Int} {ps us : List (Nat × Nat)} (h : BenAt CR CB CM H b r0 r1 ws ps us) : Bsh CB H b r0 r1 := by
  obtain ⟨dx, mo, _, _, _, _, _, h1, _⟩ := h
  exact ⟨dx, _, h1⟩
theorem Bsh.kb {CB : Addr} {H H' : Hp} {b c r0 r1 : Addr} (h : Bsh CB H b r0 r1) (k : KB c H H') (n : b ≠ c) : Bsh CB H' b r0 r1 := by
  obtain ⟨db, m, h⟩ := h
  exact ⟨db, m, k _ _ n rfl h⟩
/-- behind a trial: what is no instance stays, rows stay, what was there ahead stays but the bench -/
structure Aft (CR b : Addr) (H H2 H3 : Hp) : Prop where
  kb : KB b H H3
  ni : ∀ a u, H2 a = some u → (∀ C d fs, u ≠ .ins C d fs) → H3 a = some u
  row : ∀ q xs, RowAt CR H2 q xs → RowAt CR H3 q xs
theorem tried_ben {CR CB CM CK CT : Addr} {H : Hp} {b r0 r1 : Addr} {ws : List Int} {ps us : List (Nat × Nat)} {Q : VK} {E : XK} {tl : V → XK → Hp → VK → Prop} (br : CB ≠ CR) (tr : CT ≠ CR) (bm : CB ≠ CM) (hB : BenAt CR CB CM H b r0 r1 ws ps us)
    (k : ∀ (H1 : Hp) (Qx : VK) (Ex : XK), Same H H1 → (∀ v H2, KB b H1 H2 → Bsh CB H2 b r0 r1 → (∀ H3, Aft CR b H H2 H3 → BenAt CR CB CM H3 b r0 r1 ws ps us → Q v H3) → Qx v H2) →
      (∀ cls d H2, KB b H1 H2 → Bsh CB H2 b r0 r1 → (∃ vc, RelV vc cls) → (∀ H3, Aft CR b H H2 H3 → BenAt CR CB CM H3 b r0 r1 ws ps us → E cls d H3) → Ex cls d H2) → tl (.ref b) Ex H1 Qx) : TTr CB CK CT (.ref b) tl H Q E := by
  obtain ⟨dx, mo, h, td, tu, zs, ys, h1, ⟨dm, h2⟩, h3, h4, h5, h6, h7⟩ := id hB
  refine ⟨b, dx, _, _, _, rfl, h1, fun t kk dt dk H1 s1 nt nk ht hk => ?_⟩
  have tb : t ≠ b := fun z => by rw [z, h1] at nt; cases nt
  have kb' : kk ≠ b := fun z => by rw [z, h1] at nk; cases nk
  have fin : ∀ (H2 : Hp) (x y z : V) (R : Hp → Prop), KB b H1 H2 → Bsh CB H2 b r0 r1 → (∀ H3, Aft CR b H H2 H3 → BenAt CR CB CM H3 b r0 r1 ws ps us → R H3) → spTX CB CK CT [.ref t, x, y, z] H2 (fun z H5 => z = .non ∧ R H5) C8.E0 := fun H2 x y z R kb ⟨db, m', hb⟩ q => by
    have ht2 := kb _ _ tb rfl ht
    have hk2 := kb _ _ kb' rfl hk
    refine ⟨t, dt, b, db, kk, dk, _, _, _, _, _, x, y, z, rfl, ht2, hk2, hb, fun H3 fr hb3 ht3 => ⟨rfl, q H3 ⟨fun a u n nu ha => ?_, fun a u ha nu => ?_, fun q xs hr => ?_⟩ ?_⟩⟩
    · exact fr a u n (fun z => by rw [z, nt] at ha; cases ha) (kb a u n nu (s1 _ _ ha))
    · exact fr a u (fun z => by rw [z, hb] at ha; cases ha; exact nu _ _ _ rfl) (fun z => by rw [z, ht2] at ha; cases ha; exact nu _ _ _ rfl) ha
    · obtain ⟨d, tp, e1, e2⟩ := hr
      exact ⟨d, tp, fr _ _ (fun z => by rw [z, hb] at e1; cases e1) (fun z => by rw [z, ht2] at e1; cases e1) e1, fr _ _ (fun z => by rw [z, hb] at e2; cases e2) (fun z => by rw [z, ht2] at e2; cases e2) e2⟩
    · have up : ∀ {a : Addr} {u : HO}, H a = some u → a ≠ b → noTbl u = true → H3 a = some u := fun {a u} ha n nu => fr a u n (fun z => by rw [z, nt] at ha; cases ha) (kb a u n nu (s1 _ _ ha))
      obtain ⟨d, tp, e1, e2⟩ := h3
      have tu' : ∀ {a : Addr} {xs : List V}, H a = some (.tup xs) → H3 a = some (.tup xs) := fun {a xs} ha => up ha (fun z => by rw [z, h1] at ha; cases ha) rfl
      refine ⟨db, mo, h, td, tu, zs, ys, hb3, ⟨dm, up h2 (fun z => by rw [z, h1] at h2; cases h2) rfl⟩, ⟨d, tp, up e1 (fun z => by rw [z, h1] at e1; cases e1) rfl, tu' e2⟩, tu' h4, ?_, tu' h6, ?_⟩
      · exact Paired.mapP h5 fun _ _ ⟨a, e, ha⟩ => ⟨a, e, tu' ha⟩
      · exact Paired.mapP h7 fun _ _ ⟨a, e, ha⟩ => ⟨a, e, tu' ha⟩
  refine k H1 _ _ s1 (fun v H2 kb sh q => ?_) (fun cls d H2 kb sh vc q => ⟨vc, fun x y z => fin H2 x y z _ kb sh q⟩)
  exact spTX_mono (fin H2 .non .non .non (fun H5 => Q v H5) kb sh q) (fun H' z => z.2)
end Fab
set_option maxHeartbeats 2000000
namespace Fab
open PySem L2 PySem.FabX
abbrev sLTurn : Stmt := top 68
local macro_rules | `(tactic| walk_at "s") => `(tactic| simp [tPar, tSeq, tAsg, tOp, tUn, tVar, tC, gName, tCons, tNil, tCB, tCall, rI, rI0, rU, tRet, tDrop, tIfS, tNext, tIf, tTest, tNot, tOr, tAnd, tB, L2.start, CMul, CDiv, rIxF, rLenF, rIntF, sq_lst, sq_tup, tLstF, tTupF, gSub, rCatF, rCatTF, rInF, rNe, rEq, tAndV, tOrV, tNotV, tChain, rTupF, tFldF, tRx, tMake, tSl, tPart, tNoPart, rSlTF, rSlF, tRevTF, gTup, gCons, gNil])
section
variable {P : Program} {w : World} {K : PySem.W.Frag} {mg : Str → Option Value} {base : Heap}
def spLTurn : Sp := fun vs H Q _ => ∃ (p : Addr) (ws : List Int) (i j : Nat), vs = [.ref p, .int (i : Nat), .int (j : Nat)] ∧ H p = some (.tup (ws.map V.int)) ∧ i ≤ j ∧ j < ws.length ∧ ws.length ≤ 1000 ∧ ∀ q H', Same H H' → H' q = some (.tup ((turnL ws i j).map V.int)) → Q (.ref q) H'
theorem scLTurn : FnScope ["waggons", "first", "last", "one"] ["waggons", "first", "last"] (defScope sLTurn) := ⟨rfl, rfl, rfl, by decide +kernel, rfl, by decide +kernel, by decide +kernel⟩
theorem ok_lturn {f : Addr} {fd : FuncData} (F : Fun K "_law_turn" "_law_turn" sLTurn f fd) (B : Blt mg) : FnOk P w K mg base CX0 1 f fd ["waggons", "first", "last"] spLTurn := by
  refine F.ok scLTurn (fun vs H Q E h => ?_) (fun cdv A outer s H vs Q E hr h => ?_)
  · obtain ⟨p, ws, i, j, rfl, _⟩ := h
    rfl
  · obtain ⟨p, ws, i, j, rfl, ht, hij, hj, hz, k⟩ := h
    refine ⟨_, (pss_one (ps_ret (pe_op catTF (pe_op catTF (pe_slice slTF (pv 0) po_none (po_some (pv 1))) (pe_callTy tupF (by rfl) B.tuple (by decide +kernel) (pa_cons (pe_lc (own := [("one", 3)]) (tt := tYes) rfl scLTurn.nd (pi_tup (pe_revTF (pe_slice slTF (pv 0) (po_some (pv 1)) (po_some (pe_op op_add (pv 2) pe_int))))) (blkOk_by (own := [("one", 3)]) (N := ["waggons", "first", "last", "one"]) (sc := defScope sLTurn) (by decide +kernel)) (fun _ _ _ _ _ => (pg_name (i := 3) scLTurn.nd rfl (by first | exact Or.inl rfl | exact Or.inr rfl))) (fun _ _ _ _ _ => pts_nil) (fun _ _ _ _ _ => (pe_op op_sub pe_int (pv 3)))) pa_nil))) (pe_slice slTF (pv 0) (po_some (pe_op op_add (pv 2) pe_int)) po_none)))), ?_⟩
    walk_at "s"
    refine ⟨_, ht, view_tup VW.start fun t1 H1 v1 => ?_⟩
    rw [cut_b (by rw [List.length_map]; omega)] at v1
    have hp1 := v1.fr _ _ ht
    unfold tLc iTup tRevTF tSl rSlTF tPart
    refine ⟨_, rfl, _, rfl, i, rfl, _, rfl, _, _, rfl, rfl, _, rfl, p, rfl, _, hp1, view_tup v1 fun t2 H2 v2 => ?_⟩
    rw [cut_a hij (by rw [List.length_map]; omega)] at v2
    refine ⟨t2, rfl, _, v2.tu _ List.mem_cons_self, view_tup v2 fun t3 H3 v3 => ⟨t3, rfl, ⟨_, SqT.of (v3.tu _ List.mem_cons_self)⟩, fun D hD => lc_mapT (ws := ((ws.drop i).take (j + 1 - i)).reverse) (g := fun z => 0 - z) v3 hD (fun H' acc v' => ?_) (fun _ => rfl) (fun z _ _ q => ?_) ?_ fun H4 v4 => ?_⟩⟩
    · rw [List.map_reverse, List.map_take, List.map_drop]
      exact SqT.of (v'.tu _ List.mem_cons_self)
    · exact ⟨_, rfl, _, _, rfl, rfl, q⟩
    · rw [List.length_reverse, List.length_take, List.length_drop]
      omega
    have hz' : ∀ k : Nat, k ≤ 1000 → k ≤ sizeLine := fun k hk => sz_le (by omega)
    refine ⟨D, rfl, _, v4.facts.1, _, rfl, view_tup v4 fun t5 H5 v5 => ⟨_, v5.tu (t1, (ws.map V.int).take i) (by simp), _, v5.tu _ List.mem_cons_self, hz' _ (by simp; omega), view_tup v5 fun t6 H6 v6 => ⟨_, v6.fr _ _ ht, ?_⟩⟩⟩
    rw [cut_c (by rw [List.length_map]; omega)]
    refine view_tup v6 fun t7 H7 v7 => ⟨_, v7.tu _ (List.mem_cons_of_mem _ List.mem_cons_self), _, v7.tu _ List.mem_cons_self, hz' _ (by simp; omega), view_tup v7 fun t8 H8 v8 => ?_⟩
    have et : (ws.map V.int).take i ++ ((((ws.drop i).take (j + 1 - i)).reverse.map fun z => 0 - z).map V.int) ++ (ws.map V.int).drop (j + 1) = (turnL ws i j).map V.int := by
      unfold turnL
      simp only [List.map_append, List.map_take, List.map_drop, List.map_reverse]
    refine k t8 H8 v8.fr ?_
    rw [← et]
    exact v8.tu _ List.mem_cons_self
theorem cut_n {ws : List V} {i : Nat} (hi : i ≤ ws.length) : cutV ws (some (i : Int)) none = ws.drop i := by
  unfold cutV
  rw [HT.sIx_none, HT.sIx_nat, Nat.min_eq_left hi]
  exact List.take_of_length_le (by simp)
theorem IsRow.put {ws : List Int} {i k : Nat} {z : Int} (h : IsRow ws i) (hz : z.natAbs = i + 1) : IsRow (ws.take k ++ [z] ++ ws.drop k) (i + 1) := by
  unfold IsRow at h ⊢
  have e : (ws.take k ++ [z] ++ ws.drop k).Perm (ws ++ [z]) := by
    conv => rhs; rw [← List.take_append_drop k ws]
    rw [List.append_assoc, List.append_assoc]
    exact List.Perm.append_left _ List.perm_append_comm
  refine (e.map Int.natAbs).trans ?_
  rw [List.map_append, List.range'_1_concat]
  refine List.Perm.append h ?_
  simp [hz, Nat.add_comm]
theorem call_v0c {sp : Sp} {a v : V} {σ : St} {H : Hp} {Q : VK} (h0 : σ[0]? = some (some a)) (h : sp [a, v] H Q E0) : tCall sp [] E0 (tCons (tVar 0) (tCons (tC v) tNil)) σ H Q := by
  simp only [tCall, tCons, tVar, tC, tNil, List.append_nil]
  exact ⟨a, h0, h⟩
def spRowT (Tb : TbN) : Sp := fun vs H Q _ => ∃ (m c g : Addr) (cs : List Int) (N many : Nat), vs = [.ref m, .int (many : Nat)] ∧ many ≤ 24 ∧ DS m c g cs Tb N H ∧ N < 2 ^ 36 ∧
  ∀ (p : Addr) (ws : List Int) (H' : Hp), IsRow ws many → H' p = some (.tup (ws.map V.int)) → DS m c g cs Tb (N + 100) H' → Kn m g H H' → Q (.ref p) H'
theorem scRowT : FnScope ["m", "many", "found", "way", "n", "first", "number", "k", "one"] ["m", "many"] (defScope sRow) := ⟨rfl, rfl, rfl, by decide +kernel, rfl, by decide +kernel, by decide +kernel⟩
theorem ok_rowT {Tb : TbN} {f fD fT : Addr} {fd fdD fdT : FuncData} (F : Fun K "_law_row" "_law_row" sRow f fd) (B : Blt mg) (cDraw : Dn P w K mg base 2 "_law_draw" fD fdD ["m", "limit"] spDraw) (cTurn : Dn P w K mg base 1 "_law_turn" fT fdT ["waggons", "first", "last"] spLTurn) : FnOk P w K mg base CX0 3 f fd ["m", "many"] (spRowT Tb) := by
  refine F.ok scRowT (fun vs H Q E h => ?_) (fun cdv A outer s H vs Q E hr h => ?_)
  · obtain ⟨m, c, g, cs, N, many, rfl, _⟩ := h
    rfl
  · obtain ⟨m, c, g, cs, N, many, rfl, hm, hD, hN, k⟩ := h
    have hu := hu_of hr
    refine ⟨_, (pss_cons (ps_par (i := 2) (j := 3) (by rfl) scRowT.nd rfl rfl (by decide) rfl rfl (pa_cons (pe_tupF pa_nil) (pa_cons (pe_call cDraw.ok (hr.mono (by decide)) rfl cDraw.mgf cDraw.kp cDraw.bi .nil pass0 (pa_cons (pv 0) (pa_cons pe_int pa_nil))) pa_nil)) (by rfl))
      (pss_cons (ps_if (pt_cmpR op_eq (pv 3) pe_int (nomark _)) (pss_cons (ps_set (i := 2) scRowT.nd rfl (by first | exact Or.inl rfl | exact Or.inr rfl) (pe_tupRg rfl (by rfl) B.tuple (prg_2 rfl B.range pe_int (pe_op op_add (pv 1) pe_int))))
      (pss_cons (ps_for PassesOwn.never rfl (pi_range1 (by rfl) B.range (pa_cons (pe_ifExp (pt_cmpR op_gt (pv 1) pe_int (nomark _)) (pe_call cDraw.ok (hr.mono (by decide)) rfl cDraw.mgf cDraw.kp cDraw.bi .nil pass0 (pa_cons (pv 0) (pa_cons pe_int pa_nil))) pe_int) pa_nil)) (pg_name (i := 4) scRowT.nd rfl (by first | exact Or.inl rfl | exact Or.inr rfl)) (pss_cons (ps_set (i := 5) scRowT.nd rfl (by first | exact Or.inl rfl | exact Or.inr rfl) (pe_call cDraw.ok (hr.mono (by decide)) rfl cDraw.mgf cDraw.kp cDraw.bi .nil pass0 (pa_cons (pv 0) (pa_cons (pv 1) pa_nil))))
      (pss_one (ps_set (i := 2) scRowT.nd rfl (by first | exact Or.inl rfl | exact Or.inr rfl) (pe_call cTurn.ok (hr.mono (by decide)) rfl cTurn.mgf cTurn.kp cTurn.bi .nil pass0 (pa_cons (pv 2) (pa_cons (pv 5) (pa_cons (pe_op op_add (pv 5) (pe_call cDraw.ok (hr.mono (by decide)) rfl cDraw.mgf cDraw.kp cDraw.bi .nil pass0 (pa_cons (pv 0) (pa_cons (pe_op op_sub (pv 1) (pv 5)) pa_nil)))) pa_nil))))))))
      (pss_one (ps_ret (pv 2))))) pss_nil)
      (pss_cons (ps_for PassesOwn.never rfl (pi_range2 (by rfl) B.range (pa_cons pe_int (pa_cons (pe_op op_add (pv 1) pe_int) pa_nil))) (pg_name (i := 6) scRowT.nd rfl (by first | exact Or.inl rfl | exact Or.inr rfl)) (pss_cons (ps_set (i := 7) scRowT.nd rfl (by first | exact Or.inl rfl | exact Or.inr rfl) (pe_call cDraw.ok (hr.mono (by decide)) rfl cDraw.mgf cDraw.kp cDraw.bi .nil pass0 (pa_cons (pv 0) (pa_cons (pe_op op_add (pe_callB lenF (by rfl) B.len (by decide +kernel) (pa_cons (pv 2) pa_nil)) pe_int) pa_nil))))
      (pss_cons (ps_set (i := 8) scRowT.nd rfl (by first | exact Or.inl rfl | exact Or.inr rfl) (pe_ifExp (PW.pt (pw_and (pt_cmpR op_gt (pv 3) pe_int (nomark _)) (pw_and1 (pt_cmpR op_eq (pe_call cDraw.ok (hr.mono (by decide)) rfl cDraw.mgf cDraw.kp cDraw.bi .nil pass0 (pa_cons (pv 0) (pa_cons pe_int pa_nil))) pe_int (nomark _))))) (pe_op op_sub pe_int (pv 6)) (pv 6)))
      (pss_one (ps_set (i := 2) scRowT.nd rfl (by first | exact Or.inl rfl | exact Or.inr rfl) (pe_op catTF (pe_op catTF (pe_slice slTF (pv 2) po_none (po_some (pv 7))) (pe_tupF (pa_cons (pv 8) pa_nil))) (pe_slice slTF (pv 2) (po_some (pv 7)) po_none)))))))
      (pss_one (ps_ret (pv 2)))))), ?_⟩
    refine seq_nx (fun σ' H' => ∃ (p0 : Addr) (way : Int), σ' = [some (.ref m), some (.int (many : Nat)), some (.ref p0), some (.int way), none, none, none, none, none] ∧ H' p0 = some (.tup []) ∧ 0 ≤ way ∧ DS m c g cs Tb (N + 1) H' ∧ Kn m g H H') (fun Z hZ => ?_) ?_
    · walk_at "s"
      refine view_tup VW.start fun p0 H1 v1 => draw_ds (hD.same v1.fr) (by decide) (by decide) (by omega) fun r H2 r0 r1 d2 k2 => ⟨_, _, ⟨rfl, rfl⟩, ?_⟩
      exact hZ _ _ ⟨p0, r, rfl, k2.at (hD.same v1.fr) (v1.tu _ List.mem_cons_self) rfl, r0, d2, Kn.trans (Kn.of v1.fr) k2⟩
    rintro σ1 H1 ⟨p0, way, rfl, h0, w0, d1, k1⟩
    refine seq_nx (fun σ' H' => σ' = [some (.ref m), some (.int (many : Nat)), some (.ref p0), some (.int way), none, none, none, none, none] ∧ H' = H1 ∧ way ≠ 3) (fun Z hZ => ?_) ?_
    · walk_at "s"
      refine ⟨rfl, ?_⟩
      split
      · refine ⟨_, rfl, _, _, rfl, rfl, _, _, rfl, rfl, RgOk.of_le (by omega) (by omega) (by omega) (by omega), fun q hq => ?_⟩
        rw [rg_ints]
        have s1 : Same H1 (upd H1 q (.tup ((firstI many).map V.int))) := Same.new hq
        have d2 := d1.same s1
        have k2 : Kn m g H _ := Kn.trans k1 (Kn.of s1)
        have h2 : upd H1 q (.tup ((firstI many).map V.int)) q = _ := upd_same
        revert d2 k2 h2
        generalize upd H1 q (.tup ((firstI many).map V.int)) = H2
        intro d2 k2 h2
        rcases Nat.eq_zero_or_pos many with h0' | hpos
        · subst h0'
          refine ⟨_, rfl, _, _, rfl, rfl, _, rfl, (if_neg (by decide)).mpr ⟨0, rfl, by decide, by decide, ?_⟩⟩
          refine for_it (walk_range (lo := 0) (n := 0)) (fun i σ H' => σ = [some (.ref m), some (.int (0 : Nat)), some (.ref q), some (.int way), none, none, none, none, none] ∧ H' = H2) ⟨rfl, rfl⟩ (fun _ _ _ _ _ => True.intro) (fun i x σ H' H'' hi _ _ => absurd hi (by omega)) ?_
          rintro σ H3 ⟨rfl, rfl⟩
          exact ⟨_, rfl, k q [] H3 (List.Perm.refl _) h2 (d2.le (by omega)) k2⟩
        · refine ⟨_, rfl, _, _, rfl, rfl, _, rfl, (if_pos (by simp; omega)).mpr (call_v0c rfl ?_)⟩
          refine draw_ds (lim := 6) d2 (by decide) (by decide) (by omega) fun r H3 r0 r1 d3 k3 => ?_
          obtain ⟨r, rfl⟩ := Int.eq_ofNat_of_zero_le r0
          refine ⟨_, rfl, by omega, by omega, ?_⟩
          rw [show ((r : Nat) : Int).toNat = r by omega]
          refine for_it (walk_range (lo := 0) (n := r)) (fun i σ H' => ∃ (p : Addr) (ws : List Int) (u4 u5 : Option V), σ = [some (.ref m), some (.int (many : Nat)), some (.ref p), some (.int way), u4, u5, none, none, none] ∧ IsRow ws many ∧ H' p = some (.tup (ws.map V.int)) ∧ DS m c g cs Tb (N + 2 + 2 * i) H' ∧ Kn m g H H')
            ⟨q, firstI many, none, none, rfl, isRow_first many, k3.at d2 h2 rfl, d3, Kn.trans k2 k3⟩ (fun _ _ _ _ _ => True.intro) ?_ ?_
          · rintro i x σ H4 H5 hi ⟨p, ws, u4, u5, rfl, hr, hp, d4, k4⟩ ⟨rfl, rfl⟩
            have lw := hr.len
            refine ⟨_, rfl, _, rfl, ?_⟩
            dsimp only [tNil, List.nil_append, List.cons_append]
            refine draw_ds d4 (by omega) (by omega) (by omega) fun x H6 x0 x1 d5 k5 => ?_
            obtain ⟨x, rfl⟩ := Int.eq_ofNat_of_zero_le x0
            refine ⟨_, rfl, _, rfl, _, rfl, _, rfl, _, rfl, _, rfl, _, _, rfl, rfl, ?_⟩
            dsimp only [tNil, List.nil_append, List.cons_append]
            refine draw_ds d5 (by omega) (by omega) (by omega) fun y H7 y0 y1 d6 k6 => ?_
            obtain ⟨y, rfl⟩ := Int.eq_ofNat_of_zero_le y0
            refine ⟨_, _, rfl, rfl, p, ws, x, x + y, by rw [Int.natCast_add], k6.at d5 (k5.at d4 hp rfl) rfl, by omega, by omega, by omega, fun p2 H8 s8 hp8 => ?_⟩
            exact ⟨p2, _, _, _, rfl, hr.turn (by omega), hp8, (d6.same s8).le (by omega), Kn.trans (Kn.trans (Kn.trans k4 k5) k6) (Kn.of s8)⟩
          · rintro σ H4 ⟨p, ws, u4, u5, rfl, hr, hp, d4, k4⟩
            exact ⟨_, rfl, k p ws H4 hr hp (d4.le (by omega)) k4⟩
      · exact hZ _ _ ⟨rfl, rfl, by assumption⟩
    rintro σ2 H2 ⟨rfl, rfl, hw⟩
    have e24 : ((many : Int) + 1 - 1).toNat = many := by omega
    refine ⟨_, rfl, _, _, rfl, rfl, 1, (many : Int) + 1, rfl, ⟨by omega, by omega, by omega, by omega⟩, ?_⟩
    rw [e24]
    refine for_it (walk_range (lo := 1) (n := many)) (fun i σ H' => ∃ (p : Addr) (ws : List Int) (u6 u7 u8 : Option V), σ = [some (.ref m), some (.int (many : Nat)), some (.ref p), some (.int way), none, none, u6, u7, u8] ∧ IsRow ws i ∧ H' p = some (.tup (ws.map V.int)) ∧ DS m c g cs Tb (N + 1 + 2 * i) H' ∧ Kn m g H H')
      ⟨p0, [], none, none, none, rfl, List.Perm.refl _, h0, d1, k1⟩ (fun _ _ _ _ _ => True.intro) ?_ ?_
    · rintro i x σ H3 H4 hi ⟨p, ws, u6, u7, u8, rfl, hr, hp, d3, k3⟩ ⟨rfl, rfl⟩
      have lw := hr.len
      refine seq_nx2 (fun σ' H' => ∃ (k : Nat) (z : Int), k ≤ i ∧ z.natAbs = i + 1 ∧ σ' = [some (.ref m), some (.int (many : Nat)), some (.ref p), some (.int way), none, none, some (.int (1 + (i : Int))), some (.int (k : Nat)), some (.int z)] ∧ DS m c g cs Tb (N + 1 + 2 * (i + 1)) H' ∧ Kn m g H4 H') (fun Z hZ => ?_) ?_
      · walk_at "s"
        refine ⟨_, hp, _, rfl, draw_ds d3 (by omega) (by rw [List.length_map]; omega) (by omega) fun x H5 x0 x1 d4 k4 => ?_⟩
        obtain ⟨x, rfl⟩ := Int.eq_ofNat_of_zero_le x0
        rw [List.length_map] at x1
        split
        · refine draw_ds d4 (by decide) (by decide) (by omega) fun y H6 y0 y1 d5 k5 => ⟨rfl, ?_⟩
          split
          · exact hZ _ _ ⟨x, -(1 + (i : Int)), by omega, by omega, rfl, d5.le (by omega), Kn.trans k4 k5⟩
          · exact hZ _ _ ⟨x, 1 + (i : Int), by omega, by omega, rfl, d5.le (by omega), Kn.trans k4 k5⟩
        · exact hZ _ _ ⟨x, 1 + (i : Int), by omega, by omega, rfl, d4.le (by omega), k4⟩
      rintro σ5 H5 ⟨k', z, hk', hz, rfl, d5, k5⟩
      have hp5 := k5.at d3 hp rfl
      walk_at "s"
      refine ⟨_, hp5, view_tup VW.start fun t1 A1 v1 => ⟨sz_le (by decide), view_tup v1 fun t2 A2 v2 => ?_⟩⟩
      rw [cut_b (by rw [List.length_map]; omega)] at v2
      have hz' : ∀ k : Nat, k ≤ 1000 → k ≤ sizeLine := fun k hk => sz_le (by omega)
      refine ⟨_, v2.tu _ (List.mem_cons_of_mem _ List.mem_cons_self), _, v2.tu _ List.mem_cons_self, hz' _ (by simp; omega), view_tup v2 fun t3 A3 v3 => ⟨_, v3.fr _ _ hp5, view_tup v3 fun t4 A4 v4 => ⟨_, v4.tu _ (List.mem_cons_of_mem _ List.mem_cons_self), _, v4.tu _ List.mem_cons_self, ?_, view_tup v4 fun t5 A5 v5 => ?_⟩⟩⟩
      · refine hz' _ ?_
        rw [cut_n (by rw [List.length_map]; omega)]
        simp
        omega
      rw [cut_n (by rw [List.length_map]; omega)] at v5
      have e : (ws.map V.int).take k' ++ [V.int z] ++ (ws.map V.int).drop k' = (ws.take k' ++ [z] ++ ws.drop k').map V.int := by simp
      rw [e] at v5
      have s5 := v5.fr
      exact ⟨_, hr.put hz, v5.tu _ List.mem_cons_self, d5.same s5, Kn.trans (Kn.trans k3 k5) (Kn.of s5)⟩
    · rintro σ H3 ⟨p, ws, u6, u7, u8, rfl, hr, hp, d3, k3⟩
      exact ⟨_, rfl, k p ws H3 hr hp (d3.le (by omega)) k3⟩
end
end Fab
set_option maxHeartbeats 2000000
namespace Fab
open PySem L2 PySem.FabX
local macro_rules | `(tactic| walk_at "s") => `(tactic| simp [tSeq, tAsg, tOp, tUn, tVar, tC, gName, tCons, tNil, tCB, tCall, rI, rI0, rU, tRet, tDrop, tIfS, tNext, tIf, tTest, tNot, tOr, tAnd, tB, L2.start, CMul, CDiv, rIxF, rLenF, rIntF, sq_lst, sq_tup, tLstF, tTupF, gSub, rCatF, rCatTF, rInF, rNe, rEq, tAndV, tOrV, tNotV, tChain, rTupF, rListF, tFldF, tRx, tMake, tMeth, tSl, tPart, tNoPart, rSlTF, rSlF, tRevTF, gTup, gCons, gNil, rIsB, rNotB, tLM, rAppF, tLstRgF, tRg2, tLstRg, iRng1, iRng2])
/-- turnings told by values of any kind: what the row is at their end, if each of them is a turning -/
def runO (n : Nat) : List Int → List (Option (V × V)) → Option (List Int)
  | ws, [] => some ws
  | ws, o :: os => if stOk ((n : Int) - 1) o then match o with
    | some (.int i, .int j) => runO n (turnL ws i.toNat j.toNat) os
    | _ => none else none
theorem stOk_nat {n : Nat} {o : Option (V × V)} (h : stOk ((n : Int) - 1) o = true) : ∃ i j : Nat, o = some (.int (i : Nat), .int (j : Nat)) ∧ i ≤ j ∧ j < n := by
  cases o with
  | none => cases h
  | some ab =>
    obtain ⟨a, b⟩ := ab
    cases a with
    | int i =>
      cases b with
      | int j =>
        simp only [stOk, wholeV, Bool.and_eq_true, decide_eq_true_eq] at h
        refine ⟨i.toNat, j.toNat, ?_, by omega, by omega⟩
        rw [Int.toNat_of_nonneg (by omega), Int.toNat_of_nonneg (by omega)]
      | _ => simp [stOk, wholeV] at h
    | _ => cases h
theorem stV_same' {K : PySem.W.Frag} {H H' : Hp} {x : V} {o : Option (V × V)} (h : StV K H x o) (s : Same H H') : StV K H' x o := by
  cases o with
  | none =>
    rcases h with ⟨t, ht, hk⟩ | ⟨p, xs, e, hp, hl⟩
    · exact .inl ⟨t, tyX_same ht s, hk⟩
    · exact .inr ⟨p, xs, e, s _ _ hp, hl⟩
  | some ab =>
    obtain ⟨a, b⟩ := ab
    obtain ⟨p, e, hp, ha, hb⟩ := h
    exact ⟨p, e, s _ _ hp, ha.same s, hb.same s⟩
/-- values beside the pairs that they may be -/
def StL (K : PySem.W.Frag) (H : Hp) : List V → List (Option (V × V)) → Prop := Paired fun z o => StV K H z o
theorem StL.len {K : PySem.W.Frag} {H : Hp} {zs : List V} {os : List (Option (V × V))} (h : StL K H zs os) : zs.length = os.length := by
  unfold StL at h
  induction h with
  | nil => rfl
  | cons _ _ ih => rw [List.length_cons, List.length_cons, ih]
theorem StL.get {K : PySem.W.Frag} {H : Hp} {zs : List V} {os : List (Option (V × V))} (h : StL K H zs os) {i : Nat} {x : V} (hx : zs[i]? = some x) : ∃ o, os[i]? = some o ∧ StV K H x o := by
  unfold StL at h
  induction h generalizing i with
  | nil => cases hx
  | cons e _ ih =>
    cases i with
    | zero =>
      cases hx
      exact ⟨_, rfl, e⟩
    | succ i => exact ih hx
theorem StL.same {K : PySem.W.Frag} {H H' : Hp} {zs : List V} {os : List (Option (V × V))} (h : StL K H zs os) (s : Same H H') : StL K H' zs os := by
  unfold StL at h ⊢
  induction h with
  | nil => exact .nil
  | cons e _ ih => exact .cons (stV_same' e s) ih
theorem runO_bad {n : Nat} {ws : List Int} {o : Option (V × V)} {os : List (Option (V × V))} (h : stOk ((n : Int) - 1) o = false) : runO n ws (o :: os) = none := by
  unfold runO
  rw [h]
  rfl
theorem runO_ok {n i j : Nat} {ws : List Int} {os : List (Option (V × V))} (hij : i ≤ j) (hj : j < n) : runO n ws (some (.int (i : Nat), .int (j : Nat)) :: os) = runO n (turnL ws i j) os := by
  have : stOk ((n : Int) - 1) (some (.int (i : Nat), .int (j : Nat))) = true := by
    simp only [stOk, wholeV, Bool.and_eq_true, decide_eq_true_eq]
    omega
  conv => lhs; unfold runO
  rw [this]
  rfl
end Fab
set_option maxHeartbeats 4000000
namespace Fab
open PySem L2 PyProof.Rows
section
variable {X : Cx} {a b c d : Expr} {ta tb tc td : TE} {pos : Pos}
def tChain3 (r r' r'' : R2) (ta tb tc td : TE) : TT := fun σ H Q => ta σ H fun x H1 => tb σ H1 fun y H2 => r x y H2 fun z H3 => ∃ k, z = .bl k ∧
  (if k = true then tc σ H3 fun y' H4 => r' y y' H4 fun z' H5 => ∃ k', z' = .bl k' ∧ (if k' = true then td σ H5 fun y'' H6 => r'' y' y'' H6 fun z'' H7 => ∃ k'', z'' = .bl k'' ∧ Q k'' H7 else Q false H5) else Q false H3)
theorem pt_chain3 {op op' op'' : CmpOp} {r r' r'' : R2} (ho : OpR X (compareOp op) r) (ho' : OpR X (compareOp op') r') (ho'' : OpR X (compareOp op'') r'') (ha : PE X a ta) (hb : PE X b tb) (hc : PE X c tc) (hd : PE X d td)
    (hm : lastMarks [op, op', op''] [b, c, d] = false := by with_unfolding_all rfl) : PT X (.Compare a [op, op', op''] [b, c, d] pos) (tChain3 r r' r'' ta tb tc td) := by
  refine ⟨fun pins s σ H Q I h => ?_⟩
  refine isTrue_chain (thn (ha.run pins s σ H _ I h) fun v s1 ⟨x, H1, I1, r1, q1⟩ => test_link (thn (hb.run pins s1 σ H1 _ I1 q1) fun u s2 ⟨y, H2, I2, r2, q2⟩ =>
    thn (ho pins s2 σ H2 x y v u _ I2 r1 r2 q2) fun d s3 ⟨z, H3, I3, r3, k, e, q3⟩ => ?_)) hm
  subst e
  cases r3
  refine wpAny_truthy_bool ?_
  cases k with
  | false => exact ite_ff ⟨H3, I3, q3⟩
  | true =>
    refine ite_tt (test_link (thn (hc.run pins s3 σ H3 _ I3 q3) fun u' s4 ⟨y', H4, I4, r4, q4⟩ => thn (ho' pins s4 σ H4 y y' u u' _ I4 r2 r4 q4) fun d' s5 ⟨z', H5, I5, r5, k', e', q5⟩ => ?_))
    subst e'
    cases r5
    refine wpAny_truthy_bool ?_
    cases k' with
    | false => exact ite_ff ⟨H5, I5, q5⟩
    | true =>
      refine ite_tt (test_last (thn (hd.run pins s5 σ H5 _ I5 q5) fun u'' s6 ⟨y'', H6, I6, r6, q6⟩ => thn (ho'' pins s6 σ H6 y' y'' u' u'' _ I6 r4 r6 q6) fun d'' s7 ⟨z'', H7, I7, r7, k'', e'', q7⟩ => ?_))
      subst e''
      cases r7
      exact wpAny_truthy_bool ⟨H7, I7, q7⟩
end
end Fab
set_option maxHeartbeats 4000000
namespace Fab
open PySem L2 PySem.FabX
abbrev sRan : Stmt := top 71
local macro_rules | `(tactic| walk_at "s") => `(tactic| simp [tSeq, tAsg, tOp, tUn, tVar, tC, gName, tCons, tNil, tCB, tCall, rI, rI0, rU, tRet, tDrop, tIfS, tNext, tIf, tTest, tNot, tOr, tAnd, tB, L2.start, CMul, CDiv, rIxF, rLenF, rIntF, sq_lst, sq_tup, tLstF, tTupF, gSub, rCatF, rCatTF, rInF, rNe, rEq, tAndV, tOrV, tNotV, tChain, rTupF, rListF, tFldF, tRx, tMake, tMeth, tSl, tPart, tNoPart, rSlTF, rSlF, tRevTF, gTup, gCons, gNil, rIsB, rNotB, tLM, rAppF, tLstRgF, tRg2, tLstRg, iRng1, iRng2])
section
variable {P' : Program} {w : World} {K : PySem.W.Frag} {mg : Str → Option Value} {base : Heap}
theorem stOk_outR {n k : Nat} {c d x : V} (hx : [c, d][k]? = some x) (hz : ∀ z : Int, x ≠ .int z) : stOk ((n : Int) - 1) (some (c, d)) = false := by
  cases b : stOk ((n : Int) - 1) (some (c, d)) with
  | false => rfl
  | true =>
    obtain ⟨i, j, e, hij, hj⟩ := stOk_nat b
    injection e with e
    injection e with e1 e2
    subst e1 e2
    match k, hx with
    | 0, hx => cases hx; exact absurd rfl (hz _)
    | 1, hx => cases hx; exact absurd rfl (hz _)
    | k + 2, hx => simp at hx
def spRan (K : PySem.W.Frag) : Sp := fun vs H Q _ => ∃ (p t : Addr) (ws : List Int) (n : Nat) (zs : List V) (os : List (Option (V × V))), vs = [.ref p, .ref t] ∧ H p = some (.tup (ws.map V.int)) ∧ IsRow ws n ∧ n ≤ 24 ∧ H t = some (.lst zs) ∧ zs.length ≤ 1000 ∧ StL K H zs os ∧
  (runO n ws os = none → ∀ H', Same H H' → Q .non H') ∧ ∀ v q H', runO n ws os = some v → IsRow v n → Same H H' → H' q = some (.tup (v.map V.int)) → Q (.ref q) H'
theorem scRan : FnScope ["waggons", "turnings", "here", "turning", "place"] ["waggons", "turnings"] (defScope sRan) := ⟨rfl, rfl, rfl, by decide +kernel, rfl, by decide +kernel, by decide +kernel⟩
theorem ok_ran {f fT : Addr} {fd fdT : FuncData} (F : Fun K "_law_ran" "_law_ran" sRan f fd) (B : Blt mg) (cTurn : Dn P' w K mg base 1 "_law_turn" fT fdT ["waggons", "first", "last"] spLTurn) : FnOk P' w K mg base CX0 2 f fd ["waggons", "turnings"] (spRan K) := by
  refine F.ok scRan (fun vs H Q E h => ?_) (fun cdv A outer s H vs Q E hr h => ⟨_, (pss_cons (ps_set (i := 2) scRan.nd rfl (by first | exact Or.inl rfl | exact Or.inr rfl) (pv 0))
      (pss_cons (ps_for PassesOwn.never rfl (pi_list (pv 1)) (pg_name (i := 3) scRan.nd rfl (by first | exact Or.inl rfl | exact Or.inr rfl)) (pss_cons (ps_if (PW.pt (pw_or (pt_not (pt_val (pe_callB call_isi (by rfl) B.isinstance (by decide +kernel) (pa_cons (pv 3) (pa_cons (pe_bltn (v := .ty "tuple") (by rfl) B.tuple (by decide +kernel) rfl) pa_nil))))) (pw_or1 (pt_cmpR op_ne (pe_callB lenF (by rfl) B.len (by decide +kernel) (pa_cons (pv 3) pa_nil)) pe_int (nomark _))))) (pss_one (ps_ret pe_non)) pss_nil)
      (pss_cons (ps_for PassesOwn.never rfl (pi_tup (pv 3)) (pg_name (i := 4) scRan.nd rfl (by first | exact Or.inl rfl | exact Or.inr rfl)) (pss_one (ps_if (PW.pt (pw_or (pt_not (pt_val (pe_callB call_isi (by rfl) B.isinstance (by decide +kernel) (pa_cons (pv 4) (pa_cons (pe_bltn (v := .ty "int") (by rfl) B.int (by decide +kernel) rfl) pa_nil))))) (pw_or1 (pt_val (pe_callB call_isi (by rfl) B.isinstance (by decide +kernel) (pa_cons (pv 4) (pa_cons (pe_bltn (v := .ty "bool") (by rfl) B.bool (by decide +kernel) rfl) pa_nil))))))) (pss_one (ps_ret pe_non)) pss_nil)))
      (pss_cons (ps_if (pt_not (pt_chain3 op_le op_le op_lt pe_int (pe_ix ixF (pv 3) pe_int (fun _ _ => rfl)) (pe_ix ixF (pv 3) pe_int (fun _ _ => rfl)) (pe_callB lenF (by rfl) B.len (by decide +kernel) (pa_cons (pv 2) pa_nil)))) (pss_one (ps_ret pe_non)) pss_nil)
      (pss_one (ps_set (i := 2) scRan.nd rfl (by first | exact Or.inl rfl | exact Or.inr rfl) (pe_call cTurn.ok (hr.mono (by decide)) rfl cTurn.mgf cTurn.kp cTurn.bi .nil pass0 (pa_cons (pv 2) (pa_cons (pe_ix ixF (pv 3) pe_int (fun _ _ => rfl)) (pa_cons (pe_ix ixF (pv 3) pe_int (fun _ _ => rfl)) pa_nil))))))))))
      (pss_one (ps_ret (pv 2))))), ?_⟩)
  · obtain ⟨p, t, ws, n, zs, os, rfl, _⟩ := h
    rfl
  · obtain ⟨p, t, ws, n, zs, os, rfl, hp, hw, hn, ht, hzl, hS, kN, kS⟩ := h
    have lw := hw.len
    have lz := hS.len
    refine seq_q (fun σ' H' => σ' = [some (.ref p), some (.ref t), some (.ref p), none, none] ∧ H' = H) (fun D2 eD2 hZ2 => ?_) ?_
    · exact ⟨_, rfl, hZ2 _ _ ⟨rfl, rfl⟩⟩
    rintro σ1 H1 ⟨rfl, rfl⟩
    refine seq_q (fun σ' H' => ∃ (q : Addr) (u3 u4 : Option V) (v : List Int), σ' = [some (.ref p), some (.ref t), some (.ref q), u3, u4] ∧ Same H1 H' ∧ runO n ws os = some v ∧ IsRow v n ∧ H' q = some (.tup (v.map V.int))) (fun D2 eD2 hZ2 => ?_) ?_
    · refine ⟨_, rfl, t, rfl, ⟨_, SqL.of ht⟩, ?_⟩
      refine for_it (walk_list (K := K) (a := t) (xs := zs)) (fun i σ H' => ∃ (q : Addr) (u3 u4 : Option V) (v : List Int), σ = [some (.ref p), some (.ref t), some (.ref q), u3, u4] ∧ Same H1 H' ∧ runO n ws os = runO n v (os.drop i) ∧ IsRow v n ∧ H' q = some (.tup (v.map V.int)))
        ⟨p, none, none, ws, rfl, fun _ _ h => h, rfl, hw, hp⟩ (fun i σ H' _ ⟨_, _, _, _, _, s, _⟩ => SqL.of (s _ _ ht)) ?_ ?_
      rotate_left
      · rintro σ H' ⟨q, u3, u4, v, rfl, sA, e, hv, hq⟩
        rw [List.drop_of_length_le (by omega)] at e
        exact hZ2 _ _ ⟨q, u3, u4, v, rfl, sA, e, hv, hq⟩
      rintro i x σ A1 A2 hi ⟨q, u3, u4, v, rfl, sA, e, rowA, hqA⟩ ⟨rfl, hx⟩
      obtain ⟨oo, ho, hv⟩ := hS.get hx
      have hv := stV_same' hv sA
      have lv := rowA.len
      have ed : os.drop i = oo :: os.drop (i + 1) := by
        obtain ⟨hi', rfl⟩ := List.getElem?_eq_some_iff.mp ho
        exact List.drop_eq_getElem_cons hi'
      have bad : stOk ((n : Int) - 1) oo = false → ∀ H', Same H1 H' → Q .non H' := fun b H' s' => kN (by rw [e, ed, runO_bad b]) H' s'
      refine seq_q (fun σ' H' => ∃ (y : Addr) (c d : V), x = .ref y ∧ oo = some (c, d) ∧ σ' = [some (.ref p), some (.ref t), some (.ref q), some (.ref y), u4] ∧ H' = A2 ∧ A2 y = some (.tup [c, d]) ∧ Asked K A2 c ∧ Asked K A2 d) (fun D3 eD3 hZ3 => ?_) ?_
      · walk_at "s"
        have rt : oo = none → D3.rt .non A2 := fun z => by
          rw [eD3]
          show D2.rt _ _
          rw [eD2]
          exact bad (by rw [z]; rfl) A2 sA
        cases oo with
        | none =>
          rcases hv with ⟨t', ty, no⟩ | ⟨p', xs, rfl, hp', hl'⟩
          · exact ⟨_, _, _, _, _, rfl, .ty _, ty, no, .inl ⟨rfl, rt rfl⟩⟩
          · exact ⟨_, _, _, _, _, rfl, .ty _, .base (.tup hp'), rfl, .inr ⟨rfl, p', rfl, _, hp', _, rfl, rfl, .inr ⟨by omega, rt rfl⟩⟩⟩
        | some cd =>
          obtain ⟨c, d⟩ := cd
          obtain ⟨y, rfl, hy, hc, hd⟩ := hv
          exact ⟨_, _, _, _, _, rfl, .ty _, .base (.tup hy), rfl, .inr ⟨rfl, y, rfl, _, hy, _, rfl, rfl, .inl ⟨rfl, hZ3 _ _ ⟨y, c, d, rfl, rfl, rfl, rfl, hy, hc, hd⟩⟩⟩⟩
      rintro σ4 A3 ⟨y, c, d, rfl, rfl, rfl, rfl, hy, hc, hd⟩
      refine seq_q (fun σ' H' => ∃ (i' j' : Int) (u4 : Option V), c = .int i' ∧ d = .int j' ∧ σ' = [some (.ref p), some (.ref t), some (.ref q), some (.ref y), u4] ∧ H' = A3) (fun D3 eD3 hZ3 => ?_) ?_
      · refine ⟨_, rfl, y, rfl, ⟨_, SqT.of hy⟩, ?_⟩
        refine for_it (walk_tup (K := K) (a := y) (xs := [c, d])) (fun i σ H' => ∃ u4 : Option V, σ = [some (.ref p), some (.ref t), some (.ref q), some (.ref y), u4] ∧ H' = A3 ∧ ∀ j, j < i → ∃ z : Int, [c, d][j]? = some (.int z))
          ⟨u4, rfl, rfl, fun j hj => absurd hj (Nat.not_lt_zero _)⟩ (fun i σ H' _ ⟨_, _, e, _⟩ => by rw [e]; exact SqT.of hy) ?_ ?_
        rotate_left
        · rintro σ H' ⟨u4, rfl, rfl, hz⟩
          obtain ⟨i', e1⟩ := hz 0 (show 0 < 2 by decide)
          obtain ⟨j', e2⟩ := hz 1 (show 1 < 2 by decide)
          cases e1
          cases e2
          exact hZ3 _ _ ⟨i', j', u4, rfl, rfl, rfl, rfl⟩
        rintro i2 x' σ B1 B2 hi2 ⟨u4, rfl, rfl, hz⟩ ⟨rfl, hx'⟩
        have ax : Asked K B2 x' := by
          match i2, hx' with
          | 0, hx' => cases hx'; exact hc
          | 1, hx' => cases hx'; exact hd
          | k + 2, hx' => simp at hx'
        have rt : (∀ z : Int, x' ≠ .int z) → D3.rt .non B2 := fun h => by
          rw [eD3]
          show D2.rt _ _
          rw [eD2]
          exact bad (stOk_outR hx' h) B2 sA
        walk_at "s"
        cases ax with
        | int z =>
          refine ⟨_, _, _, _, _, rfl, .ty _, .base (.int _), rfl, .inr ⟨rfl, _, _, _, _, _, rfl, .ty _, .base (.int _), rfl, .inl ⟨rfl, rfl, fun j hj => ?_⟩⟩⟩
          by_cases ej : j < i2
          · exact hz j ej
          · have : j = i2 := by omega
            subst this
            exact ⟨z, hx'⟩
        | bl b =>
          exact ⟨_, _, _, _, _, rfl, .ty _, .base (.bl _), rfl, .inr ⟨rfl, _, _, _, _, _, rfl, .ty _, .base (.bl _), rfl, .inr ⟨rfl, rt fun z' e' => by cases e'⟩⟩⟩
        | other ty no h1 =>
          exact ⟨_, _, _, _, _, rfl, .ty _, ty, no, .inl ⟨rfl, rt fun z' e' => h1 z' e'⟩⟩
      rintro σ5 A4 ⟨i', j', u4, rfl, rfl, rfl, rfl⟩
      have a0 : atI [V.int i', V.int j'] 0 = some (.int i') := rfl
      have a1 : atI [V.int i', V.int j'] 1 = some (.int j') := rfl
      refine seq_q (fun σ' H' => ∃ i j : Nat, i' = (i : Int) ∧ j' = (j : Int) ∧ i ≤ j ∧ j < n ∧ σ' = [some (.ref p), some (.ref t), some (.ref q), some (.ref y), u4] ∧ H' = A4) (fun D3 eD3 hZ3 => ?_) ?_
      · have rt : ¬ (0 ≤ i' ∧ i' ≤ j' ∧ j' < (n : Int)) → D3.rt .non A4 := fun h => by
          rw [eD3]
          show D2.rt _ _
          rw [eD2]
          refine bad ?_ A4 sA
          cases b : stOk ((n : Int) - 1) (some (V.int i', V.int j')) with
          | false => rfl
          | true =>
            simp only [stOk, wholeV, Bool.and_eq_true, decide_eq_true_eq] at b
            omega
        unfold tChain3
        walk_at "s"
        refine ⟨_, hy, _, rfl, _, a0, _, rfl, ?_⟩
        by_cases z0 : 0 ≤ i'
        · rw [if_pos z0]
          refine ⟨_, hy, _, rfl, _, a1, _, rfl, _, rfl, ?_⟩
          by_cases z1 : i' ≤ j'
          · rw [if_pos z1]
            refine ⟨_, hqA, _, rfl, _, rfl, ?_⟩
            rw [List.length_map, lv]
            by_cases z2 : j' < (n : Int)
            · rw [if_pos z2]
              obtain ⟨i', rfl⟩ := Int.eq_ofNat_of_zero_le z0
              obtain ⟨j', rfl⟩ := Int.eq_ofNat_of_zero_le (show 0 ≤ j' by omega)
              exact hZ3 _ _ ⟨i', j', rfl, rfl, by omega, by omega, rfl, rfl⟩
            · rw [if_neg z2]
              exact rt fun h => z2 h.2.2
          · rw [if_neg z1]
            exact rt fun h => z1 h.2.1
        · rw [if_neg z0]
          exact rt fun h => z0 h.1
      rintro σ6 A5 ⟨i, j, rfl, rfl, hij, hj, rfl, rfl⟩
      walk_at "s"
      refine ⟨_, hy, _, rfl, _, a0, _, hy, _, rfl, _, a1, q, v, i, j, rfl, hqA, hij, by omega, by omega, fun q' B1 s' hq' => ⟨q', rfl, Same.tr2 sA s', turnL v i j, ?_, rowA.turn hij, hq'⟩⟩
      rw [e, ed, runO_ok hij hj]
    rintro σ3 H3 ⟨q, u3, u4, v, rfl, s3, e, hv, hq⟩
    exact ⟨_, rfl, kS v q H3 e hv s3 hq⟩
end
end Fab
set_option maxHeartbeats 2000000
set_option maxHeartbeats 4000000
namespace Fab
open PySem L2 PySem.FabX
open PyProof.Rows (envOfC)
abbrev sShown : Stmt := top 74
abbrev sIsR : Stmt := top 70
abbrev sSome : Stmt := top 75
local macro_rules | `(tactic| walk_at "s") => `(tactic| simp [tPar, tProp, tFldF, sFldF, putF, tSeq, tAsg, tOp, tUn, tVar, tC, gName, tCons, tNil, tCB, tCall, rI, rI0, rU, tRet, tDrop, tIfS, tNext, tIf, tTest, tNot, tOr, tAnd, tB, L2.start, CMul, CDiv, rIxF, rLenF, rIntF, sq_lst, sq_tup, tLstF, tTupF, gSub, rCatF, rCatTF, rInF, rNe, rEq, tAndV, tOrV, tNotV, tChain, rTupF, rListF, tFldF, tRx, tMake, tMeth, tSl, tPart, tNoPart, rSlTF, rSlF, tRevTF, gTup, gCons, gNil, rIsB, rNotB, tLM, rAppF, tLstRgF, tRg2, tLstRg, iRng1, iRng2])
def shD (w g ws : List Int) (ps : List (Nat × Nat)) : PyData := .list [.tuple (w.map PyData.int), .tuple (g.map PyData.int), .tuple (ws.map PyData.int), .int (ps.length : Nat), .tuple (prD ps)]
def ShAt (H : Hp) (l : Addr) (w g ws : List Int) (ps : List (Nat × Nat)) : Prop := ∃ (p0 p1 p2 td : Addr) (zs : List V), H l = some (.lst [.ref p0, .ref p1, .ref p2, .int (ps.length : Nat), .ref td]) ∧ H p0 = some (.tup (w.map V.int)) ∧ H p1 = some (.tup (g.map V.int)) ∧ H p2 = some (.tup (ws.map V.int)) ∧ H td = some (.tup zs) ∧ PrL H zs ps
theorem ShAt.keep {H H' : Hp} {l : Addr} {w g ws : List Int} {ps : List (Nat × Nat)} (h : ShAt H l w g ws ps) (k : ∀ a u, (∀ C d fs, u ≠ .ins C d fs) → noTbl u = true → H a = some u → H' a = some u) : ShAt H' l w g ws ps := by
  obtain ⟨p0, p1, p2, td, zs, h1, h2, h3, h4, h5, h6⟩ := h
  have t : ∀ {a : Addr} {xs : List V}, H a = some (.tup xs) → H' a = some (.tup xs) := fun h => k _ _ (fun _ _ _ z => by cases z) rfl h
  exact ⟨p0, p1, p2, td, zs, k _ _ (fun _ _ _ z => by cases z) rfl h1, t h2, t h3, t h4, t h5, Paired.mapP h6 fun _ _ ⟨a, e, ha⟩ => ⟨a, e, t ha⟩⟩
theorem ShAt.dp {K : PySem.W.Frag} {H : Hp} {l : Addr} {w g ws : List Int} {ps : List (Nat × Nat)} (h : ShAt H l w g ws ps) : Dp K H (.ref l) (shD w g ws ps) := by
  obtain ⟨p0, p1, p2, td, zs, h1, h2, h3, h4, h5, h6⟩ := h
  exact .lst (SqL.of h1) (.cons (.tup (SqT.of h2) (dp_ints _)) (.cons (.tup (SqT.of h3) (dp_ints _)) (.cons (.tup (SqT.of h4) (dp_ints _)) (.cons (.int _) (.cons (.tup (SqT.of h5) h6.dp) .nil)))))
theorem ints_layA : ∀ zs : List Int, PyData.canLayAll0 (zs.map PyData.int) = true ∧ PyData.depthAll (zs.map PyData.int) = 0
  | [] => by simp [PyData.canLayAll0, PyData.depthAll]
  | z :: zs => by
    obtain ⟨h1, h2⟩ := ints_layA zs
    simp only [List.map_cons, PyData.canLayAll0, PyData.depthAll, h1, h2]
    exact ⟨by simp [PyData.canLay0], by simp [PyData.depth]⟩
theorem shp_sh (w g ws : List Int) (ps : List (Nat × Nat)) : SeqAt.shaped (shD w g ws ps) = true := by
  obtain ⟨a1, a2⟩ := ints_layA w
  obtain ⟨b1, b2⟩ := ints_layA g
  obtain ⟨c1, c2⟩ := ints_layA ws
  obtain ⟨d1, d2⟩ := prD_layB ps
  unfold SeqAt.shaped shD
  have e : (PyData.list [.tuple (w.map PyData.int), .tuple (g.map PyData.int), .tuple (ws.map PyData.int), .int (ps.length : Nat), .tuple (prD ps)]).depth ≤ 64 := by
    simp only [PyData.depth, PyData.depthAll]
    omega
  simp only [PyData.canLay0, PyData.canLayAll0, a1, b1, c1, d1, Bool.and_self, Bool.and_true, Bool.true_and]
  exact decide_eq_true e
theorem sh_self (w g ws : List Int) (ps : List (Nat × Nat)) : PyData.eqv (shD w g ws ps) (shD w g ws ps) = true := SeqAt.eqv_refl _ (SeqAt.canLay_of_shaped (shp_sh w g ws ps))
section
variable {P' : Program} {w : World} {K : PySem.W.Frag} {mg : Str → Option Value} {base : Heap} {C : Kd → Addr} {CR CB CM CK CT : Addr}
def spShown (CR CB CM : Addr) : Sp := fun vs H Q _ => ∃ (b r0 r1 : Addr) (w0 g0 ws : List Int) (ps us : List (Nat × Nat)), vs = [.ref b] ∧ BenAt CR CB CM H b r0 r1 ws ps us ∧ RowAt CR H r0 (w0.map V.int) ∧ RowAt CR H r1 (g0.map V.int) ∧ ps.length ≤ 1000 ∧
  ∀ l H', Same H H' → H l = none → ShAt H' l w0 g0 ws ps → Q (.ref l) H'
theorem scShown : FnScope ["bench"] ["bench"] (defScope sShown) := ⟨rfl, rfl, rfl, by decide +kernel, rfl, by decide +kernel, by decide +kernel⟩
theorem ok_shown {f fTs fR fN : Addr} {fd fdTs fdR fdN : FuncData} {pr : Addr} (F : Fun K "_law_shown" "_law_shown" sShown f fd) (B : Blt mg) (R : RowC K mg CR) (N : BenC K mg CR CB CM) (FTs : FnOk P' w K mg base CX0 1 fTs fdTs ["self"] (spBTs CR CB CM)) (MTs : Meth K CB "turnings" fTs) (bTs : Binds K fdTs ["self"] [])
    (PRow : PropOf K CB "row" pr fR) (FRow : FnOk P' w K mg base CX0 1 fR fdR ["self"] (spBRow CR CB CM)) (bRow : Binds K fdR ["self"] []) (FBLen : FnOk P' w K mg base CX0 1 fN fdN ["self"] (spBLen CR CB CM)) (BL : OpM K CB "__len__" fN fdN ["self"]) : FnOk P' w K mg base CX0 3 f fd ["bench"] (spShown CR CB CM) := by
  refine F.ok scShown (fun vs H Q E h => ?_) (fun cdv A outer s H vs Q E hr h => ⟨_, (pss_one (ps_ret (pe_lstF (pa_cons (pe_fldF (pe_fldF (pv 0))) (pa_cons (pe_fldF (pe_fldF (pv 0))) (pa_cons (pe_fldF (pe_prop (pv 0) N.cl PRow FRow (hr.mono (by decide)) bRow .nil pass0 (by rfl))) (pa_cons (pe_callB (call_lenO FBLen BL.at_ BL.fn (hr.mono (by decide)) BL.bi pass0) (by rfl) B.len (by decide +kernel) (pa_cons (pv 0) pa_nil)) (pa_cons (pe_meth0 (pv 0) N.cl MTs FTs (hr.mono (by decide)) bTs .nil pass0) pa_nil)))))))), ?_⟩)
  · obtain ⟨b, r0, r1, w0, g0, ws, ps, us, rfl, _⟩ := h
    rfl
  · obtain ⟨b, r0, r1, w0, g0, ws, ps, us, rfl, hB, h0, h1, lp, k⟩ := h
    obtain ⟨dx, mo, h, td, tu, zs, ys, e1, ⟨dm, e2⟩, e3, e4, e5, e6, e7⟩ := id hB
    obtain ⟨d0, t0, a1, a2⟩ := id h0
    obtain ⟨d1, t1, b1, b2⟩ := id h1
    walk_at "s"
    refine ⟨CB, dx, _, e1, N.cl, N.nF, _, rfl, r0, rfl, CR, d0, _, a1, R.cl, R.nW, _, rfl, CB, dx, _, e1, N.cl, N.nG, _, rfl, r1, rfl, CR, d1, _, b1, R.cl, R.nW, _, rfl, ?_⟩
    refine ⟨⟨_, _, e1⟩, b, r0, r1, ws, ps, us, rfl, hB, fun h' h3' => ?_⟩
    obtain ⟨d2, t2, c1, c2⟩ := id h3'
    refine ⟨h', rfl, CR, d2, _, c1, R.cl, R.nW, _, rfl, ?_⟩
    have lz := e5.len
    refine ⟨b, dx, _, rfl, e1, b, r0, r1, ws, ps, us, rfl, hB, ?_⟩
    refine ⟨_, rfl, by omega, by omega, dx, _, e1, (by intro a b hm; simp at hm; rcases hm with ⟨rfl, _⟩ | ⟨rfl, _⟩ | ⟨rfl, _⟩ <;> decide), b, r0, r1, ws, ps, us, rfl, hB, fun td' zs' ht hP => ⟨sz_le (by decide), view_new (VW.start (H := H)) fun l H' v => ?_⟩⟩
    exact k l H' v.fr (v.own (l, _) (.head _)) ⟨t0, t1, t2, td', zs', v.at_ (l, _) (.head _), v.fr _ _ a2, v.fr _ _ b2, v.fr _ _ c2, v.fr _ _ ht, hP.same v.fr⟩
def spIsR (CR : Addr) : Sp := fun vs H Q _ => ∃ (p t : Addr) (ws : List Int) (n : Nat), vs = [.ref p, .ref t] ∧ RowAt CR H p (ws.map V.int) ∧ H t = some (.tup (ws.map V.int)) ∧ IsRow ws n ∧ n ≤ 24 ∧ Q (.bl true) H
theorem scIsR : FnScope ["told", "waggons"] ["told", "waggons"] (defScope sIsR) := ⟨rfl, rfl, rfl, by decide +kernel, rfl, by decide +kernel, by decide +kernel⟩
theorem ok_isr {f : Addr} {fd : FuncData} (F : Fun K "_law_is_row" "_law_is_row" sIsR f fd) (B : Blt mg) (R : RowC K mg CR) : FnG P' w K mg base CX0 1 f fd ["told", "waggons"] (spIsR CR) := by
  refine fnG F scIsR (fun vs H Q E h => ?_) (fun cdv A outer s H vs Q E hgd0 hr h => ?_)
  · obtain ⟨p, t, ws, n, rfl, _⟩ := h
    rfl
  · obtain ⟨p, t, ws, n, rfl, hR, ht, hrow, hn, k⟩ := h
    have hgd := (guards_deeper (A := A) (env := PyProof.Rows.envOfC "_law_is_row" (defScope sIsR) s.heap.objs.size f cdv)).trans hgd0
    have hun := hr.units
    have hun : (A.deeper (PyProof.Rows.envOfC "_law_is_row" (defScope sIsR) s.heap.objs.size f cdv)).units + 64 < cLine := by omega
    refine ⟨_, (pss_one (ps_ret (pe_and (pe_callB call_isi (by rfl) B.isinstance (by decide +kernel) (pa_cons (pv 0) (pa_cons (pe_cl (by rfl) R.mgR) pa_nil))) (pe_and (pe_callB call_isi (by rfl) B.isinstance (by decide +kernel) (pa_cons (pe_fldF (pv 0)) (pa_cons (pe_bltn (v := .ty "tuple") (by rfl) B.tuple (by decide +kernel) rfl) pa_nil))) (pe_one (pe_cmpR op_eq (pe_callB (call_reprQ hgd hun) (by rfl) B.repr (by decide +kernel) (pa_cons (pe_fldF (pv 0)) pa_nil)) (pe_callB (call_reprQ hgd hun) (by rfl) B.repr (by decide +kernel) (pa_cons (pv 1) pa_nil)) (nomark _))))))), ?_⟩
    walk_at "s"
    obtain ⟨dx, tp, h1, h2⟩ := id hR
    have kt : PySem.W.kitOne K (.type "tuple") (.type "tuple") = some true := kit_ty (by decide +kernel)
    refine ⟨.ref p, .ref CR, .ref CR, .ref CR, true, rfl, .own _, .base (.ins h1 R.cl R.hc R.hn R.htk R.hm), R.ks, .inr ⟨rfl, CR, dx, _, h1, R.cl, R.nW, _, rfl, ?_⟩⟩
    refine ⟨_, .ty "tuple", _, .type "tuple", true, rfl, .ty _, .base (.tup h2), kt, .inr ⟨rfl, CR, dx, _, h1, R.cl, R.nW, _, rfl, ?_⟩⟩
    refine ⟨_, _, rfl, .of (.tup (SqT.of h2) (dp_ints ws)) (shw_row hrow hn), _, _, rfl, .of (.tup (SqT.of ht) (dp_ints ws)) (shw_row hrow hn), by rfl, ?_⟩
    rw [decide_eq_true rfl]
    exact k
end
/-- values that are turnings or are none: None, ints, lists, pairs of ints and truths -/
inductive OdV (g : Addr) (H : Hp) : V → Option (V × V) → Prop where
  | non : OdV g H .non none
  | int (i : Int) : OdV g H (.int i) none
  | lst {a : Addr} (n : a ≠ g) (h : H a = some (.lst [.int 0, .int 0])) : OdV g H (.ref a) none
  | tup {a : Addr} {i j : Int} (h : H a = some (.tup [.int i, .int j])) : OdV g H (.ref a) (some (.int i, .int j))
  | bl {a : Addr} {i : Int} {j : Bool} (h : H a = some (.tup [.int i, .bl j])) : OdV g H (.ref a) (some (.int i, .bl j))
def NiK (H H' : Hp) : Prop := ∀ a u, (∀ C d fs, u ≠ .ins C d fs) → noTbl u = true → H a = some u → H' a = some u
theorem OdV.keep {g : Addr} {H H' : Hp} {x : V} {o : Option (V × V)} (h : OdV g H x o) (k : NiK H H') : OdV g H' x o := by
  cases h with
  | non => exact .non
  | int i => exact .int i
  | lst n h => exact .lst n (k _ _ (fun _ _ _ z => by cases z) rfl h)
  | tup h => exact .tup (k _ _ (fun _ _ _ z => by cases z) rfl h)
  | bl h => exact .bl (k _ _ (fun _ _ _ z => by cases z) rfl h)
theorem OdV.stV {g : Addr} {K : PySem.W.Frag} {H : Hp} {x : V} {o : Option (V × V)} (h : OdV g H x o) : StV K H x o := by
  cases h with
  | non => exact .inl ⟨_, .base .non, kit_ty (by decide +kernel)⟩
  | int i => exact .inl ⟨_, .base (.int _), kit_ty (by decide +kernel)⟩
  | lst _ h => exact .inl ⟨_, .base (.lst h), kit_ty (by decide +kernel)⟩
  | tup h => exact ⟨_, rfl, h, .int _, .int _⟩
  | bl h => exact ⟨_, rfl, h, .int _, .bl _⟩
theorem OdV.dp {g : Addr} {K : PySem.W.Frag} {H : Hp} {x : V} {o : Option (V × V)} (h : OdV g H x o) : ∃ d, Dp K H x d ∧ d.canLay0 = true ∧ d.depth ≤ 4 := by
  cases h with
  | non => exact ⟨.none, .non, by simp [PyData.canLay0], by simp [PyData.depth]⟩
  | int i => exact ⟨.int i, .int i, by simp [PyData.canLay0], by simp [PyData.depth]⟩
  | lst _ h => exact ⟨_, .lst (SqL.of h) (.cons (.int _) (.cons (.int _) .nil)), by simp [PyData.canLay0, PyData.canLayAll0], by simp [PyData.depth, PyData.depthAll]⟩
  | tup h => exact ⟨_, .tup (SqT.of h) (.cons (.int _) (.cons (.int _) .nil)), by simp [PyData.canLay0, PyData.canLayAll0], by simp [PyData.depth, PyData.depthAll]⟩
  | bl h => exact ⟨_, .tup (SqT.of h) (.cons (.int _) (.cons (.bl _) .nil)), by simp [PyData.canLay0, PyData.canLayAll0], by simp [PyData.depth, PyData.depthAll]⟩
def OdL (g : Addr) (H : Hp) (xs : List V) (os : List (Option (V × V))) : Prop := Paired (OdV g H) xs os
theorem OdL.keep {g : Addr} {H H' : Hp} {xs : List V} {os : List (Option (V × V))} (h : OdL g H xs os) (k : NiK H H') : OdL g H' xs os := Paired.mapP h fun _ _ z => z.keep k
theorem OdL.len {g : Addr} {H : Hp} {xs : List V} {os : List (Option (V × V))} (h : OdL g H xs os) : xs.length = os.length := by
  unfold OdL at h
  induction h with
  | nil => rfl
  | cons _ _ ih => rw [List.length_cons, List.length_cons, ih]
theorem OdL.stl {g : Addr} {K : PySem.W.Frag} {H : Hp} {xs : List V} {os : List (Option (V × V))} (h : OdL g H xs os) : StL K H xs os := Paired.mapP h fun _ _ z => z.stV
theorem OdL.app {g : Addr} {H : Hp} : ∀ {xs ys : List V} {os rs : List (Option (V × V))}, OdL g H xs os → OdL g H ys rs → OdL g H (xs ++ ys) (os ++ rs)
  | _, _, _, _, .nil, h => h
  | _, _, _, _, .cons e r, h => .cons e (OdL.app r h)
theorem OdL.take {g : Addr} {H : Hp} : ∀ {xs : List V} {os : List (Option (V × V))} (n : Nat), OdL g H xs os → OdL g H (xs.take n) (os.take n)
  | _, _, 0, _ => .nil
  | _, _, n + 1, .nil => .nil
  | _, _, n + 1, .cons e r => .cons e (OdL.take n r)
theorem OdL.drop {g : Addr} {H : Hp} : ∀ {xs : List V} {os : List (Option (V × V))} (n : Nat), OdL g H xs os → OdL g H (xs.drop n) (os.drop n)
  | _, _, 0, h => h
  | _, _, n + 1, .nil => .nil
  | _, _, n + 1, .cons e r => OdL.drop n r
theorem OdL.get {g : Addr} {H : Hp} : ∀ {xs : List V} {os : List (Option (V × V))} {n : Nat} {o : Option (V × V)}, OdL g H xs os → os[n]? = some o → ∃ x, xs[n]? = some x ∧ OdV g H x o
  | _, _, 0, _, .cons e r, h => by
    simp at h
    subst h
    exact ⟨_, rfl, e⟩
  | _, _, n + 1, _, .cons e r, h => by
    have h : _ := (List.getElem?_cons_succ ▸ h)
    obtain ⟨x, h1, h2⟩ := OdL.get r h
    exact ⟨x, by rw [List.getElem?_cons_succ]; exact h1, h2⟩
def prO (p : Nat × Nat) : Option (V × V) := some (.int (p.1 : Nat), .int (p.2 : Nat))
theorem OdL.prl {g : Addr} {H : Hp} : ∀ {xs : List V} {qs : List (Nat × Nat)}, OdL g H xs (qs.map prO) → PrL H xs qs
  | _, [], h => by
    cases h
    exact .nil
  | _, q :: qs, h => by
    cases h with
    | cons e r =>
      refine .cons ?_ (OdL.prl r)
      cases e with
      | tup h => exact ⟨_, rfl, h⟩
theorem prl_odl {g : Addr} {H : Hp} : ∀ {xs : List V} {qs : List (Nat × Nat)}, PrL H xs qs → OdL g H xs (qs.map prO)
  | _, [], h => by
    cases h
    exact .nil
  | _, q :: qs, h => by
    cases h with
    | cons e r =>
      obtain ⟨a, rfl, ha⟩ := e
      exact .cons (.tup ha) (prl_odl r)
theorem dp_someA {K : PySem.W.Frag} {H : Hp} : ∀ {zs : List V}, (∀ z ∈ zs, ∃ d, Dp K H z d ∧ d.canLay0 = true ∧ d.depth ≤ 4) → ∃ ds, DpAll K H zs ds ∧ ds.length = zs.length ∧ PyData.canLayAll0 ds = true ∧ PyData.depthAll ds ≤ 4
  | [], _ => ⟨[], .nil, rfl, by simp [PyData.canLayAll0], by simp [PyData.depthAll]⟩
  | z :: zs, h => by
    obtain ⟨d, hd, c, e⟩ := h z List.mem_cons_self
    obtain ⟨ds, h1, h2, h3, h4⟩ := dp_someA fun y hy => h y (List.mem_cons_of_mem _ hy)
    refine ⟨d :: ds, .cons hd h1, by rw [List.length_cons, List.length_cons, h2], by simp [PyData.canLayAll0, c, h3], ?_⟩
    simp only [PyData.depthAll]
    omega
theorem OdL.mem {g : Addr} {H : Hp} : ∀ {xs : List V} {os : List (Option (V × V))}, OdL g H xs os → ∀ x ∈ xs, ∃ o, OdV g H x o
  | _, _, .cons e r, x, hx => by
    rcases List.mem_cons.mp hx with z | z
    · rw [z]
      exact ⟨_, e⟩
    · exact OdL.mem r x z
theorem OdL.dp {g : Addr} {K : PySem.W.Frag} {H : Hp} {xs : List V} {os : List (Option (V × V))} (h : OdL g H xs os) : ∃ ds, DpAll K H xs ds ∧ SeqAt.shaped (.list ds) = true := by
  obtain ⟨ds, h1, h2, h3, h4⟩ := dp_someA (K := K) (H := H) (zs := xs) fun z hz => by
    obtain ⟨o, ho⟩ := h.mem z hz
    exact ho.dp
  refine ⟨ds, h1, ?_⟩
  unfold SeqAt.shaped
  have e : (PyData.list ds).depth ≤ 64 := by
    simp [PyData.depth]
    omega
  simp [PyData.canLay0, h3, e]
/-- the turnings ahead of the first that is none -/
def GdP (n : Nat) (qs : List (Nat × Nat)) : Prop := ∀ p ∈ qs, p.1 ≤ p.2 ∧ p.2 < n
structure GdO (os : List (Option (V × V))) (many : Nat) (qs : List (Nat × Nat)) : Prop where
  tk : os.take qs.length = qs.map prO
  gd : GdP many qs
  nx : os.length = qs.length ∨ ∃ o, os[qs.length]? = some o ∧ stOk ((many : Int) - 1) o = false
theorem stOk_pr {many : Nat} {p : Nat × Nat} (h1 : p.1 ≤ p.2) (h2 : p.2 < many) : stOk ((many : Int) - 1) (prO p) = true := by
  simp only [prO, stOk, wholeV, Bool.and_eq_true, decide_eq_true_eq]
  omega
theorem runO_good {many : Nat} : ∀ {qs : List (Nat × Nat)} {ws : List Int} {os : List (Option (V × V))}, GdP many qs → runO many ws (qs.map prO ++ os) = runO many (foldT ws qs) os
  | [], _, _, _ => rfl
  | q :: qs, ws, os, h => by
    show runO many ws (some (V.int ((q.1 : Nat) : Int), V.int ((q.2 : Nat) : Int)) :: (qs.map prO ++ os)) = _
    rw [runO_ok (h q List.mem_cons_self).1 (h q List.mem_cons_self).2, runO_good fun p hp => h p (List.mem_cons_of_mem _ hp)]
    rfl
theorem GdO.split {os : List (Option (V × V))} {many : Nat} {qs : List (Nat × Nat)} (h : GdO os many qs) : os = qs.map prO ++ os.drop qs.length := by
  rw [← h.tk, List.take_append_drop]
theorem GdO.run {os : List (Option (V × V))} {many : Nat} {qs : List (Nat × Nat)} {ws : List Int} (h : GdO os many qs) : runO many ws os = if os.length = qs.length then some (foldT ws qs) else none := by
  rw [h.split, runO_good h.gd]
  rcases h.nx with e | ⟨o, e, b⟩
  · rw [List.drop_of_length_le (by omega)]
    have : (qs.map prO ++ ([] : List (Option (V × V)))).length = qs.length := by simp
    rw [if_pos this]
    unfold runO
    rfl
  · have hl : qs.length < os.length := (List.getElem?_eq_some_iff.mp e).1
    have : ¬ (qs.map prO ++ os.drop qs.length).length = qs.length := by
      rw [List.length_append, List.length_map, List.length_drop]
      omega
    rw [if_neg this]
    obtain ⟨_, e2⟩ := List.getElem?_eq_some_iff.mp e
    rw [List.drop_eq_getElem_cons hl, e2]
    exact runO_bad b
theorem GdO.cut {os : List (Option (V × V))} {many : Nat} {qs : List (Nat × Nat)} (h : GdO os many qs) (k : Nat) : GdO (os.take k) many (qs.take k) := by
  have hl : qs.length ≤ os.length := by
    rcases h.nx with e | ⟨o, e, _⟩
    · omega
    · exact Nat.le_of_lt (List.getElem?_eq_some_iff.mp e).1
  refine ⟨?_, fun p hp => h.gd p (List.mem_of_mem_take hp), ?_⟩
  · rw [List.length_take, List.take_take, List.map_take, ← h.tk, List.take_take]
    congr 1
    omega
  · rw [List.length_take, List.length_take]
    by_cases c : k ≤ qs.length
    · left
      omega
    · rcases h.nx with e | ⟨o, e, b⟩
      · left
        omega
      · right
        refine ⟨o, ?_, b⟩
        rw [Nat.min_eq_right (by omega), List.getElem?_take_of_lt (by omega)]
        exact e
section
variable {P' : Program} {w : World} {K : PySem.W.Frag} {mg : Str → Option Value} {base : Heap} {C : Kd → Addr} {CR CB CM CK CT : Addr}
/-- new beside all but tables -/
def NewT (H : Hp) (l : Addr) : Prop := ∀ u, H l = some u → noTbl u = false
theorem newT_kn {m c g : Addr} {cs : List Int} {Tb : TbN} {N : Nat} {H A : Hp} {a : Addr} (k : Kn m g H A) (d : DS m c g cs Tb N A) (h : A a = none) : NewT H a := fun u hu => by
  obtain ⟨_, _, _, h1, h2, _⟩ := d
  cases e : noTbl u with
  | false => rfl
  | true =>
    have := k _ _ hu (fun z => by rw [z, h1] at h; cases h) (fun z => by rw [z, h2] at h; cases h) e
    rw [h] at this
    cases this
theorem NewT.ne {H : Hp} {l a : Addr} {u : HO} (h : NewT H l) (ha : H a = some u) (n : noTbl u = true) : l ≠ a := fun z => by
  subst z
  rw [h u ha] at n
  cases n
theorem NewT.of {H : Hp} {l : Addr} (h : H l = none) : NewT H l := fun u hu => by
  rw [h] at hu
  cases hu
theorem cut_t {ws : List V} {j : Nat} (hj : j ≤ ws.length) : cutV ws none (some (j : Int)) = ws.take j := by
  unfold cutV
  rw [HT.sIx_none, HT.sIx_nat, Nat.min_eq_left hj]
  simp
def spSome (Tb : TbN) : Sp := fun vs H Q _ => ∃ (m c g : Addr) (cs : List Int) (N many : Nat), vs = [.ref m, .int (many : Nat)] ∧ 1 ≤ many ∧ many ≤ 24 ∧ DS m c g cs Tb N H ∧ N < 2 ^ 36 ∧
  ∀ l xs os qs H', NewT H l → H' l = some (.lst xs) → OdL g H' xs os → GdO os many qs → xs.length ≤ 7 → qs.length ≤ 5 → DS m c g cs Tb (N + 20) H' → Kn m g H H' → Q (.ref l) H'
theorem scSome : FnScope ["m", "many", "found", "n", "first", "k", "odd"] ["m", "many"] (defScope sSome) := ⟨rfl, rfl, rfl, by decide +kernel, rfl, by decide +kernel, by decide +kernel⟩
theorem ok_some {Tb : TbN} {f fD : Addr} {fd fdD : FuncData} (F : Fun K "_law_some" "_law_some" sSome f fd) (B : Blt mg) (cDraw : Dn P' w K mg base 2 "_law_draw" fD fdD ["m", "limit"] spDraw) : FnOk P' w K mg base CX0 3 f fd ["m", "many"] (spSome Tb) := by
  refine F.ok scSome (fun vs H Q E h => ?_) (fun cdv A outer s H vs Q E hr h => ⟨_, (pss_cons (ps_set (i := 2) scSome.nd rfl (by first | exact Or.inl rfl | exact Or.inr rfl) (pe_lstF pa_nil))
      (pss_cons (ps_for PassesOwn.never rfl (pi_range1 (by rfl) B.range (pa_cons (pe_call cDraw.ok (hr.mono (by decide)) rfl cDraw.mgf cDraw.kp cDraw.bi .nil pass0 (pa_cons (pv 0) (pa_cons pe_int pa_nil))) pa_nil)) (pg_name (i := 3) scSome.nd rfl (by first | exact Or.inl rfl | exact Or.inr rfl)) (pss_cons (ps_set (i := 4) scSome.nd rfl (by first | exact Or.inl rfl | exact Or.inr rfl) (pe_call cDraw.ok (hr.mono (by decide)) rfl cDraw.mgf cDraw.kp cDraw.bi .nil pass0 (pa_cons (pv 0) (pa_cons (pv 1) pa_nil))))
      (pss_one (ps_expr (pe_lm PySem.F.slot_list_append PySem.F.type_list_append appF (pv 2) (pa_cons (pe_tupF (pa_cons (pv 4) (pa_cons (pe_op op_add (pv 4) (pe_call cDraw.ok (hr.mono (by decide)) rfl cDraw.mgf cDraw.kp cDraw.bi .nil pass0 (pa_cons (pv 0) (pa_cons (pe_op op_sub (pv 1) (pv 4)) pa_nil)))) pa_nil))) pa_nil))))))
      (pss_cons (ps_if (pt_cmpR op_eq (pe_call cDraw.ok (hr.mono (by decide)) rfl cDraw.mgf cDraw.kp cDraw.bi .nil pass0 (pa_cons (pv 0) (pa_cons pe_int pa_nil))) pe_int (nomark _)) (pss_cons (ps_set (i := 5) scSome.nd rfl (by first | exact Or.inl rfl | exact Or.inr rfl) (pe_call cDraw.ok (hr.mono (by decide)) rfl cDraw.mgf cDraw.kp cDraw.bi .nil pass0 (pa_cons (pv 0) (pa_cons (pe_op op_add (pe_callB lenF (by rfl) B.len (by decide +kernel) (pa_cons (pv 2) pa_nil)) pe_int) pa_nil))))
      (pss_cons (ps_set (i := 6) scSome.nd rfl (by first | exact Or.inl rfl | exact Or.inr rfl) (pe_ix ixF (pe_lstF (pa_cons pe_non (pa_cons (pe_tupF (pa_cons pe_int (pa_cons (pv 1) pa_nil))) (pa_cons (pe_tupF (pa_cons pe_int (pa_cons pe_int pa_nil))) (pa_cons (pe_tupF (pa_cons (pe_op op_sub pe_int pe_int) (pa_cons pe_int pa_nil))) (pa_cons (pe_lstF (pa_cons pe_int (pa_cons pe_int pa_nil))) (pa_cons (pe_tupF (pa_cons pe_int (pa_cons pe_bl pa_nil))) (pa_cons pe_int pa_nil)))))))) (pe_call cDraw.ok (hr.mono (by decide)) rfl cDraw.mgf cDraw.kp cDraw.bi .nil pass0 (pa_cons (pv 0) (pa_cons pe_int pa_nil))) (fun _ _ => rfl)))
      (pss_one (ps_set (i := 2) scSome.nd rfl (by first | exact Or.inl rfl | exact Or.inr rfl) (pe_op catF (pe_op catF (pe_slice slF (pv 2) po_none (po_some (pv 5))) (pe_lstF (pa_cons (pv 6) (pa_cons pe_non pa_nil)))) (pe_slice slF (pv 2) (po_some (pv 5)) po_none)))))) pss_nil)
      (pss_one (ps_ret (pv 2)))))), ?_⟩)
  · obtain ⟨m, c, g, cs, N, many, rfl, _⟩ := h
    rfl
  · obtain ⟨m, c, g, cs, N, many, rfl, n1, n24, hD, hN, k⟩ := h
    refine seq_nx (fun σ' H' => ∃ l, σ' = [some (.ref m), some (.int (many : Nat)), some (.ref l), none, none, none, none] ∧ Same H H' ∧ H l = none ∧ H' l = some (.lst [])) (fun Z hZ => ?_) ?_
    · walk_at "s"
      exact view_new (VW.start (H := H)) fun l A1 v1 => hZ _ _ ⟨l, rfl, v1.fr, v1.own (l, _) (.head _), v1.at_ (l, _) (.head _)⟩
    rintro σ1 H1 ⟨l, rfl, s1, nl, hl⟩
    have hD1 := hD.same s1
    obtain ⟨_, _, _, hm0, hg0, hc0, _⟩ := id hD
    have lm : l ≠ m := fun z => by rw [z, hm0] at nl; cases nl
    have lg : l ≠ g := fun z => by rw [z, hg0] at nl; cases nl
    refine seq_q (fun σ' H' => ∃ (xs : List V) (qs : List (Nat × Nat)) (u3 u4 : Option V), σ' = [some (.ref m), some (.int (many : Nat)), some (.ref l), u3, u4, none, none] ∧ H' l = some (.lst xs) ∧ PrL H' xs qs ∧ GdP many qs ∧ qs.length ≤ 5 ∧ DS m c g cs Tb (N + 11) H' ∧ Kn m g H H') (fun D2 eD2 hZ => ?_) ?_
    · refine ⟨_, rfl, ?_⟩
      dsimp only [tCons, tC, tNil, List.nil_append, List.cons_append]
      refine draw_ds (lim := 6) hD1 (by decide) (by decide) (by omega) fun r A1 r0 r1 d1 k1 => ?_
      obtain ⟨r, rfl⟩ := Int.eq_ofNat_of_zero_le r0
      refine ⟨_, rfl, by omega, by omega, ?_⟩
      rw [show ((r : Nat) : Int).toNat = r by omega]
      refine for_it (walk_range (lo := 0) (n := r)) (fun i σ H' => ∃ (xs : List V) (qs : List (Nat × Nat)) (u3 u4 : Option V), σ = [some (.ref m), some (.int (many : Nat)), some (.ref l), u3, u4, none, none] ∧ H' l = some (.lst xs) ∧ PrL H' xs qs ∧ GdP many qs ∧ qs.length = i ∧ DS m c g cs Tb (N + 1 + 2 * i) H' ∧ Kn m g H H')
        ⟨[], [], none, none, rfl, k1 _ _ hl lm lg rfl, .nil, (fun _ h => nomatch h), rfl, d1, Kn.trans (Kn.of s1) k1⟩ (fun _ _ _ _ _ => True.intro) ?_ ?_
      · rintro i x σ B1 B2 hi ⟨xs, qs, u3, u4, rfl, hlB, hP, hG, lq, dB, kB⟩ ⟨rfl, rfl⟩
        walk_at "s"
        refine draw_ds dB (by omega) (by omega) (by omega) fun x C1 x0 x1 d1 k1 => ?_
        obtain ⟨x, rfl⟩ := Int.eq_ofNat_of_zero_le x0
        have hl1 := k1 _ _ hlB lm lg rfl
        refine ⟨⟨_, hl1⟩, _, rfl, draw_ds d1 (by omega) (by omega) (by omega) fun y C2 y0 y1 d2 k2 => ?_⟩
        obtain ⟨y, rfl⟩ := Int.eq_ofNat_of_zero_le y0
        have hl2 := k2 _ _ hl1 lm lg rfl
        have lxs := hP.len
        refine ⟨_, rfl, _, rfl, sz_le (by decide), view_tup (VW.start (H := C2)) fun p C3 v3 => ?_⟩
        have hl3 := v3.fr _ _ hl2
        have hp := v3.tu (p, _) (.head _)
        have k3 : Kn m g B2 C3 := (k1.trans k2).trans (Kn.of v3.fr)
        have kl : ∀ {a : Addr} {zs : List V}, C3 a = some (.tup zs) → upd C3 l (.lst (xs ++ [.ref p])) a = some (.tup zs) := fun {a zs} h => by rw [upd_ne (fun z => by rw [z, hl3] at h; cases h)]; exact h
        refine ⟨_, hl3, sz_lt (by omega), _, upd_same, qs ++ [(x, x + y)], ?_, ?_, by rw [List.length_append]; simp; omega, ((d2.same v3.fr).put hl3 lg ?_).le (by omega), ?_⟩
        · refine PrL.snoc (Paired.mapP hP fun _ _ ⟨a, e, ha⟩ => ⟨a, e, kl (v3.fr _ _ (k2.at d1 (k1.at dB ha rfl) rfl))⟩) (kl ?_)
          rw [hp]
          simp
        · intro q hq
          rcases List.mem_append.mp hq with h | h
          · exact hG q h
          · rw [List.mem_singleton.mp h]
            exact ⟨by show x ≤ x + y; omega, by show x + y < many; omega⟩
        · exact fun z => by rw [z, hc0] at nl; cases nl
        · intro b o hb n1 n2 n3
          rw [upd_ne (fun z => by rw [z, nl] at hb; cases hb)]
          exact k3 _ _ (kB _ _ hb n1 n2 n3) n1 n2 n3
      · rintro σ B1 ⟨xs, qs, u3, u4, rfl, hlB, hP, hG, lq, dB, kB⟩
        exact hZ _ _ ⟨xs, qs, u3, u4, rfl, hlB, hP, hG, by omega, dB.le (by omega), kB⟩
    rintro σ2 H2 ⟨xs, qs, u3, u4, rfl, hl2, hP, hG, lq, hD2, k2⟩
    have lx := hP.len
    refine seq_nx (fun σ' H' => ∃ (l2 : Addr) (ys : List V) (os : List (Option (V × V))) (qs : List (Nat × Nat)) (u5 u6 : Option V), σ' = [some (.ref m), some (.int (many : Nat)), some (.ref l2), u3, u4, u5, u6] ∧ NewT H l2 ∧ H' l2 = some (.lst ys) ∧ OdL g H' ys os ∧ GdO os many qs ∧ ys.length ≤ 7 ∧ qs.length ≤ 5 ∧ DS m c g cs Tb (N + 20) H' ∧ Kn m g H H') (fun Z hZ => ?_) ?_
    · walk_at "s"
      refine draw_ds hD2 (by decide) (by decide) (by omega) fun r A1 r0 r1 d1 k1 => ⟨rfl, ?_⟩
      have hlA := k1 _ _ hl2 lm lg rfl
      by_cases z : V.int r = V.int 0
      · rw [if_pos z]
        refine ⟨_, hlA, _, rfl, draw_ds d1 (by omega) (by omega) (by omega) fun kk A2 q0 q1 d2 k2' => ?_⟩
        obtain ⟨kk, rfl⟩ := Int.eq_ofNat_of_zero_le q0
        refine ⟨sz_le (by decide), view_tup (VW.start (H := A2)) fun p1 B1 v1 => ⟨sz_le (by decide), view_tup v1 fun p2 B2 v2 => ⟨sz_le (by decide), view_tup v2 fun p3 B3 v3 => ⟨sz_le (by decide), view_new v3 fun p4 B4 v4 => ⟨sz_le (by decide), view_tup v4 fun p5 B5 v5 => ⟨sz_le (by decide), view_new v5 fun pl B6 v6 => ?_⟩⟩⟩⟩⟩⟩
        have d6 := d2.same v6.fr
        obtain ⟨_, _, _, hm2, hg2, _⟩ := id d2
        have opl := v6.own (pl, _) (.head _)
        have op4 := v6.own (p4, _) (.tail _ (.head _))
        refine draw_ds (lim := 7) d6 (by decide) (by decide) (by omega) fun y B7 y0 y1 d7 k7 => ?_
        obtain ⟨y, rfl⟩ := Int.eq_ofNat_of_zero_le y0
        have hpl := k7 _ _ (v6.at_ (pl, _) (.head _)) (fun z => by rw [z, hm2] at opl; cases opl) (fun z => by rw [z, hg2] at opl; cases opl) rfl
        have hp4 := k7 _ _ (v6.at_ (p4, _) (.tail _ (.head _))) (fun z => by rw [z, hm2] at op4; cases op4) (fun z => by rw [z, hg2] at op4; cases op4) rfl
        have tu7 : ∀ {p : Addr} {zs : List V}, B6 p = some (.tup zs) → B7 p = some (.tup zs) := fun {p zs} h => k7.at d6 h rfl
        have hl7 := k7 _ _ (v6.fr _ _ (k2' _ _ hlA lm lg rfl)) lm lg rfl
        obtain ⟨v, o, hv, hO, hs⟩ : ∃ v o, atI [V.non, .ref p1, .ref p2, .ref p3, .ref p4, .ref p5, .int 5] (y : Nat) = some v ∧ OdV g B7 v o ∧ stOk ((many : Int) - 1) o = false := by
          have : y = 0 ∨ y = 1 ∨ y = 2 ∨ y = 3 ∨ y = 4 ∨ y = 5 ∨ y = 6 := by omega
          rcases this with rfl | rfl | rfl | rfl | rfl | rfl | rfl
          · exact ⟨_, _, rfl, .non, rfl⟩
          · exact ⟨_, _, rfl, .tup (tu7 (v6.tu (p1, _) (.tail _ (.tail _ (.tail _ (.head _)))))), by simp [stOk, wholeV] <;> omega⟩
          · exact ⟨_, _, rfl, .tup (tu7 (v6.tu (p2, _) (.tail _ (.tail _ (.head _))))), by simp [stOk, wholeV] <;> omega⟩
          · exact ⟨_, _, rfl, .tup (tu7 (v6.tu (p3, _) (.tail _ (.head _)))), by simp [stOk, wholeV] <;> omega⟩
          · exact ⟨_, _, rfl, .lst (fun z => by rw [z, hg2] at op4; cases op4) hp4, rfl⟩
          · exact ⟨_, _, rfl, .bl (tu7 (v6.tu (p5, _) (.head _))), by simp [stOk, wholeV] <;> omega⟩
          · exact ⟨_, _, rfl, .int 5, rfl⟩
        refine ⟨_, rfl, _, hpl, _, rfl, v, hv, _, rfl, xs, hl7, ?_⟩
        have lxs := hP.len
        have kx : kk ≤ xs.length := by omega
        refine view_new (VW.start (H := B7)) fun a1 C1 w1 => ⟨sz_le (by decide), view_new w1 fun a2 C2 w2 => ?_⟩
        refine ⟨_, w2.at_ (a1, _) (.tail _ (.head _)), _, w2.at_ (a2, _) (.head _), sz_le (by rw [cut_t kx, List.length_take]; simp; omega), view_new w2 fun a3 C3 w3 => ?_⟩
        refine ⟨_, rfl, _, w3.fr _ _ hl7, view_new w3 fun a4 C4 w4 => ?_⟩
        refine ⟨_, w4.at_ (a3, _) (.tail _ (.head _)), _, w4.at_ (a4, _) (.head _), sz_le (by rw [cut_t kx, cut_n kx, List.length_append, List.length_take, List.length_drop]; simp; omega), view_new w4 fun a5 C5 w5 => ?_⟩
        have up : ∀ {a : Addr} {zs : List V}, H2 a = some (.tup zs) → C5 a = some (.tup zs) := fun {a zs} h => w5.fr _ _ (tu7 (v6.fr _ _ (k2'.at d1 (k1.at hD2 h rfl) rfl)))
        have hP5 : PrL C5 xs qs := Paired.mapP hP fun _ _ ⟨a, e, ha⟩ => ⟨a, e, up ha⟩
        have hX := prl_odl (g := g) hP5
        have n5 : NewT H a5 := newT_kn (((k2.trans k1).trans (k2'.trans (Kn.of v6.fr))).trans k7) d7 (w5.own (a5, _) (.head _))
        have c5 := w5.at_ (a5, _) (.head _)
        rw [cut_t kx, cut_n kx] at c5
        refine hZ _ _ ⟨a5, _, ((qs.map prO).take kk ++ [o, none]) ++ (qs.map prO).drop kk, qs.take kk, _, _, rfl, n5, c5, ((hX.take kk).app (.cons (hO.keep fun _ _ _ _ h => w5.fr _ _ h) (.cons .non .nil))).app (hX.drop kk), ⟨?_, fun p hp => hG p (List.mem_of_mem_take hp), .inr ⟨o, ?_, hs⟩⟩, ?_, ?_, (d7.same w5.fr).le (by omega), ?_⟩
        · rw [List.append_assoc, List.take_append_of_le_length (by simp), List.map_take]
          rw [List.take_take]
          congr 1
          simp
          omega
        · have e1 : (qs.take kk).length = ((qs.map prO).take kk).length := by simp
          rw [e1, List.append_assoc, List.getElem?_append_right (Nat.le_refl _), Nat.sub_self]
          rfl
        · simp
          omega
        · rw [List.length_take]
          omega
        · exact ((k2.trans k1).trans (k2'.trans (Kn.of v6.fr))).trans (k7.trans (Kn.of w5.fr))
      · rw [if_neg z]
        exact hZ _ _ ⟨l, xs, qs.map prO, qs, none, none, rfl, .of nl, hlA, prl_odl (Paired.mapP hP fun _ _ ⟨a, e, ha⟩ => ⟨a, e, k1.at hD2 ha rfl⟩), ⟨by rw [← List.map_take, List.take_length], hG, .inl (by simp)⟩, by omega, lq, d1.le (by omega), k2.trans k1⟩
    rintro σ3 H3 ⟨l2, ys, os, qs, u5, u6, rfl, n2, h2, hO, hgd, ly, lqs, hD3, k3⟩
    exact ⟨_, rfl, k l2 ys os qs H3 n2 h2 hO hgd ly lqs hD3 k3⟩
end
end Fab
set_option maxHeartbeats 4000000
namespace Fab
open PySem L2 PySem.FabX
open PyProof.Rows (envOfC)
abbrev sSlip : Stmt := top 76
abbrev sRefu : Stmt := top 77
local macro_rules | `(tactic| walk_at "s") => `(tactic| simp [tPar, tProp, tFldF, sFldF, putF, tSeq, tAsg, tOp, tUn, tVar, tC, gName, tCons, tNil, tCB, tCall, rI, rI0, rU, tRet, tDrop, tIfS, tNext, tIf, tTest, tNot, tOr, tAnd, tB, L2.start, CMul, CDiv, rIxF, rLenF, rIntF, sq_lst, sq_tup, tLstF, tTupF, gSub, rCatF, rCatTF, rInF, rNe, rEq, tAndV, tOrV, tNotV, tChain, rTupF, rListF, tFldF, tRx, tMake, tMeth, tSl, tPart, tNoPart, rSlTF, rSlF, tRevTF, gTup, gCons, gNil, rIsB, rNotB, tLM, rAppF, tLstRgF, tRg2, tLstRg, iRng1, iRng2])
theorem rowAt_kn {CR : Addr} {m g' c' : Addr} {cs : List Int} {Tb : TbN} {N : Nat} {H H' : Hp} {r : Addr} {xs : List V} (d : DS m c' g' cs Tb N H) (k : Kn m g' H H') (h : RowAt CR H r xs) : RowAt CR H' r xs := by
  obtain ⟨dx, tp, h1, h2⟩ := h
  exact ⟨dx, tp, k.at d h1 rfl, k.at d h2 rfl⟩
theorem rowAt_kb {CR CB b dx : Addr} {H H' : Hp} {r : Addr} {xs : List V} {fs : List (Str × V)} (h : RowAt CR H r xs) (k : KB b H H') (hb : H b = some (.ins CB dx fs)) (ne : CB ≠ CR) : RowAt CR H' r xs := by
  obtain ⟨d, tp, h1, h2⟩ := h
  exact ⟨d, tp, k _ _ (fun z => by rw [z, hb] at h1; cases h1; exact ne rfl) rfl h1, k _ _ (fun z => by rw [z, hb] at h2; cases h2) rfl h2⟩
theorem BenAt.extN {CR CB CM b r0 r1 : Addr} {H H' : Hp} {ws : List Int} {ps us : List (Nat × Nat)} (h : BenAt CR CB CM H b r0 r1 ws ps us) (e : LamX.ExtN H H') : BenAt CR CB CM H' b r0 r1 ws ps us := by
  obtain ⟨dx, mo, h, td, tu, zs, ys, h1, ⟨dm, h2⟩, ⟨d0, t0, h3, h3'⟩, h4, h5, h6, h7⟩ := h
  exact ⟨dx, mo, h, td, tu, zs, ys, e _ _ h1 (noTbl_ne rfl), ⟨dm, e _ _ h2 (noTbl_ne rfl)⟩, ⟨d0, t0, e _ _ h3 (noTbl_ne rfl), e _ _ h3' (noTbl_ne rfl)⟩, e _ _ h4 (noTbl_ne rfl), Paired.mapP h5 fun _ _ ⟨a, z, ha⟩ => ⟨a, z, e _ _ ha (noTbl_ne rfl)⟩, e _ _ h6 (noTbl_ne rfl), Paired.mapP h7 fun _ _ ⟨a, z, ha⟩ => ⟨a, z, e _ _ ha (noTbl_ne rfl)⟩⟩
theorem BenAt.kn {CR CB CM m g' c' b r0 r1 : Addr} {cs : List Int} {Tb : TbN} {N : Nat} {H H' : Hp} {ws : List Int} {ps us : List (Nat × Nat)} (h : BenAt CR CB CM H b r0 r1 ws ps us) (d : DS m c' g' cs Tb N H) (k : Kn m g' H H') : BenAt CR CB CM H' b r0 r1 ws ps us := by
  obtain ⟨dx, mo, h, td, tu, zs, ys, h1, ⟨dm, h2⟩, h3, h4, h5, h6, h7⟩ := h
  exact ⟨dx, mo, h, td, tu, zs, ys, k.at d h1 rfl, ⟨dm, k.at d h2 rfl⟩, rowAt_kn d k h3, k.at d h4 rfl, Paired.mapP h5 fun _ _ ⟨a, z, ha⟩ => ⟨a, z, k.at d ha rfl⟩, k.at d h6 rfl, Paired.mapP h7 fun _ _ ⟨a, z, ha⟩ => ⟨a, z, k.at d ha rfl⟩⟩
theorem ds_kb {CB m c' g' b dx : Addr} {cs : List Int} {Tb : TbN} {N : Nat} {H H' : Hp} {fs : List (Str × V)} (d : DS m c' g' cs Tb N H) (k : KB b H H') (hb : H b = some (.ins CB dx fs)) (t : TabsZ Tb H') : DS m c' g' cs Tb N H' := by
  obtain ⟨n0, gs0, e1, hm4, hg4, hc4, _, e2⟩ := d
  exact ⟨n0, gs0, e1, k _ _ (fun z => by rw [z, hb] at hm4; unfold dm at hm4; cases hm4) rfl hm4, k _ _ (fun z => by rw [z, hb] at hg4; cases hg4) rfl hg4, k _ _ (fun z => by rw [z, hb] at hc4; cases hc4) rfl hc4, t, e2⟩
theorem TabsN.smx {base : Heap} {mg : Str → Option Value} {T : TbL} {CB b dx : Addr} {H H' : Hp} {fs : List (Str × V)} (t : TabsN base mg T H) (s : SmX b H H') (hb : H b = some (.ins CB dx fs)) : TabsN base mg T H' := by
  obtain ⟨N, h1, h2⟩ := t
  refine ⟨N, h1, h2.ext fun a o ha => ⟨fun ps e => ?_, fun c q P e => ?_⟩⟩
  · subst e
    exact s _ _ (fun z => by rw [z, hb] at ha; cases ha) ha
  · subst e
    exact s _ _ (fun z => by rw [z, hb] at ha; unfold CodeP at ha; cases ha) ha
theorem TabsN.aft {base : Heap} {mg : Str → Option Value} {T : TbL} {CR b : Addr} {H H2 H3 : Hp} (t : TabsN base mg T H2) (s : Aft CR b H H2 H3) : TabsN base mg T H3 := by
  obtain ⟨N, h1, h2⟩ := t
  refine ⟨N, h1, h2.ext fun a o ha => ⟨fun ps e => ?_, fun c q P e => ?_⟩⟩
  · subst e
    exact s.ni _ _ ha fun _ _ _ z => by cases z
  · subst e
    exact s.ni _ _ ha fun _ _ _ z => by unfold CodeP at z; cases z
theorem KB.ni {b CB dx : Addr} {H H' : Hp} {fs : List (Str × V)} (k : KB b H H') (hb : H b = some (.ins CB dx fs)) : NiK H H' := fun a u nu nt h => k _ _ (fun z => by rw [z, hb] at h; cases h; exact nu _ _ _ rfl) nt h
/-- tried(x, lambda p: e), by the bench -/
theorem tried_by {base : Heap} {mg : Str → Option Value} {cc tp : Addr} {T : TbL} (Ta : TbL) {q : Str} {t0 : TE} {t : Addr → Addr → XK → TE} {σ : St} {CR CB CM CK CT : Addr} {H : Hp} {b r0 r1 : Addr} {ws : List Int} {ps us : List (Nat × Nat)} {Q : VK} {E : XK} (hσ : ∀ (Z : VK), Z (.ref b) H → t0 σ H Z) (hT : TabsN base mg T H) (own : OwnC base H cc tp) (br : CB ≠ CR) (tr : CT ≠ CR) (bm : CB ≠ CM) (hB : BenAt CR CB CM H b r0 r1 ws ps us)
    (k : ∀ (c' P' : Addr) (H1 : Hp) (Qx : VK) (Ex : XK), LamX.ExtN H H1 → TabsN base mg ((P', qIn q) :: T) H1 → H1 c' = some (CodeP c' q P') → BenAt CR CB CM H1 b r0 r1 ws ps us →
      (∀ v H2, KB b H1 H2 → Bsh CB H2 b r0 r1 → TabsN base mg Ta H2 → (∀ H3, Aft CR b H H2 H3 → BenAt CR CB CM H3 b r0 r1 ws ps us → TabsN base mg Ta H3 → Q v H3) → Qx v H2) →
      (∀ cls d H2, KB b H1 H2 → Bsh CB H2 b r0 r1 → TabsN base mg Ta H2 → (∃ vc, RelV vc cls) → (∀ H3, Aft CR b H H2 H3 → BenAt CR CB CM H3 b r0 r1 ws ps us → TabsN base mg Ta H3 → E cls d H3) → Ex cls d H2) →
      t c' P' Ex (σ ++ [some (.ref b)]) H1 Qx) : tLamT base mg cc tp T q E (TTr CB CK CT) t0 t σ H Q := by
  refine hσ _ ⟨hT, own, fun c' P' H1 eN T1 hc => tried_ben br tr bm (hB.extN eN) fun H1' Qx Ex s1 kv ke => ?_⟩
  refine k c' P' H1' Qx Ex (eN.trans (.of s1)) (T1.ext s1) (s1 _ _ hc) ((hB.extN eN).same s1) (fun v H2 kb sh tb z => kv v H2 kb sh fun H3 af hB3 => z H3 ⟨(KB.ofN eN).trans af.kb, af.ni, af.row⟩ hB3 (tb.aft af)) (fun cls d H2 kb sh tb vc z => ke cls d H2 kb sh vc fun H3 af hB3 => z H3 ⟨(KB.ofN eN).trans af.kb, af.ni, af.row⟩ hB3 (tb.aft af))
theorem fnLo {P : Program} {w : World} {K : PySem.W.Frag} {mg : Str → Option Value} {base : Heap} {CX : CXT} {k : Nat} {f : Addr} {ps : List Str} {sp : Sp} {x qual : Str} {st : Stmt} {N : List Str} {oc kV doc pm cdv ct : Value} {an od : Option Addr} {osl : Array (Option Value)}
    (lk : K.lookup f = some ⟨oc, od, .func (PySem.W.fnOf x qual (defArgs st) (defBody st) (defScope st) .none kV doc pm an cdv ct), osl⟩) (hcd : PySem.W.codeIn K cdv qual = true) (S : FnScope N ps (defScope st)) (len : ∀ vs H Q E, sp vs H Q E → vs.length = ps.length)
    (hbody : ∀ (A : Around) (outer : List Env) (s : Shared) (H : Hp) (vs : List V) (Q : VK) (E : XK), Room k (A.deeper (envOfC qual (defScope st) s.heap.objs.size f cdv)) → sp vs H Q E →
      ∃ t, PSs (cxOf CX P w K mg base N qual (defScope st) f cdv A outer s H E) (defBody st) t ∧ t { nx := fun _ H' => Q .non H', rt := Q } (L2.start N vs) H) : FnOk P w K mg base CX (k + 1) f (PySem.W.fnOf x qual (defArgs st) (defBody st) (defScope st) .none kV doc pm an cdv ct) ps sp :=
  ⟨len, fun A outer s H args us vs Q E hr e0 hb hv h => LamX.run_ofS lk hcd S hr e0 hb hv (len _ _ _ _ h) fun hr' => hbody A outer s H vs Q E hr' h⟩
section
variable {P' : Program} {w : World} {K : PySem.W.Frag} {mg : Str → Option Value} {base : Heap} {C : Kd → Addr} {CR CB CM CK CT : Addr}
theorem rowAt_bx {b r dx : Addr} {H H' : Hp} {xs : List V} {fs : List (Str × V)} (h : RowAt CR H r xs) (sx : SmX b H H') (hb : H b = some (.ins CB dx fs)) (ne : CB ≠ CR) : RowAt CR H' r xs := by
  obtain ⟨d, tp, h1, h2⟩ := h
  exact ⟨d, tp, sx _ _ (fun z => by rw [z, hb] at h1; cases h1; exact ne rfl) h1, sx _ _ (fun z => by rw [z, hb] at h2; cases h2) h2⟩
theorem smx_tr {b : Addr} {H H1 H2 : Hp} (a : SmX b H H1) (c : SmX b H1 H2) : SmX b H H2 := fun x u n h => c _ _ n (a _ _ n h)
theorem prl_bx {b dx : Addr} {H H' : Hp} {xs : List V} {qs : List (Nat × Nat)} {fs : List (Str × V)} (h : PrL H xs qs) (sx : SmX b H H') (hb : H b = some (.ins CB dx fs)) : PrL H' xs qs := Paired.mapP h fun _ _ ⟨a, e, ha⟩ => ⟨a, e, sx _ _ (fun z => by rw [z, hb] at ha; cases ha) ha⟩
theorem at_nn {xs : List V} {i : Nat} : atI xs (i : Nat) = xs[i]? := by
  unfold atI ixN
  by_cases h : i < xs.length
  · rw [if_pos (by omega), if_pos (by omega)]
    rfl
  · rw [if_pos (by omega), if_neg (by omega), List.getElem?_eq_none (by omega)]
    rfl
def spSlip (C : Kd → Addr) (CR CB CM : Addr) : Sp := fun vs H Q E => ∃ (b r0 r1 l : Addr) (wy : Int) (w0 g0 ws : List Int) (ps us qs : List (Nat × Nat)) (n : Nat) (xs : List V), vs = [.ref b, .ref b, .ref l, .int wy] ∧ BenAt CR CB CM H b r0 r1 ws ps us ∧ RowAt CR H r0 (w0.map V.int) ∧ RowAt CR H r1 (g0.map V.int) ∧ IsRow ws n ∧ n ≤ 24 ∧
  ps.length + qs.length ≤ 900 ∧ us.length ≤ 900 ∧ GdP n ps ∧ H l = some (.lst xs) ∧ PrL H xs qs ∧ GdP n qs ∧
  ((wy = 0 ∧ ∀ r t H', SmX b H H' → Bsh CB H' b r0 r1 → H' r = some (.lst [.bl true, .ref t, .int ((ps ++ qs).length : Nat)]) → H' t = some (.tup ((foldT ws qs).map V.int)) → Q (.ref r) H') ∨
   (wy = 1 ∧ (ps ++ qs = [] → ∀ H', SmX b H H' → Bsh CB H' b r0 r1 → E (.ref (C .nothing)) none H') ∧ (ps ++ qs ≠ [] → ∀ d H', SmX b H H' → Bsh CB H' b r0 r1 → H' d = some (.xd [("place", .int 0)]) → E (.ref (C .turn)) (some d) H')))
theorem scSlip : FnScope ["same", "bench", "turnings", "way", "n"] ["same", "bench", "turnings", "way"] (defScope sSlip) := ⟨rfl, rfl, rfl, by decide +kernel, rfl, by decide +kernel, by decide +kernel⟩
theorem ok_slip {f fDo fUn fS fR fN : Addr} {fd fdDo fdUn fdS fdR fdN : FuncData} {pr : Addr} (F : Fun K "_law_slipped" "_law_slipped" sSlip f fd) (B : Blt mg) (R : RowC K mg CR) (N : BenC K mg CR CB CM) (FDo : FnOk P' w K mg base (L2.CX P' w) 6 fDo fdDo ["self", "turning"] (spDo K C CR CB CM)) (MDo : Meth K CB "do" fDo) (bDo : Binds K fdDo ["self", "turning"] [])
    (FUn : FnOk P' w K mg base (L2.CX P' w) 6 fUn fdUn ["self"] (spUndo C CR CB CM)) (MUn : Meth K CB "undo" fUn) (bUn : Binds K fdUn ["self"] []) (cShown : Dn P' w K mg base 3 "_law_shown" fS fdS ["bench"] (spShown CR CB CM))
    (PRow : PropOf K CB "row" pr fR) (FRow : FnOk P' w K mg base CX0 1 fR fdR ["self"] (spBRow CR CB CM)) (bRow : Binds K fdR ["self"] []) (FBLen : FnOk P' w K mg base CX0 1 fN fdN ["self"] (spBLen CR CB CM)) (BL : OpM K CB "__len__" fN fdN ["self"]) : FnOk P' w K mg base (L2.CX P' w) 7 f fd ["same", "bench", "turnings", "way"] (spSlip C CR CB CM) := by
  refine F.okX scSlip (fun vs H Q E h => ?_) (fun cdv A outer s H vs Q E hr h => ⟨_, (pss_cons (ps_for (passes_of rfl) rfl (pi_range1 (by rfl) B.range (pa_cons (pe_callB lenF (by rfl) B.len (by decide +kernel) (pa_cons (pv 2) pa_nil)) pa_nil)) (pg_name (i := 4) scSlip.nd rfl (by first | exact Or.inl rfl | exact Or.inr rfl)) (pss_one (ps_if (pt_cmpR op_eq (pe_op op_mod (pe_callTy intF (by rfl) B.int (by decide +kernel) (pa_cons (pv 4) pa_nil)) pe_int) pe_int (nomark _)) (pss_one (ps_expr (pe_meth (E := E) (pv 0) N.cl MDo FDo (hr.mono (by decide)) bDo .nil (passes_call (takes_of rfl rfl rfl rfl) (fun _ _ _ _ h => h)) (pa_cons (pe_ix ixF (pv 2) (pv 4) (fun _ _ => rfl)) pa_nil)))) (pss_one (ps_expr (pe_meth (E := E) (pv 1) N.cl MDo FDo (hr.mono (by decide)) bDo .nil (passes_call (takes_of rfl rfl rfl rfl) (fun _ _ _ _ h => h)) (pa_cons (pe_ix ixF (pv 2) (pv 4) (fun _ _ => rfl)) pa_nil)))))))
      (pss_cons (ps_if (pt_cmpR op_eq (pv 3) pe_int (nomark _)) (pss_cons (ps_expr (pe_meth0 (E := E) (pv 0) N.cl MUn FUn (hr.mono (by decide)) bUn .nil (passes_call (takes_of rfl rfl rfl rfl) (fun _ _ _ _ h => h))))
      (pss_one (ps_expr (pe_meth (E := E) (pv 0) N.cl MDo FDo (hr.mono (by decide)) bDo .nil (passes_call (takes_of rfl rfl rfl rfl) (fun _ _ _ _ h => h)) (pa_cons (pe_tupF (pa_cons pe_int (pa_cons pe_int pa_nil))) pa_nil))))) pss_nil)
      (pss_one (ps_ret (pe_lstF (pa_cons (pe_cmpR (op_eqD hr.units) (pe_call cShown.ok (hr.mono (by decide)) rfl cShown.mgf cShown.kp cShown.bi .nil pass0 (pa_cons (pv 0) pa_nil)) (pe_call cShown.ok (hr.mono (by decide)) rfl cShown.mgf cShown.kp cShown.bi .nil pass0 (pa_cons (pv 1) pa_nil)) (nomark _)) (pa_cons (pe_fldF (pe_prop (pv 0) N.cl PRow FRow (hr.mono (by decide)) bRow .nil pass0 (by rfl))) (pa_cons (pe_callB (call_lenO FBLen BL.at_ BL.fn (hr.mono (by decide)) BL.bi pass0) (by rfl) B.len (by decide +kernel) (pa_cons (pv 0) pa_nil)) pa_nil)))))))), ?_⟩)
  · obtain ⟨b, r0, r1, l, wy, w0, g0, ws, ps, us, qs, n, xs, rfl, _⟩ := h
    rfl
  · obtain ⟨b, r0, r1, l, wy, w0, g0, ws, ps, us, qs, n, xs, rfl, hB, h0, h1, hw, hn, lp, lu, hps, hl, hP, hG, hk⟩ := h
    obtain ⟨dx, mo, _, _, _, _, _, hb, _⟩ := id hB
    have lx := hP.len
    have lb : l ≠ b := fun z => by rw [z, hb] at hl; cases hl
    refine seq_q (fun σ' H' => ∃ (u4 : Option V) (us' : List (Nat × Nat)), σ' = [some (.ref b), some (.ref b), some (.ref l), some (.int wy), u4] ∧ SmX b H H' ∧ BenAt CR CB CM H' b r0 r1 (foldT ws qs) (ps ++ qs) us' ∧ us'.length ≤ 900) (fun D2 eD2 hZ2 => ?_) ?_
    · refine ⟨_, rfl, l, rfl, _, hl, xs, rfl, _, rfl, by omega, by omega, ?_⟩
      rw [Int.toNat_natCast]
      have hBz : BenAt CR CB CM H b r0 r1 (foldT ws (qs.take 0)) (ps ++ qs.take 0) us := by
        rw [List.take_zero, List.append_nil]
        exact hB
      refine for_it (walk_range (lo := 0) (n := xs.length)) (fun i σ H' => ∃ (u4 : Option V) (us' : List (Nat × Nat)), σ = [some (.ref b), some (.ref b), some (.ref l), some (.int wy), u4] ∧ SmX b H H' ∧ BenAt CR CB CM H' b r0 r1 (foldT ws (qs.take i)) (ps ++ qs.take i) us' ∧ us'.length ≤ 900)
        ⟨none, us, rfl, fun _ _ _ h => h, hBz, lu⟩ (fun _ _ _ _ _ => True.intro) ?_ ?_
      · rintro i x σ B1 B2 hi ⟨u4, us', rfl, sB, hBB, lu'⟩ ⟨rfl, rfl⟩
        have hiq : i < qs.length := by omega
        have hq := hG _ (List.getElem_mem hiq)
        have hlB := sB _ _ lb hl
        have hPB := prl_bx hP sB hb
        obtain ⟨y, hy⟩ : ∃ y, xs[i]? = some y := ⟨_, List.getElem?_eq_getElem hi⟩
        obtain ⟨p, a, hp, rfl, ha⟩ := hPB.get hy
        have ep : p = qs[i] := by
          rw [List.getElem?_eq_getElem hiq] at hp
          exact (Option.some.inj hp).symm
        subst ep
        have et : qs.take (i + 1) = qs.take i ++ [qs[i]] := (List.take_append_getElem hiq).symm
        obtain ⟨dxB, moB, _, _, _, _, _, hbB, _⟩ := id hBB
        have hwB : IsRow (foldT ws (qs.take i)) n := foldT_row hw fun p hp => hG p (List.mem_of_mem_take hp)
        have lt : (qs.take i).length ≤ qs.length := by rw [List.length_take]; omega
        have go : ∀ {Z : St → Hp → Prop}, (∀ H', SmX b B2 H' → BenAt CR CB CM H' b r0 r1 (foldT ws (qs.take (i + 1))) (ps ++ qs.take (i + 1)) [] → Z [some (.ref b), some (.ref b), some (.ref l), some (.int wy), some (.int (0 + (i : Nat)))] H') → spDo K C CR CB CM [.ref b, .ref a] B2 (fun _ H1 => Z [some (.ref b), some (.ref b), some (.ref l), some (.int wy), some (.int (0 + (i : Nat)))] H1) E := fun {Z} z => by
          refine ⟨b, r0, r1, .ref a, _, _, us', n, some (.int (qs[i].1 : Nat), .int (qs[i].2 : Nat)), rfl, hBB, hwB, hn, by rw [List.length_append]; omega, ⟨a, rfl, ha, .int _, .int _⟩, fun i' j' e h1 h2 q H' s' hB' _ => ?_, fun e => ?_⟩
          · have e := Prod.mk.inj (Option.some.inj e)
            have e1 := V.int.inj e.1
            have e2 := V.int.inj e.2
            obtain rfl : i' = qs[i].1 := by omega
            obtain rfl : j' = qs[i].2 := by omega
            refine z H' s' ?_
            rw [et, foldT_snoc, ← List.append_assoc]
            exact hB'
          · exfalso
            have := stOk_pr hq.1 hq.2
            unfold prO at this
            rw [this] at e
            cases e
        walk_at "s"
        refine ⟨rfl, dxB, _, hbB, (by intro a b hm; simp at hm; rcases hm with ⟨rfl, _⟩ | ⟨rfl, _⟩ | ⟨rfl, _⟩ <;> decide), _, hlB, xs, rfl, .ref a, by rw [at_nn]; exact hy, ?_⟩
        exact go (Z := fun _ H1 => SmX b H H1 ∧ ∃ x, BenAt CR CB CM H1 b r0 r1 (foldT ws (qs.take (i + 1))) (ps ++ qs.take (i + 1)) x ∧ x.length ≤ 900) fun H' s' hB' => ⟨smx_tr sB s', [], hB', by simp⟩
      · rintro σ B1 ⟨u4, us', rfl, sB, hBB, lu'⟩
        rw [lx, List.take_length] at hBB
        exact hZ2 _ _ ⟨u4, us', rfl, sB, hBB, lu'⟩
    rintro σ1 H1 ⟨u4, us', rfl, s1, hB1, lu1⟩
    obtain ⟨dx1, mo1, _, _, _, _, _, hb1, _⟩ := id hB1
    have h01 := rowAt_bx h0 s1 hb N.br
    have h11 := rowAt_bx h1 s1 hb N.br
    have hw1 : IsRow (foldT ws qs) n := foldT_row hw hG
    have hG1 : GdP n (ps ++ qs) := fun p hp => (List.mem_append.mp hp).elim (hps p) (hG p)
    refine seq_q (fun σ' H' => wy = 0 ∧ σ' = [some (.ref b), some (.ref b), some (.ref l), some (.int wy), u4] ∧ H' = H1) (fun D2 eD2 hZ2 => ?_) ?_
    · walk_at "s"
      refine ⟨rfl, ?_⟩
      rcases hk with ⟨e, _⟩ | ⟨e, k1, k2⟩
      · subst e
        exact hZ2 _ _ ⟨rfl, rfl, rfl⟩
      · subst e
        rw [if_pos rfl]
        refine ⟨dx1, _, hb1, (by intro a b hm; simp at hm; rcases hm with ⟨rfl, _⟩ | ⟨rfl, _⟩ | ⟨rfl, _⟩ <;> decide), b, r0, r1, _, _, us', n, rfl, hB1, hw1, hn, by rw [List.length_append]; omega, by omega, hG1, fun e H' s' => k1 e H' (smx_tr s1 (SmX.of s')) (hB1.same s').bsh, fun ps2 i j e t H' s' hB' ht => ?_⟩
        obtain ⟨dx2, mo2, _, _, _, _, _, hb2, _⟩ := id hB'
        have s2 := smx_tr s1 s'
        refine ⟨dx2, _, hb2, (by intro a b hm; simp at hm; rcases hm with ⟨rfl, _⟩ | ⟨rfl, _⟩ | ⟨rfl, _⟩ <;> decide), sz_le (by decide), view_tup (VW.start (H := H')) fun p A3 v3 => ?_⟩
        have hij := hG1 (i, j) (by rw [e]; simp)
        refine ⟨b, r0, r1, .ref p, _, ps2, _, n, some (.int 0, .int 99), rfl, hB'.same v3.fr, hw1.turn hij.1, hn, ?_, ⟨p, rfl, v3.tu (p, _) (.head _), .int _, .int _⟩, fun i' j' e' h1 h2 => ?_, fun _ d H5 s5 hd => k2 (by rw [e]; simp) d H5 (smx_tr s2 (SmX.of (Same.tr2 v3.fr s5))) (hB'.same (Same.tr2 v3.fr s5)).bsh hd⟩
        · have := congrArg List.length e
          rw [List.length_append, List.length_append] at this
          omega
        · have e' := Prod.mk.inj (Option.some.inj e')
          have e2 := V.int.inj e'.2
          omega
    rintro σ2 H2 ⟨rfl, rfl, rfl⟩
    have k0 : ∀ r t H', SmX b H H' → Bsh CB H' b r0 r1 → H' r = some (.lst [.bl true, .ref t, .int ((ps ++ qs).length : Nat)]) → H' t = some (.tup ((foldT ws qs).map V.int)) → Q (.ref r) H' := by
      rcases hk with ⟨_, k⟩ | ⟨e, _⟩
      · exact k
      · cases e
    walk_at "s"
    have lpq : (ps ++ qs).length ≤ 1000 := by rw [List.length_append]; omega
    refine ⟨b, r0, r1, w0, g0, _, _, us', rfl, hB1, h01, h11, lpq, fun a1 A1 t1 n1 sh1 => ?_⟩
    refine ⟨b, r0, r1, w0, g0, _, _, us', rfl, hB1.same t1, h01.same t1, h11.same t1, lpq, fun a2 A2 t2 n2 sh2 => ?_⟩
    have t12 := Same.tr2 t1 t2
    have sh1' := sh1.keep (H' := A2) fun a u _ _ h => t2 _ _ h
    refine ⟨_, _, sh1'.dp, sh2.dp, shp_sh _ _ _ _, shp_sh _ _ _ _, ?_⟩
    rw [sh_self]
    obtain hB2 := hB1.same t12
    refine ⟨⟨_, _, t12 _ _ hb1⟩, b, r0, r1, _, _, us', rfl, hB2, fun h' h3' => ?_⟩
    obtain ⟨d2, tp, c1, c2⟩ := id h3'
    refine ⟨h', rfl, CR, d2, _, c1, R.cl, R.nW, _, rfl, b, dx1, _, rfl, t12 _ _ hb1, b, r0, r1, _, _, us', rfl, hB2, ?_⟩
    refine ⟨_, rfl, by omega, by omega, sz_le (by decide), view_new (VW.start (H := A2)) fun a3 A3 v3 => ?_⟩
    have s3 := smx_tr s1 (SmX.of (Same.tr2 t12 v3.fr))
    exact k0 a3 tp A3 s3 (hB2.same v3.fr).bsh (v3.at_ (a3, _) (.head _)) (v3.fr _ _ c2)
theorem do00 {b r0 r1 p : Addr} {H : Hp} {ws : List Int} {ps us : List (Nat × Nat)} {n : Nat} {Q : VK} {E : XK} (hB : BenAt CR CB CM H b r0 r1 ws ps us) (hw : IsRow ws n) (n1 : 1 ≤ n) (n24 : n ≤ 24) (lp : ps.length ≤ 1000) (hp : H p = some (.tup [.int 0, .int 0]))
    (k : ∀ q H', SmX b H H' → BenAt CR CB CM H' b r0 r1 (turnL ws 0 0) (ps ++ [(0, 0)]) [] → RowAt CR H' q ((turnL ws 0 0).map V.int) → Q (.ref q) H') : spDo K C CR CB CM [.ref b, .ref p] H Q E := by
  refine ⟨b, r0, r1, .ref p, ws, ps, us, n, some (.int 0, .int 0), rfl, hB, hw, n24, lp, ⟨p, rfl, hp, .int _, .int _⟩, fun i j e _ _ q H' s' hB' hq => ?_, fun e => ?_⟩
  · have e := Prod.mk.inj (Option.some.inj e)
    have e1 := V.int.inj e.1
    have e2 := V.int.inj e.2
    obtain rfl : i = 0 := by omega
    obtain rfl : j = 0 := by omega
    exact k q H' s' hB' hq
  · exfalso
    simp [stOk, wholeV] at e
    omega
/-- Row([None]) -/
theorem mk_bad0 {H : Hp} {a : Addr} {Q : VK} {E : XK} (ha : H a = some (.lst [.non])) (k : ∀ d H', Same H H' → H' d = some (.xd [("place", .int 0)]) → E (.ref (C .row)) (some d) H') :
    ∀ x dx, H x = none → H dx = none → dx ≠ x → spRI K C CR [.ref x, .ref a] (upd (upd H dx (.own x)) x (.ins CR dx [])) (fun v H2 => v = .non ∧ Q (.ref x) H2) E := by
  intro x dx nx ndx nex
  have e1 : Same H (upd (upd H dx (.own x)) x (.ins CR dx [])) := fun c u hc => by
    rw [upd_ne (ne_of_none hc nx), upd_ne (ne_of_none hc ndx)]
    exact hc
  have ng : ∀ k, ¬ GoodTo [V.non] (k + 1) := fun k ⟨zs, h1, h2, _⟩ => by
    cases zs with
    | nil => simp at h2
    | cons z zs => simp at h1
  refine ⟨x, dx, .ref a, rfl, upd_same, .inl ⟨a, _, [.non], rfl, e1 _ _ ha, rfl, ne_of_none ha nx, by simp, fun H' s' y hy => ?_, fun _ hg => absurd hg (ng 0), fun h => by simp at h, fun _ k' d H' s' hk' g' _ hd => ?_⟩⟩
  · rw [List.mem_singleton.mp hy]
    exact .other (.base .non) (kit_ty (by decide +kernel)) (fun i z => by cases z)
  · have : k' = 0 := by simpa using hk'
    subst this
    exact k d H' (Same.tr2 e1 s') hd
/-- Row([1] * 25) -/
theorem mk_bad25 {H : Hp} {a : Addr} {xs : List V} {Q : VK} {E : XK} (ha : H a = some (.lst xs)) (hl : xs.length = 25) (hx : ∀ y ∈ xs, y = .int 1) (k : ∀ d H', Same H H' → H' d = some (.xd [("most", .int 24)]) → E (.ref (C .great)) (some d) H') :
    ∀ x dx, H x = none → H dx = none → dx ≠ x → spRI K C CR [.ref x, .ref a] (upd (upd H dx (.own x)) x (.ins CR dx [])) (fun v H2 => v = .non ∧ Q (.ref x) H2) E := by
  intro x dx nx ndx nex
  have e1 : Same H (upd (upd H dx (.own x)) x (.ins CR dx [])) := fun c u hc => by
    rw [upd_ne (ne_of_none hc nx), upd_ne (ne_of_none hc ndx)]
    exact hc
  refine ⟨x, dx, .ref a, rfl, upd_same, .inl ⟨a, _, xs, rfl, e1 _ _ ha, rfl, ne_of_none ha nx, by omega, fun H' s' y hy => ?_, fun h => by omega, fun _ d H' s' hd => k d H' (Same.tr2 e1 s') hd, fun h => by omega⟩⟩
  rw [hx y hy]
  exact .int _
theorem shp_ti (ws : List Int) : SeqAt.shaped (.tuple (ws.map PyData.int)) = true := by
  obtain ⟨a1, a2⟩ := ints_layA ws
  show (PyData.canLay0 _ && decide (PyData.depth _ ≤ 64)) = true
  rw [show PyData.canLay0 (.tuple (ws.map PyData.int)) = true from by rw [PyData.canLay0]; exact a1, Bool.true_and]
  exact decide_eq_true (by rw [PyData.depth]; omega)
/-- what tried is made of -/
structure TrP (P : Program) (w : World) (K : PySem.W.Frag) (mg : Str → Option Value) (base : Heap) (CB CK CT fB fE fX : Addr) (fdB fdE fdX : FuncData) : Prop where
  mB : Meth K CB "trial" fB
  FB : FnOk P w K mg base CX0 3 fB fdB ["self"] (spBTr CT)
  bB : Binds K fdB ["self"] []
  mE : Meth K CT "__enter__" fE
  mX : Meth K CT "__exit__" fX
  FE : FnOk P w K mg base CX0 3 fE fdE ["self"] (spTE CB CK CT)
  bE : Binds K fdE ["self"] []
  FX : FnOk P w K mg base CX0 1 fX fdX ["self", "kind", "value", "trace"] (spTX CB CK CT) ∧ FnQ P w K mg base 1 fX fdX ["self", "kind", "value", "trace"] (spTX CB CK CT)
  bX : Binds K fdX ["self", "kind", "value", "trace"] []
def spRefu (C : Kd → Addr) (CR CB CM : Addr) (Tb : TbN) : Sp := fun vs H Q E => ∃ (b r0 r1 : Addr) (wy : Int) (w0 g0 ws : List Int) (ps us : List (Nat × Nat)) (n : Nat), vs = [.ref b, .int wy] ∧ BenAt CR CB CM H b r0 r1 ws ps us ∧ RowAt CR H r0 (w0.map V.int) ∧ RowAt CR H r1 (g0.map V.int) ∧ IsRow ws n ∧ 1 ≤ n ∧ n ≤ 24 ∧ ps.length ≤ 900 ∧ TabsZ Tb H ∧
  ((wy = 0 ∧ ∀ d H', KB b H H' → Bsh CB H' b r0 r1 → TabsZ Tb H' → H' d = some (.xd [("place", .int 0)]) → E (.ref (C .row)) (some d) H') ∨
   (wy = 1 ∧ ∀ d H', KB b H H' → Bsh CB H' b r0 r1 → TabsZ Tb H' → H' d = some (.xd [("most", .int 24)]) → E (.ref (C .great)) (some d) H') ∨
   (wy = 2 ∧ ∀ r x H', KB b H H' → Bsh CB H' b r0 r1 → TabsZ Tb H' → H' r = some (.lst [.bl x, .bl true]) → Q (.ref r) H'))
theorem scRefu : FnScope ["one", "way", "ahead"] ["one", "way"] (defScope sRefu) := ⟨rfl, rfl, rfl, by decide +kernel, rfl, by decide +kernel, by decide +kernel⟩
theorem ok_refu {T : TbL} {c Pt f fDo fS fI fT fB fE fX gT : Addr} {fdDo fdS fdI fdB fdE fdX : FuncData} {oc kV doc pm ct oc2 kV2 doc2 pm2 ct2 cdT : Value} {an od an2 od2 : Option Addr} {osl osl2 : Array (Option Value)} (B : Blt mg) (R : RowC K mg CR) (N : BenC K mg CR CB CM) (TC : TriC K mg CB CM CK CT) (tr : CT ≠ CR)
    (FDo : FnOk P' w K mg base (L2.CX P' w) 6 fDo fdDo ["self", "turning"] (spDo K C CR CB CM)) (MDo : Meth K CB "do" fDo) (bDo : Binds K fdDo ["self", "turning"] []) (cShown : Dn P' w K mg base 3 "_law_shown" fS fdS ["bench"] (spShown CR CB CM))
    (RM : Mk K CR fI) (RI : FnOk P' w K mg base (L2.CX P' w) 3 fI fdI ["self", "waggons"] (spRI K C CR)) (rb : Binds K fdI ["self", "waggons"] []) (TD : DL K mg "tried" sTried gT cdT ["bench", "function"] oc2 kV2 doc2 pm2 ct2 an2 od2 osl2) (TP : TrP P' w K mg base CB CK CT fB fE fX fdB fdE fdX)
    (hOw : PySem.W.CodeHd base c Pt) (hmT : (Pt, ("_law_refusing" : Str) ++ ".<locals>." ++ "<lambda>") ∈ T) (D : DL K mg "_law_refusing" sRefu f (.ref c) ["one", "way"] oc kV doc pm ct an od osl) :
    FnOk P' w K mg base (L2.CX P' w) 10 f (PySem.W.fnOf "_law_refusing" "_law_refusing" (defArgs sRefu) (defBody sRefu) (defScope sRefu) .none kV doc pm an (.ref c) ct) ["one", "way"] (spRefu C CR CB CM ⟨base, mg, T⟩) := by
  refine fnLo D.lk D.cd scRefu (fun vs H Q E h => ?_) (fun A outer s H vs Q E hr h => ⟨_, (pss_cons (ps_expr (pe_meth (E := E) (pv 0) N.cl MDo FDo (hr.mono (by decide)) bDo .nil (passes_call (takes_of rfl rfl rfl rfl) (fun _ _ _ _ h => h)) (pa_cons (pe_tupF (pa_cons pe_int (pa_cons pe_int pa_nil))) pa_nil)))
      (pss_cons (ps_if (pt_cmpR op_eq (pv 1) pe_int (nomark _)) (pss_one (ps_ret (pe_make (E := E) RM RI (hr.mono (by decide)) (by rfl) R.mgR rb .nil (passes_call (takes_of rfl rfl rfl rfl) (fun _ _ _ _ h => h)) (pa_cons (pe_lstF (pa_cons pe_non pa_nil)) pa_nil)))) pss_nil)
      (pss_cons (ps_if (pt_cmpR op_eq (pv 1) pe_int (nomark _)) (pss_one (ps_ret (pe_make (E := E) RM RI (hr.mono (by decide)) (by rfl) R.mgR rb .nil (passes_call (takes_of rfl rfl rfl rfl) (fun _ _ _ _ h => h)) (pa_cons (pe_op op_rep (pe_lstF (pa_cons pe_int pa_nil)) pe_int) pa_nil)))) pss_nil)
      (pss_cons (ps_set (i := 2) scRefu.nd rfl (by first | exact Or.inl rfl | exact Or.inr rfl) (pe_call cShown.ok (hr.mono (by decide)) rfl cShown.mgf cShown.kp cShown.bi .nil pass0 (pa_cons (pv 0) pa_nil)))
      (pss_one (ps_ret (pe_lstF (pa_cons (pe_cmpR (op_eqD hr.units) (pe_lamT (k := 7) (y := "two") (T := T) (E := E) (TT := TTr CB CK CT) (t := fun _ _ E' => tFldF K (tMeth CB "do" (spDo K C CR CB CM) [] E' (tVar 3) (tCons (tTupF (tCons (tC (V.int 0)) (tCons (tC (V.int 0)) tNil))) tNil)) "waggons") (by rfl) TD.mgf TD.kp TD.lk TD.cd TD.bi scTried rfl (by first | exact .inl rfl | exact .inr rfl | rfl) (tried_gives N TC TP.mB TP.FB TP.bB TP.mE TP.mX TP.FE TP.bE TP.FX TP.bX (hr.mono (by decide))) rfl hmT (hr.mono (by decide)) (laS_by (o := some "two") (around := defScope sRefu) (by decide +kernel)) (show ("two" : Str) ∉ (["one", "way", "ahead"] : List Str) by decide) rfl (passes_call (takes_of rfl rfl rfl rfl) (fun _ _ _ _ h => h)) (fun _ _ _ _ _ _ => rfl) (pv 0) (fun A' outer' s' H' E' f' c' P'' hr' => (pe_fldF (pe_meth (E := E') (pv 3) N.cl MDo FDo (hr'.mono (by decide)) bDo .nil (passes_call (takes_of rfl rfl rfl rfl) (fun _ _ _ _ h => h)) (pa_cons (pe_tupF (pa_cons pe_int (pa_cons pe_int pa_nil))) pa_nil))))) (pe_fldF (pe_fldF (pv 0))) (nomark _)) (pa_cons (pe_cmpR (op_eqD hr.units) (pe_call cShown.ok (hr.mono (by decide)) rfl cShown.mgf cShown.kp cShown.bi .nil pass0 (pa_cons (pv 0) pa_nil)) (pv 2) (nomark _)) pa_nil))))))))), ?_⟩)
  · obtain ⟨b, r0, r1, wy, w0, g0, ws, ps, us, n, rfl, _⟩ := h
    rfl
  · obtain ⟨b, r0, r1, wy, w0, g0, ws, ps, us, n, rfl, hB, h0, h1, hw, n1, n24, lp, hT, hk⟩ := h
    obtain ⟨dx, mo, _, _, _, _, _, hb, _⟩ := id hB
    refine seq_q (fun σ' H' => σ' = [some (.ref b), some (.int wy), none] ∧ SmX b H H' ∧ BenAt CR CB CM H' b r0 r1 (turnL ws 0 0) (ps ++ [(0, 0)]) []) (fun D2 eD2 hZ2 => ?_) ?_
    · walk_at "s"
      refine ⟨dx, _, hb, (by intro a b hm; simp at hm; rcases hm with ⟨rfl, _⟩ | ⟨rfl, _⟩ | ⟨rfl, _⟩ <;> decide), sz_le (by decide), view_tup (VW.start (H := H)) fun p A1 v1 => ?_⟩
      exact do00 (hB.same v1.fr) hw n1 n24 (by omega) (v1.tu (p, _) (.head _)) fun q H' s' hB' _ => hZ2 _ _ ⟨rfl, smx_tr (SmX.of v1.fr) s', hB'⟩
    rintro σ1 H1 ⟨rfl, s1, hB1⟩
    have hT1 : TabsN base mg T H1 := TabsN.smx hT s1 hb
    obtain ⟨dx1, mo1, _, _, _, _, _, hb1, _⟩ := id hB1
    have h01 := rowAt_bx h0 s1 hb N.br
    have h11 := rowAt_bx h1 s1 hb N.br
    have hw1 : IsRow (turnL ws 0 0) n := hw.turn (Nat.le_refl _)
    refine seq_q (fun σ' H' => (wy = 1 ∨ wy = 2) ∧ σ' = [some (.ref b), some (.int wy), none] ∧ H' = H1) (fun D2 eD2 hZ2 => ?_) ?_
    · walk_at "s"
      refine ⟨rfl, ?_⟩
      rcases hk with ⟨e, k⟩ | ⟨e, k⟩ | ⟨e, k⟩
      · subst e
        rw [if_pos rfl]
        refine ⟨sz_le (by decide), view_new (VW.start (H := H1)) fun a A2 v2 => mk_bad0 (v2.at_ (a, _) (.head _)) fun d H' s' hd => k d H' (KB.ofX (smx_tr s1 (SmX.of (Same.tr2 v2.fr s')))) (hB1.same (Same.tr2 v2.fr s')).bsh (TabsN.ext hT1 (Same.tr2 v2.fr s')) hd⟩
      · subst e
        exact hZ2 _ _ ⟨.inl rfl, rfl, rfl⟩
      · subst e
        exact hZ2 _ _ ⟨.inr rfl, rfl, rfl⟩
    rintro σ2 H2 ⟨hwy, rfl, rfl⟩
    refine seq_q (fun σ' H' => wy = 2 ∧ σ' = [some (.ref b), some (.int wy), none] ∧ H' = H2) (fun D2 eD2 hZ2 => ?_) ?_
    · walk_at "s"
      refine ⟨rfl, ?_⟩
      rcases hk with ⟨e, k⟩ | ⟨e, k⟩ | ⟨e, k⟩
      · omega
      · subst e
        rw [if_pos rfl]
        refine ⟨sz_le (by decide), view_new (VW.start (H := H2)) fun a A2 v2 => ⟨a, 25, _, rfl, rfl, v2.at_ (a, _) (.head _), by omega, by omega, sz_le (show 1 * 25 ≤ 16777216 by decide), fun a3 ha3 => ?_⟩⟩
        have w3 := v2.push (o := .lst (List.replicate (25 : Int).toNat [V.int 1]).flatten) ha3
        refine mk_bad25 upd_same (by decide +kernel) (fun y hy => ?_) fun d H' s' hd => k d H' (KB.ofX (smx_tr s1 (SmX.of (Same.tr2 w3.fr s')))) (hB1.same (Same.tr2 w3.fr s')).bsh (TabsN.ext hT1 (Same.tr2 w3.fr s')) hd
        obtain ⟨zs, h1, h2⟩ := List.mem_flatten.mp hy
        rw [(List.mem_replicate.mp h1).2] at h2
        exact List.mem_singleton.mp h2
      · subst e
        exact hZ2 _ _ ⟨rfl, rfl, rfl⟩
    rintro σ3 H3 ⟨rfl, rfl, rfl⟩
    have k2 : ∀ r x H', KB b H H' → Bsh CB H' b r0 r1 → TabsZ ⟨base, mg, T⟩ H' → H' r = some (.lst [.bl x, .bl true]) → Q (.ref r) H' := by
      rcases hk with ⟨e, _⟩ | ⟨e, _⟩ | ⟨_, k⟩
      · cases e
      · cases e
      · exact k
    refine seq_q (fun σ' H' => ∃ l, σ' = [some (.ref b), some (.int 2), some (.ref l)] ∧ Same H3 H' ∧ ShAt H' l w0 g0 (turnL ws 0 0) (ps ++ [(0, 0)])) (fun D2 eD2 hZ2 => ?_) ?_
    · walk_at "s"
      exact ⟨b, r0, r1, w0, g0, _, _, _, rfl, hB1, h01, h11, by rw [List.length_append]; simp; omega, fun l H' s' _ sh => hZ2 _ _ ⟨l, rfl, s', sh⟩⟩
    rintro σ4 H4 ⟨l, rfl, s4, sh4⟩
    have hB4 := hB1.same s4
    have hT4 : TabsN base mg T H4 := hT1.ext s4
    have g4 := s4 _ _ hb1
    refine tried_by T (CM := CM) (fun Z z => ⟨_, rfl, z⟩) hT4 (.inl hOw) N.br tr N.bm hB4 fun c' P'' A1 Qx Ex eN T1 hc hBA kv ke => ?_
    obtain ⟨dxA, moA, _, _, _, _, _, gA, _⟩ := id hBA
    walk_at "s"
    refine ⟨dxA, _, gA, (by intro a b hm; simp at hm; rcases hm with ⟨rfl, _⟩ | ⟨rfl, _⟩ | ⟨rfl, _⟩ <;> decide), sz_le (by decide), view_tup (VW.start (H := A1)) fun p A2 v2 => ?_⟩
    refine do00 (hBA.same v2.fr) hw1 n1 n24 (by rw [List.length_append]; simp; omega) (v2.tu (p, _) (.head _)) fun q A3 s3 hB3 hq => ?_
    obtain ⟨dq, tq, q1, q2⟩ := id hq
    have s13 : SmX b A1 A3 := smx_tr (SmX.of v2.fr) s3
    refine ⟨q, rfl, CR, dq, _, q1, R.cl, R.nW, _, rfl, kv _ _ (KB.ofX s13) hB3.bsh (TabsN.smx T1.tail s13 gA) fun A4 af hB4' hT5 => ?_⟩
    have htq := af.ni _ _ q2 fun _ _ _ z => by cases z
    obtain ⟨dx5, mo5, _, _, _, _, _, hb5, _⟩ := id hB4'
    have h05 := rowAt_kb (h01.same s4) af.kb g4 N.br
    have h15 := rowAt_kb (h11.same s4) af.kb g4 N.br
    obtain ⟨d0, t0, e0, e0'⟩ := id h05
    have sh5 := sh4.keep (af.kb.ni g4)
    walk_at "s"
    refine ⟨CB, dx5, _, hb5, N.cl, N.nF, _, rfl, r0, rfl, CR, d0, _, e0, R.cl, R.nW, _, rfl, _, _, .tup (SqT.of htq) (dp_ints _), .tup (SqT.of e0') (dp_ints _), shp_ti _, shp_ti _, ?_⟩
    refine ⟨b, r0, r1, w0, g0, _, _, _, rfl, hB4', h05, h15, by rw [List.length_append]; simp; omega, fun l6 A6 s6 n6 sh6 => ?_⟩
    refine ⟨_, _, sh6.dp, (sh5.keep fun a u _ _ h => s6 _ _ h).dp, shp_sh _ _ _ _, shp_sh _ _ _ _, ?_⟩
    rw [sh_self]
    refine ⟨sz_le (by decide), view_new (VW.start (H := A6)) fun a7 A7 v7 => ?_⟩
    have s67 := Same.tr2 s6 v7.fr
    exact k2 a7 _ A7 ((KB.ofX s1).trans (((KB.of s4).trans af.kb).trans (KB.of s67))) (hB4'.same s67).bsh (TabsN.ext hT5 s67) (v7.at_ (a7, _) (.head _))
end
end Fab
set_option maxHeartbeats 4000000
namespace Fab
open PySem L2 PySem.FabX
open PyProof.Rows (envOfC)
abbrev sOth : Stmt := top 78
abbrev sTri : Stmt := top 79
local macro_rules | `(tactic| walk_at "s") => `(tactic| simp [tPar, tProp, tFldF, sFldF, putF, tSeq, tAsg, tOp, tUn, tVar, tC, gName, tCons, tNil, tCB, tCall, rI, rI0, rU, tRet, tDrop, tIfS, tNext, tIf, tTest, tNot, tOr, tAnd, tB, L2.start, CMul, CDiv, rIxF, rLenF, rIntF, sq_lst, sq_tup, tLstF, tTupF, gSub, rCatF, rCatTF, rInF, rNe, rEq, tAndV, tOrV, tNotV, tChain, rTupF, rListF, tFldF, tRx, tMake, tMeth, tSl, tPart, tNoPart, rSlTF, rSlF, tRevTF, gTup, gCons, gNil, rIsB, rNotB, tLM, rAppF, tLstRgF, tRg2, tLstRg, iRng1, iRng2])
section
variable {P' : Program} {w : World} {K : PySem.W.Frag} {mg : Str → Option Value} {base : Heap} {C : Kd → Addr} {CF CR CB CM CK CT : Addr}
theorem Aft.same {b : Addr} {H H2 H3 H4 : Hp} (a : Aft CR b H H2 H3) (s : Same H3 H4) : Aft CR b H H2 H4 := ⟨a.kb.trans (KB.of s), fun x u h n => s _ _ (a.ni x u h n), fun q xs h => (a.row q xs h).same s⟩
theorem told_anyN {cc tp : Addr} {T : TbL} {q : Str} {vs : List V} {t : Addr → Addr → XK → TE} {σ : St} {H : Hp} {Q : VK} (hT : TabsN base mg T H) (own : OwnC base H cc tp)
    (h : ∀ (c' P' : Addr) (H2 : Hp) (Qx : VK), LamX.ExtN H H2 → TabsN base mg ((P', qIn q) :: T) H2 → H2 c' = some (CodeP c' q P') → (∀ v H', Qh Q v H' → Qx v H') → t c' P' (Et C Q) (σ ++ vs.map some) H2 Qx) : tLamN base mg cc tp T q (TTt C) vs t σ H Q :=
  ⟨hT, own, fun c' P' H1 eN T1 hc H2 s2 Qx hx => h c' P' H2 Qx (eN.trans (LamX.ExtN.of s2)) (T1.ext s2) (s2 _ _ hc) hx⟩
theorem newT_kb {b a CB dx : Addr} {H A : Hp} {fs : List (Str × V)} (k : KB b H A) (hb : A b = some (.ins CB dx fs)) (h : A a = none) : NewT H a := fun u hu => by
  cases e : noTbl u with
  | false => rfl
  | true =>
    have := k _ _ (fun z => by rw [z, hb] at h; cases h) e hu
    rw [h] at this
    cases this
theorem BenAt.put {H : Hp} {b r0 r1 t : Addr} {ws : List Int} {ps us : List (Nat × Nat)} {xs nw : List V} (h : BenAt CR CB CM H b r0 r1 ws ps us) (ht : H t = some (.lst xs)) : BenAt CR CB CM (upd H t (.lst nw)) b r0 r1 ws ps us := by
  obtain ⟨dx, mo, h, td, tu, zs, ys, h1, ⟨dm, h2⟩, ⟨d0, t0, h3, h3'⟩, h4, h5, h6, h7⟩ := h
  have up : ∀ {a : Addr} {u : HO}, H a = some u → (∀ xs, u ≠ .lst xs) → upd H t (.lst nw) a = some u := fun {a u} ha n => by
    rw [upd_ne (fun z => n xs (by rw [z, ht] at ha; exact (Option.some.inj ha).symm))]
    exact ha
  have nt : ∀ {xs : List V} (ys : List V), HO.tup xs ≠ .lst ys := fun _ z => by cases z
  exact ⟨dx, mo, h, td, tu, zs, ys, up h1 (fun _ z => by cases z), ⟨dm, up h2 (fun _ z => by cases z)⟩, ⟨d0, t0, up h3 (fun _ z => by cases z), up h3' nt⟩, up h4 nt, Paired.mapP h5 fun _ _ ⟨a, z, ha⟩ => ⟨a, z, up ha nt⟩, up h6 nt, Paired.mapP h7 fun _ _ ⟨a, z, ha⟩ => ⟨a, z, up ha nt⟩⟩
theorem KB.put {b t : Addr} {H A : Hp} {o : HO} (k : KB b H A) (n : NewT H t) : KB b H (upd A t o) := fun a u na nu h => by
  rw [upd_ne (fun z => by rw [z] at h; have := n u h; rw [nu] at this; cases this)]
  exact k _ _ na nu h
/-- _law_told(lambda: tried(x, lambda p: e)), by the bench -/
theorem told_tried {cc tp : Addr} {T : TbL} {q : Str} {t0 : TE} {t : Addr → Addr → Addr → Addr → XK → TE} {σ : St} {H : Hp} {b r0 r1 : Addr} {ws : List Int} {ps us : List (Nat × Nat)} {Q : VK} (hσ : ∀ (Z : VK) (H' : Hp), Z (.ref b) H' → t0 (σ ++ ([] : List V).map some) H' Z) (hT : TabsN base mg T H) (own : OwnC base H cc tp) (br : CB ≠ CR) (tr : CT ≠ CR) (bm : CB ≠ CM) (hB : BenAt CR CB CM H b r0 r1 ws ps us)
    (k : ∀ (c1 P1 c2 P2 : Addr) (H1 : Hp) (Qx : VK) (Ex : XK), LamX.ExtN H H1 → TabsN base mg ((P2, qIn (qIn q)) :: (P1, qIn q) :: T) H1 → H1 c2 = some (CodeP c2 (qIn q) P2) → BenAt CR CB CM H1 b r0 r1 ws ps us →
      (∀ v H2, KB b H1 H2 → Bsh CB H2 b r0 r1 → TabsN base mg T H2 → (∀ l H3, Aft CR b H H2 H3 → BenAt CR CB CM H3 b r0 r1 ws ps us → TabsN base mg T H3 → H3 l = some (.lst [v]) → Q (.ref l) H3) → Qx v H2) →
      (∀ cls d H2, KB b H1 H2 → Bsh CB H2 b r0 r1 → TabsN base mg T H2 → (∃ vc, RelV vc cls) → (∀ H3, Aft CR b H H2 H3 → BenAt CR CB CM H3 b r0 r1 ws ps us → TabsN base mg T H3 → Et C Q cls d H3) → Ex cls d H2) →
      t c1 P1 c2 P2 Ex ((σ ++ ([] : List V).map some) ++ [some (.ref b)]) H1 Qx) :
    tLamN base mg cc tp T q (TTt C) [] (fun c1 P1 E1 => tLamT base mg c1 P1 ((P1, qIn q) :: T) (qIn q) E1 (TTr CB CK CT) t0 (t c1 P1)) σ H Q := by
  refine told_anyN hT own fun c1 P1 H1 Qx eN T1 hc1 hx => ?_
  refine tried_by T (CM := CM) (fun Z z => hσ Z H1 z) T1 (.inr ⟨_, hc1⟩) br tr bm (hB.extN eN) fun c2 P2 H2 Qy Ey e2 T2 hc2 hB2 kv ke => ?_
  refine k c1 P1 c2 P2 H2 Qy Ey (eN.trans e2) T2 hc2 hB2 (fun v H3 kb sh tb z => kv v H3 kb sh tb fun H4 af hB4 T4 => hx v H4 fun l H5 s5 hl => z l H5 ((⟨(KB.ofN eN).trans af.kb, af.ni, af.row⟩ : Aft CR b H H3 H4).same s5) (hB4.same s5) (TabsN.ext T4 s5) hl)
    (fun cls d H3 kb sh tb vc z => ke cls d H3 kb sh tb vc fun H4 af hB4 T4 => z H4 ⟨(KB.ofN eN).trans af.kb, af.ni, af.row⟩ hB4 T4)
def spOth (CR CB CM : Addr) (Tb : TbN) : Sp := fun vs H Q _ => ∃ (b r0 r1 : Addr) (w0 g0 ws : List Int) (ps us : List (Nat × Nat)) (n : Nat), vs = [.ref b] ∧ BenAt CR CB CM H b r0 r1 ws ps us ∧ RowAt CR H r0 (w0.map V.int) ∧ RowAt CR H r1 (g0.map V.int) ∧ IsRow ws n ∧ 1 ≤ n ∧ n ≤ 24 ∧ ps.length ≤ 900 ∧ TabsZ Tb H ∧
  ∀ H', KB b H H' → BenAt CR CB CM H' b r0 r1 ws ps us → TabsZ Tb H' → Q (.bl true) H'
theorem scOth : FnScope ["bench", "ahead", "told", "found"] ["bench"] (defScope sOth) := ⟨rfl, rfl, rfl, by decide +kernel, rfl, by decide +kernel, by decide +kernel⟩
theorem ok_oth {T : TbL} {c Pt f g fC fS fR fB fE fX gT : Addr} {fdC fdS fdR fdB fdE fdX : FuncData} {oc kV doc pm ct oc1 kV1 doc1 pm1 ct1 cdv1 oc2 kV2 doc2 pm2 ct2 cdT : Value} {an od an1 od1 an2 od2 : Option Addr} {osl osl1 osl2 : Array (Option Value)} (B : Blt mg) (N : BenC K mg CR CB CM) (TC : TriC K mg CB CM CK CT) (tr : CT ≠ CR) (XE : Exs K mg CF C)
    (HD : DL K mg "_law_told" sTold g cdv1 ["call"] oc1 kV1 doc1 pm1 ct1 an1 od1 osl1) (cClass : Dn P' w K mg base 1 "_law_class" fC fdC ["error"] (spClass C)) (cShown : Dn P' w K mg base 3 "_law_shown" fS fdS ["bench"] (spShown CR CB CM)) (cRefu : DnX P' w K mg base 10 "_law_refusing" fR fdR ["one", "way"] (spRefu C CR CB CM ⟨base, mg, T⟩))
    (TD : DL K mg "tried" sTried gT cdT ["bench", "function"] oc2 kV2 doc2 pm2 ct2 an2 od2 osl2) (TP : TrP P' w K mg base CB CK CT fB fE fX fdB fdE fdX)
    (hOw : PySem.W.CodeHd base c Pt) (hmT : (Pt, ("_law_others_right" : Str) ++ ".<locals>." ++ "<lambda>") ∈ T) (D : DL K mg "_law_others_right" sOth f (.ref c) ["bench"] oc kV doc pm ct an od osl) :
    FnOk P' w K mg base CX0 16 f (PySem.W.fnOf "_law_others_right" "_law_others_right" (defArgs sOth) (defBody sOth) (defScope sOth) .none kV doc pm an (.ref c) ct) ["bench"] (spOth CR CB CM ⟨base, mg, T⟩) := by
  refine fnLo D.lk D.cd scOth (fun vs H Q E h => ?_) (fun A outer s H vs Q E hr h => ⟨_, (pss_cons (ps_set (i := 1) scOth.nd rfl (by first | exact Or.inl rfl | exact Or.inr rfl) (pe_call cShown.ok (hr.mono (by decide)) rfl cShown.mgf cShown.kp cShown.bi .nil pass0 (pa_cons (pv 0) pa_nil)))
      (pss_cons (ps_set (i := 2) scOth.nd rfl (by first | exact Or.inl rfl | exact Or.inr rfl) (pe_lstF (pa_cons (pe_lamN (k := 12) (T := T) (P := Pt) (TT := TTt C) (t := fun c1 P1 E1 => tLamT base mg c1 P1 ((P1, qIn (("_law_others_right" : Str) ++ ".<locals>." ++ "<lambda>")) :: T) (qIn (("_law_others_right" : Str) ++ ".<locals>." ++ "<lambda>")) E1 (TTr CB CK CT) (tVar 0) (fun c2 P2 E2 => tCall (spRefu C CR CB CM ⟨base, mg, T⟩) [] E2 (tCons (tVar 4) (tCons (tC (V.int 0)) tNil)))) (by rfl) HD.mgf HD.kp HD.lk HD.cd HD.bi scTold rfl (by first | exact .inl rfl | exact .inr rfl | rfl) (told_gives XE B cClass (hr.mono (by decide))) rfl hmT (hr.mono (by decide)) (laS_by (o := none) (around := defScope sOth) (by decide +kernel)) rfl (fun _ _ _ _ _ => rfl) (fun A1 outer1 s1 H1 E1 f1 c1 P1 hr1 => (pe_lamT (k := 10) (y := "one") (T := ((P1, qIn (("_law_others_right" : Str) ++ ".<locals>." ++ "<lambda>")) :: T)) (P := P1) (E := E1) (TT := TTr CB CK CT) (t := fun c2 P2 E2 => tCall (spRefu C CR CB CM ⟨base, mg, T⟩) [] E2 (tCons (tVar 4) (tCons (tC (V.int 0)) tNil))) (by rfl) TD.mgf TD.kp TD.lk TD.cd TD.bi scTried rfl (by first | exact .inl rfl | exact .inr rfl | rfl) (tried_gives N TC TP.mB TP.FB TP.bB TP.mE TP.mX TP.FE TP.bE TP.FX TP.bX (hr1.mono (by decide))) rfl (.head _) (hr1.mono (by decide)) (laS_by (o := some "one") (by kernel_rfl)) (show ("one" : Str) ∉ (["bench", "ahead", "told", "found"] : List Str) by decide) rfl (passes_call (takes_of rfl rfl rfl rfl) (fun _ _ _ _ h => h)) (fun _ _ _ _ _ _ => rfl) (pv 0) (fun A2 outer2 s2 H2 E2 f2 c2 P2 hr2 => (pe_call (E := E2) cRefu.ok (hr2.mono (by decide)) rfl cRefu.mgf cRefu.kp cRefu.bi .nil (passes_call (takes_of rfl rfl rfl rfl) (fun _ _ _ _ h => h)) (pa_cons (pv 4) (pa_cons pe_int pa_nil))))))) pa_nil)))
      (pss_cons (ps_expr (pe_lm PySem.F.slot_list_append PySem.F.type_list_append appF (pv 2) (pa_cons (pe_lamN (k := 12) (T := T) (P := Pt) (TT := TTt C) (t := fun c1 P1 E1 => tLamT base mg c1 P1 ((P1, qIn (("_law_others_right" : Str) ++ ".<locals>." ++ "<lambda>")) :: T) (qIn (("_law_others_right" : Str) ++ ".<locals>." ++ "<lambda>")) E1 (TTr CB CK CT) (tVar 0) (fun c2 P2 E2 => tCall (spRefu C CR CB CM ⟨base, mg, T⟩) [] E2 (tCons (tVar 4) (tCons (tC (V.int 1)) tNil)))) (by rfl) HD.mgf HD.kp HD.lk HD.cd HD.bi scTold rfl (by first | exact .inl rfl | exact .inr rfl | rfl) (told_gives XE B cClass (hr.mono (by decide))) rfl hmT (hr.mono (by decide)) (laS_by (o := none) (around := defScope sOth) (by decide +kernel)) rfl (fun _ _ _ _ _ => rfl) (fun A1 outer1 s1 H1 E1 f1 c1 P1 hr1 => (pe_lamT (k := 10) (y := "one") (T := ((P1, qIn (("_law_others_right" : Str) ++ ".<locals>." ++ "<lambda>")) :: T)) (P := P1) (E := E1) (TT := TTr CB CK CT) (t := fun c2 P2 E2 => tCall (spRefu C CR CB CM ⟨base, mg, T⟩) [] E2 (tCons (tVar 4) (tCons (tC (V.int 1)) tNil))) (by rfl) TD.mgf TD.kp TD.lk TD.cd TD.bi scTried rfl (by first | exact .inl rfl | exact .inr rfl | rfl) (tried_gives N TC TP.mB TP.FB TP.bB TP.mE TP.mX TP.FE TP.bE TP.FX TP.bX (hr1.mono (by decide))) rfl (.head _) (hr1.mono (by decide)) (laS_by (o := some "one") (by kernel_rfl)) (show ("one" : Str) ∉ (["bench", "ahead", "told", "found"] : List Str) by decide) rfl (passes_call (takes_of rfl rfl rfl rfl) (fun _ _ _ _ h => h)) (fun _ _ _ _ _ _ => rfl) (pv 0) (fun A2 outer2 s2 H2 E2 f2 c2 P2 hr2 => (pe_call (E := E2) cRefu.ok (hr2.mono (by decide)) rfl cRefu.mgf cRefu.kp cRefu.bi .nil (passes_call (takes_of rfl rfl rfl rfl) (fun _ _ _ _ h => h)) (pa_cons (pv 4) (pa_cons pe_int pa_nil))))))) pa_nil)))
      (pss_cons (ps_if (PW.pt (pw_or (pt_cmpR (op_neD hr.units) (pv 2) (pe_lstF (pa_cons (pe_tupF (pa_cons pe_str (pa_cons pe_int pa_nil))) (pa_cons (pe_tupF (pa_cons pe_str (pa_cons pe_int pa_nil))) pa_nil))) (nomark _)) (pw_or1 (pt_cmpR (op_neD hr.units) (pe_call cShown.ok (hr.mono (by decide)) rfl cShown.mgf cShown.kp cShown.bi .nil pass0 (pa_cons (pv 0) pa_nil)) (pv 1) (nomark _))))) (pss_one (ps_ret pe_bl)) pss_nil)
      (pss_cons (ps_set (i := 3) scOth.nd rfl (by first | exact Or.inl rfl | exact Or.inr rfl) (pe_lamN (k := 12) (T := T) (P := Pt) (TT := TTt C) (t := fun c1 P1 E1 => tLamT base mg c1 P1 ((P1, qIn (("_law_others_right" : Str) ++ ".<locals>." ++ "<lambda>")) :: T) (qIn (("_law_others_right" : Str) ++ ".<locals>." ++ "<lambda>")) E1 (TTr CB CK CT) (tVar 0) (fun c2 P2 E2 => tCall (spRefu C CR CB CM ⟨base, mg, T⟩) [] E2 (tCons (tVar 4) (tCons (tC (V.int 2)) tNil)))) (by rfl) HD.mgf HD.kp HD.lk HD.cd HD.bi scTold rfl (by first | exact .inl rfl | exact .inr rfl | rfl) (told_gives XE B cClass (hr.mono (by decide))) rfl hmT (hr.mono (by decide)) (laS_by (o := none) (around := defScope sOth) (by decide +kernel)) rfl (fun _ _ _ _ _ => rfl) (fun A1 outer1 s1 H1 E1 f1 c1 P1 hr1 => (pe_lamT (k := 10) (y := "one") (T := ((P1, qIn (("_law_others_right" : Str) ++ ".<locals>." ++ "<lambda>")) :: T)) (P := P1) (E := E1) (TT := TTr CB CK CT) (t := fun c2 P2 E2 => tCall (spRefu C CR CB CM ⟨base, mg, T⟩) [] E2 (tCons (tVar 4) (tCons (tC (V.int 2)) tNil))) (by rfl) TD.mgf TD.kp TD.lk TD.cd TD.bi scTried rfl (by first | exact .inl rfl | exact .inr rfl | rfl) (tried_gives N TC TP.mB TP.FB TP.bB TP.mE TP.mX TP.FE TP.bE TP.FX TP.bX (hr1.mono (by decide))) rfl (.head _) (hr1.mono (by decide)) (laS_by (o := some "one") (by kernel_rfl)) (show ("one" : Str) ∉ (["bench", "ahead", "told", "found"] : List Str) by decide) rfl (passes_call (takes_of rfl rfl rfl rfl) (fun _ _ _ _ h => h)) (fun _ _ _ _ _ _ => rfl) (pv 0) (fun A2 outer2 s2 H2 E2 f2 c2 P2 hr2 => (pe_call (E := E2) cRefu.ok (hr2.mono (by decide)) rfl cRefu.mgf cRefu.kp cRefu.bi .nil (passes_call (takes_of rfl rfl rfl rfl) (fun _ _ _ _ h => h)) (pa_cons (pv 4) (pa_cons pe_int pa_nil))))))))
      (pss_one (ps_ret (pe_and (pe_callB call_isi (by rfl) B.isinstance (by decide +kernel) (pa_cons (pv 3) (pa_cons (pe_bltn (v := .ty "list") (by rfl) B.list (by decide +kernel) rfl) pa_nil))) (pe_and (pe_cmpR op_isBl (pe_ix ixF (pe_ix ixF (pv 3) pe_int (fun _ _ => rfl)) pe_int (fun _ _ => rfl)) pe_bl (nomark _)) (pe_one (pe_cmpR (op_eqD hr.units) (pe_call cShown.ok (hr.mono (by decide)) rfl cShown.mgf cShown.kp cShown.bi .nil pass0 (pa_cons (pv 0) pa_nil)) (pv 1) (nomark _)))))))))))), ?_⟩)
  · obtain ⟨b, r0, r1, w0, g0, ws, ps, us, n, rfl, _⟩ := h
    rfl
  · obtain ⟨b, r0, r1, w0, g0, ws, ps, us, n, rfl, hB, h0, h1, hw, n1, n24, lp, hT, k⟩ := h
    obtain ⟨dx, mo, _, _, _, _, _, hb, _⟩ := id hB
    -- what a trial of _law_refusing tells
    have go : ∀ {H1 : Hp} {σ : St} {Z : VK} {wy : Int} {i j : Nat}, KB b H H1 → BenAt CR CB CM H1 b r0 r1 ws ps us → TabsN base mg T H1 → (∀ (Z : VK) (H' : Hp), Z (.ref b) H' → tVar i (σ ++ ([] : List V).map some) H' Z) → (∀ (H' : Hp) (Z : VK), Z (.ref b) H' → tVar j ((σ ++ ([] : List V).map some) ++ [some (.ref b)]) H' Z) →
        (∀ l H3, KB b H1 H3 → BenAt CR CB CM H3 b r0 r1 ws ps us → TabsN base mg T H3 → ((wy = 0 ∧ H3 l = some (.tup [.str "BadRow", .int 0])) ∨ (wy = 1 ∧ H3 l = some (.tup [.str "TooGreat", .int 24])) ∨ (wy = 2 ∧ ∃ r x, H3 l = some (.lst [.ref r]) ∧ H3 r = some (.lst [.bl x, .bl true]))) → Z (.ref l) H3) → wy = 0 ∨ wy = 1 ∨ wy = 2 →
        tLamN base mg c Pt T (("_law_others_right" : Str) ++ ".<locals>." ++ "<lambda>") (TTt C) [] (fun c1 P1 E1 => tLamT base mg c1 P1 ((P1, qIn (("_law_others_right" : Str) ++ ".<locals>." ++ "<lambda>")) :: T) (qIn (("_law_others_right" : Str) ++ ".<locals>." ++ "<lambda>")) E1 (TTr CB CK CT) (tVar i) (fun c2 P2 E2 => tCall (spRefu C CR CB CM ⟨base, mg, T⟩) [] E2 (tCons (tVar j) (tCons (tC (V.int wy)) tNil)))) σ H1 Z := by
      intro H1 σ Z wy i j kb hB1 hT1 hi hj kz hwy
      refine told_tried (CM := CM) hi hT1 (.inl hOw) N.br tr N.bm hB1 fun c1 P1 c2 P2 H2 Qx Ex eN T2 hc2 hB2 kv ke => ?_
      refine hj H2 _ ?_
      have kb2 : KB b H H2 := kb.trans (KB.ofN eN)
      obtain ⟨dx1, _, _, _, _, _, _, hb1, _⟩ := id hB1
      refine ⟨b, r0, r1, wy, w0, g0, ws, ps, us, n, rfl, hB2, rowAt_kb h0 kb2 hb N.br, rowAt_kb h1 kb2 hb N.br, hw, n1, n24, lp, TabsN.tail (TabsN.tail T2), ?_⟩
      rcases hwy with e | e | e
      · refine .inl ⟨e, fun d H3 k3 sh T3 hd => ke _ _ H3 k3 sh T3 ⟨.ref _, rfl⟩ fun H4 af hB4 T4 => ⟨.row, rfl, .inl ⟨rfl, d, _, rfl, af.ni _ _ hd (fun _ _ _ z => by cases z), fun p H5 s5 hp => ?_⟩⟩⟩
        exact kz p H5 (af.same s5).kb (hB4.same s5) (TabsN.ext T4 s5) (.inl ⟨e, hp⟩)
      · refine .inr (.inl ⟨e, fun d H3 k3 sh T3 hd => ke _ _ H3 k3 sh T3 ⟨.ref _, rfl⟩ fun H4 af hB4 T4 => ⟨.great, rfl, .inl ⟨rfl, d, _, rfl, af.ni _ _ hd (fun _ _ _ z => by cases z), fun p H5 s5 hp => ?_⟩⟩⟩)
        exact kz p H5 (af.same s5).kb (hB4.same s5) (TabsN.ext T4 s5) (.inr (.inl ⟨e, hp⟩))
      · refine .inr (.inr ⟨e, fun r x H3 k3 sh T3 hr3 => kv _ H3 k3 sh T3 fun l H4 af hB4 T4 hl => ?_⟩)
        exact kz l H4 af.kb hB4 T4 (.inr (.inr ⟨e, r, x, hl, af.ni _ _ hr3 (fun _ _ _ z => by cases z)⟩))
    refine seq_q (fun σ' H' => ∃ l, σ' = [some (.ref b), some (.ref l), none, none] ∧ Same H H' ∧ ShAt H' l w0 g0 ws ps) (fun D2 eD2 hZ2 => ?_) ?_
    · walk_at "s"
      exact ⟨b, r0, r1, w0, g0, ws, ps, us, rfl, hB, h0, h1, by omega, fun l H' s' _ sh => hZ2 _ _ ⟨l, rfl, s', sh⟩⟩
    rintro σ1 H1 ⟨l, rfl, s1, sh1⟩
    have hB1 := hB.same s1
    have hT1 : TabsN base mg T H1 := TabsN.ext hT s1
    refine seq_q (fun σ' H' => ∃ t p, σ' = [some (.ref b), some (.ref l), some (.ref t), none] ∧ NewT H1 t ∧ KB b H1 H' ∧ BenAt CR CB CM H' b r0 r1 ws ps us ∧ TabsN base mg T H' ∧ H' t = some (.lst [.ref p]) ∧ H' p = some (.tup [.str "BadRow", .int 0])) (fun D2 eD2 hZ2 => ?_) ?_
    · refine go (wy := 0) (i := 0) (j := 4) (KB.of s1) hB1 hT1 (fun Z H' z => ⟨_, rfl, z⟩) (fun H' Z z => ⟨_, rfl, z⟩) (fun p H3 k3 hB3 T3 e => ?_) (.inl rfl)
      have hp : H3 p = some (.tup [.str "BadRow", .int 0]) := by
        rcases e with ⟨_, h⟩ | ⟨h, _⟩ | ⟨h, _⟩
        · exact h
        · cases h
        · cases h
      obtain ⟨dx3, _, _, _, _, _, _, hb3, _⟩ := id hB3
      refine ⟨sz_le (show 1 ≤ 16777216 by decide), view_new (VW.start (H := H3)) fun t H4 v4 => ?_⟩
      exact hZ2 _ _ ⟨t, p, rfl, newT_kb k3 hb3 (v4.own (t, _) (.head _)), k3.trans (KB.of v4.fr), hB3.same v4.fr, TabsN.ext T3 v4.fr, v4.at_ (t, _) (.head _), v4.fr _ _ hp⟩
    rintro σ2 H2 ⟨t, p, rfl, nt, k2, hB2, hT2, ht2, hp2⟩
    refine seq_q (fun σ' H' => ∃ p2, σ' = [some (.ref b), some (.ref l), some (.ref t), none] ∧ NewT H1 t ∧ KB b H1 H' ∧ BenAt CR CB CM H' b r0 r1 ws ps us ∧ TabsN base mg T H' ∧ H' t = some (.lst [.ref p, .ref p2]) ∧ H' p = some (.tup [.str "BadRow", .int 0]) ∧ H' p2 = some (.tup [.str "TooGreat", .int 24])) (fun D2 eD2 hZ2 => ?_) ?_
    · refine ⟨_, rfl, t, rfl, _, ht2, go (σ := [some (.ref b), some (.ref l), some (.ref t), none]) (wy := 1) (i := 0) (j := 4) ((KB.of s1).trans k2) hB2 hT2 (fun Z H' z => ⟨_, rfl, z⟩) (fun H' Z z => ⟨_, rfl, z⟩) (fun p2 H3 k3 hB3 hT3 e => ?_) (.inr (.inl rfl))⟩
      have hq : H3 p2 = some (.tup [.str "TooGreat", .int 24]) := by
        rcases e with ⟨h, _⟩ | ⟨_, h⟩ | ⟨h, _⟩
        · cases h
        · exact h
        · cases h
      obtain ⟨dx2, _, _, _, _, _, _, hb2, _⟩ := id hB2
      have tb : t ≠ b := fun z => by rw [z, hb2] at ht2; cases ht2
      have ht3 := k3 _ _ tb rfl ht2
      have hp3 := k3 _ _ (fun z => by rw [z, hb2] at hp2; cases hp2) rfl hp2
      obtain ⟨dx3, _, _, _, _, _, _, hb3, _⟩ := id hB3
      have px : ∀ {a : Addr} {zs : List V}, H3 a = some (.tup zs) → upd H3 t (.lst [.ref p, .ref p2]) a = some (.tup zs) := fun {a zs} h => by rw [upd_ne (fun z => by rw [z, ht3] at h; cases h)]; exact h
      refine ⟨t, _, rfl, rfl, _, ht3, sz_lt (show 1 < 16777216 by decide), ?_⟩
      exact hZ2 _ _ ⟨p2, rfl, nt, (k2.trans k3).put nt, hB3.put ht3, tabs_put (Tb := ⟨base, mg, T⟩) hT3 ht3, upd_same, px hp3, px hq⟩
    rintro σ3 H3 ⟨p2, rfl, _, k3, hB3, hT3, ht3, hp3, hq3⟩
    have kb1 : KB b H H3 := (KB.of s1).trans k3
    obtain ⟨dx1, _, _, _, _, _, _, hb1, _⟩ := id hB1
    obtain ⟨dx3, _, _, _, _, _, _, hb3, _⟩ := id hB3
    have h03 := rowAt_kb h0 kb1 hb N.br
    have h13 := rowAt_kb h1 kb1 hb N.br
    have sh3 := sh1.keep (k3.ni hb1)
    refine seq_q (fun σ' H' => σ' = [some (.ref b), some (.ref l), some (.ref t), none] ∧ Same H3 H') (fun D2 eD2 hZ2 => ?_) ?_
    · walk_at "s"
      refine ⟨sz_le (by decide), view_tup (VW.start (H := H3)) fun u1 A1 v1 => ⟨sz_le (by decide), view_tup v1 fun u2 A2 v2 => ⟨sz_le (show 2 ≤ 16777216 by decide), view_new v2 fun lo A3 v3 => ?_⟩⟩⟩
      have dg : ∀ {a : Addr} {s : Str} {i : Int}, A3 a = some (.tup [.str s, .int i]) → Dp K A3 (.ref a) (.tuple [.str s, .int i]) := fun h => .tup (SqT.of h) (.cons (.str _) (.cons (.int _) .nil))
      refine ⟨.list [.tuple [.str "BadRow", .int 0], .tuple [.str "TooGreat", .int 24]], .list [.tuple [.str "BadRow", .int 0], .tuple [.str "TooGreat", .int 24]], .lst (SqL.of (v3.fr _ _ ht3)) (.cons (dg (v3.fr _ _ hp3)) (.cons (dg (v3.fr _ _ hq3)) .nil)), .lst (SqL.of (v3.at_ (lo, _) (.head _))) (.cons (dg (v3.tu (u1, _) (.tail _ (.head _)))) (.cons (dg (v3.tu (u2, _) (.head _))) .nil)), by decide +kernel, by decide +kernel, .inl ⟨congrArg V.bl (by decide +kernel), ?_⟩⟩
      refine ⟨b, r0, r1, w0, g0, ws, ps, us, rfl, hB3.same v3.fr, h03.same v3.fr, h13.same v3.fr, by omega, fun l4 A4 s4 _ sh4 => ?_⟩
      refine ⟨_, _, sh4.dp, (sh3.keep fun a u _ _ h => s4 _ _ (v3.fr _ _ h)).dp, shp_sh _ _ _ _, shp_sh _ _ _ _, .inl ⟨congrArg V.bl (by rw [sh_self]; rfl), hZ2 _ _ ⟨rfl, Same.tr2 v3.fr s4⟩⟩⟩
    rintro σ4 H4 ⟨rfl, s4⟩
    have hB4 := hB3.same s4
    have hT4 : TabsN base mg T H4 := hT3.ext s4
    refine seq_q (fun σ' H' => ∃ fo r x, σ' = [some (.ref b), some (.ref l), some (.ref t), some (.ref fo)] ∧ KB b H4 H' ∧ BenAt CR CB CM H' b r0 r1 ws ps us ∧ TabsN base mg T H' ∧ H' fo = some (.lst [.ref r]) ∧ H' r = some (.lst [.bl x, .bl true])) (fun D2 eD2 hZ2 => ?_) ?_
    · refine go (wy := 2) (i := 0) (j := 4) (kb1.trans (KB.of s4)) hB4 hT4 (fun Z H' z => ⟨_, rfl, z⟩) (fun H' Z z => ⟨_, rfl, z⟩) (fun p H5 k5 hB5 T5 e => ?_) (.inr (.inr rfl))
      rcases e with ⟨h, _⟩ | ⟨h, _⟩ | ⟨_, r, x, h, h'⟩
      · cases h
      · cases h
      · exact hZ2 _ _ ⟨p, r, x, rfl, k5, hB5, T5, h, h'⟩
    rintro σ5 H5 ⟨fo, r, x, rfl, k5, hB5, hT5, hfo, hr5⟩
    have kb5 : KB b H H5 := (kb1.trans (KB.of s4)).trans k5
    have h05 := rowAt_kb h0 kb5 hb N.br
    have h15 := rowAt_kb h1 kb5 hb N.br
    have sh5 := (sh3.keep fun a u _ _ h => s4 _ _ h).keep (k5.ni (s4 _ _ hb3))
    walk_at "s"
    refine ⟨_, .ty "list", _, .type "list", true, rfl, .ty _, .base (.lst hfo), kit_ty (by decide +kernel), .inr ⟨rfl, _, hfo, _, rfl, _, rfl, r, rfl, _, hr5, _, rfl, _, rfl, .inr ⟨rfl, ?_⟩⟩⟩
    refine ⟨b, r0, r1, w0, g0, ws, ps, us, rfl, hB5, h05, h15, by omega, fun l6 A6 s6 _ sh6 => ?_⟩
    refine ⟨_, _, sh6.dp, (sh5.keep fun a u _ _ h => s6 _ _ h).dp, shp_sh _ _ _ _, shp_sh _ _ _ _, ?_⟩
    rw [sh_self]
    exact k A6 (kb5.trans (KB.of s6)) (hB5.same s6) (TabsN.ext hT5 s6)
theorem shp_tri (ws : List Int) (m : Nat) : SeqAt.shaped (.list [.list [.list [.bool true, .tuple (ws.map PyData.int), .int (m : Nat)]], .list [.tuple (ws.map PyData.int)]]) = true := by
  obtain ⟨a1, a2⟩ := ints_layA ws
  have e : (PyData.list [.list [.list [.bool true, .tuple (ws.map PyData.int), .int (m : Nat)]], .list [.tuple (ws.map PyData.int)]]).depth ≤ 64 := by
    simp only [PyData.depth, PyData.depthAll]
    omega
  unfold SeqAt.shaped
  simp only [PyData.canLay0, PyData.canLayAll0, a1, Bool.and_self, Bool.and_true, Bool.true_and]
  exact decide_eq_true e
def spTri (CR CB CM : Addr) (Tb : TbN) : Sp := fun vs H Q _ => ∃ (b r0 r1 l hp : Addr) (w0 g0 ws : List Int) (ps us qs : List (Nat × Nat)) (n : Nat) (xs : List V), vs = [.ref b, .ref l, .ref hp] ∧ BenAt CR CB CM H b r0 r1 ws ps us ∧ RowAt CR H r0 (w0.map V.int) ∧ RowAt CR H r1 (g0.map V.int) ∧ IsRow ws n ∧ n ≤ 24 ∧ ps.length ≤ 800 ∧ us.length ≤ 800 ∧ GdP n ps ∧
  H l = some (.lst xs) ∧ PrL H xs qs ∧ GdP n qs ∧ qs.length ≤ 50 ∧ H hp = some (.tup ((foldT ws qs).map V.int)) ∧ TabsZ Tb H ∧ ∀ H', KB b H H' → BenAt CR CB CM H' b r0 r1 ws ps us → TabsZ Tb H' → Q (.bl true) H'
theorem scTri : FnScope ["bench", "turnings", "here", "ahead", "lots", "told", "found"] ["bench", "turnings", "here"] (defScope sTri) := ⟨rfl, rfl, rfl, by decide +kernel, rfl, by decide +kernel, by decide +kernel⟩
theorem ok_tri {T : TbL} {c Pt f g fC fS fR fB fE fX gT fA fN : Addr} {fdC fdS fdR fdB fdE fdX fdA fdN : FuncData} {oc kV doc pm ct oc1 kV1 doc1 pm1 ct1 cdv1 oc2 kV2 doc2 pm2 ct2 cdT : Value} {an od an1 od1 an2 od2 : Option Addr} {osl osl1 osl2 : Array (Option Value)} (B : Blt mg) (R : RowC K mg CR) (N : BenC K mg CR CB CM) (TC : TriC K mg CB CM CK CT) (tr : CT ≠ CR) (XE : Exs K mg CF C)
    (HD : DL K mg "_law_told" sTold g cdv1 ["call"] oc1 kV1 doc1 pm1 ct1 an1 od1 osl1) (cClass : Dn P' w K mg base 1 "_law_class" fC fdC ["error"] (spClass C)) (cShown : Dn P' w K mg base 3 "_law_shown" fS fdS ["bench"] (spShown CR CB CM)) (cSlip : DnX P' w K mg base 7 "_law_slipped" fR fdR ["same", "bench", "turnings", "way"] (spSlip C CR CB CM))
    (FDa : FnOk P' w K mg base (L2.CX P' w) 7 fA fdA ["self", "turnings"] (spDoAll K C CR CB CM)) (MDa : Meth K CB "do_all" fA) (bDa : Binds K fdA ["self", "turnings"] []) (FBLen : FnOk P' w K mg base CX0 1 fN fdN ["self"] (spBLen CR CB CM)) (BL : OpM K CB "__len__" fN fdN ["self"])
    (TD : DL K mg "tried" sTried gT cdT ["bench", "function"] oc2 kV2 doc2 pm2 ct2 an2 od2 osl2) (TP : TrP P' w K mg base CB CK CT fB fE fX fdB fdE fdX)
    (hOw : PySem.W.CodeHd base c Pt) (hmT : (Pt, ("_law_trials_right" : Str) ++ ".<locals>." ++ "<lambda>") ∈ T) (D : DL K mg "_law_trials_right" sTri f (.ref c) ["bench", "turnings", "here"] oc kV doc pm ct an od osl) :
    FnOk P' w K mg base CX0 16 f (PySem.W.fnOf "_law_trials_right" "_law_trials_right" (defArgs sTri) (defBody sTri) (defScope sTri) .none kV doc pm an (.ref c) ct) ["bench", "turnings", "here"] (spTri CR CB CM ⟨base, mg, T⟩) := by
  refine fnLo D.lk D.cd scTri (fun vs H Q E h => ?_) (fun A outer s H vs Q E hr h => ⟨_, (pss_cons (ps_par (i := 3) (j := 4) (by rfl) scTri.nd rfl rfl (by decide) rfl rfl (pa_cons (pe_call cShown.ok (hr.mono (by decide)) rfl cShown.mgf cShown.kp cShown.bi .nil pass0 (pa_cons (pv 0) pa_nil)) (pa_cons (pe_op op_add (pe_callB (call_lenO FBLen BL.at_ BL.fn (hr.mono (by decide)) BL.bi pass0) (by rfl) B.len (by decide +kernel) (pa_cons (pv 0) pa_nil)) (pe_callB lenF (by rfl) B.len (by decide +kernel) (pa_cons (pv 1) pa_nil))) pa_nil)) (by rfl))
      (pss_cons (ps_set (i := 5) scTri.nd rfl (by first | exact Or.inl rfl | exact Or.inr rfl) (pe_lstF (pa_cons (pe_lamN (k := 10) (T := T) (P := Pt) (TT := TTt C) (t := fun c1 P1 E1 => tLamT base mg c1 P1 ((P1, qIn (("_law_trials_right" : Str) ++ ".<locals>." ++ "<lambda>")) :: T) (qIn (("_law_trials_right" : Str) ++ ".<locals>." ++ "<lambda>")) E1 (TTr CB CK CT) (tVar 0) (fun c2 P2 E2 => tCall (spSlip C CR CB CM) [] E2 (tCons (tVar 7) (tCons (tVar 0) (tCons (tVar 1) (tCons (tC (V.int 0)) tNil)))))) (by rfl) HD.mgf HD.kp HD.lk HD.cd HD.bi scTold rfl (by first | exact .inl rfl | exact .inr rfl | rfl) (told_gives XE B cClass (hr.mono (by decide))) rfl hmT (hr.mono (by decide)) (laS_by (o := none) (around := defScope sTri) (by decide +kernel)) rfl (fun _ _ _ _ _ => rfl) (fun A1 outer1 s1 H1 E1 f1 c1 P1 hr1 => (pe_lamT (k := 8) (y := "one") (T := ((P1, qIn (("_law_trials_right" : Str) ++ ".<locals>." ++ "<lambda>")) :: T)) (P := P1) (E := E1) (TT := TTr CB CK CT) (t := fun c2 P2 E2 => tCall (spSlip C CR CB CM) [] E2 (tCons (tVar 7) (tCons (tVar 0) (tCons (tVar 1) (tCons (tC (V.int 0)) tNil))))) (by rfl) TD.mgf TD.kp TD.lk TD.cd TD.bi scTried rfl (by first | exact .inl rfl | exact .inr rfl | rfl) (tried_gives N TC TP.mB TP.FB TP.bB TP.mE TP.mX TP.FE TP.bE TP.FX TP.bX (hr1.mono (by decide))) rfl (.head _) (hr1.mono (by decide)) (laS_by (o := some "one") (by kernel_rfl)) (show ("one" : Str) ∉ (["bench", "turnings", "here", "ahead", "lots", "told", "found"] : List Str) by decide) rfl (passes_call (takes_of rfl rfl rfl rfl) (fun _ _ _ _ h => h)) (fun _ _ _ _ _ _ => rfl) (pv 0) (fun A2 outer2 s2 H2 E2 f2 c2 P2 hr2 => (pe_call (E := E2) cSlip.ok (hr2.mono (by decide)) rfl cSlip.mgf cSlip.kp cSlip.bi .nil (passes_call (takes_of rfl rfl rfl rfl) (fun _ _ _ _ h => h)) (pa_cons (pv 7) (pa_cons (pv 0) (pa_cons (pv 1) (pa_cons pe_int pa_nil))))))))) pa_nil)))
      (pss_cons (ps_if (pt_cmpR (op_neD hr.units) (pe_call cShown.ok (hr.mono (by decide)) rfl cShown.mgf cShown.kp cShown.bi .nil pass0 (pa_cons (pv 0) pa_nil)) (pv 3) (nomark _)) (pss_one (ps_ret pe_bl)) pss_nil)
      (pss_cons (ps_set (i := 6) scTri.nd rfl (by first | exact Or.inl rfl | exact Or.inr rfl) (pe_lamN (k := 10) (T := T) (P := Pt) (TT := TTt C) (t := fun c1 P1 E1 => tLamT base mg c1 P1 ((P1, qIn (("_law_trials_right" : Str) ++ ".<locals>." ++ "<lambda>")) :: T) (qIn (("_law_trials_right" : Str) ++ ".<locals>." ++ "<lambda>")) E1 (TTr CB CK CT) (tVar 0) (fun c2 P2 E2 => tCall (spSlip C CR CB CM) [] E2 (tCons (tVar 7) (tCons (tVar 0) (tCons (tVar 1) (tCons (tC (V.int 1)) tNil)))))) (by rfl) HD.mgf HD.kp HD.lk HD.cd HD.bi scTold rfl (by first | exact .inl rfl | exact .inr rfl | rfl) (told_gives XE B cClass (hr.mono (by decide))) rfl hmT (hr.mono (by decide)) (laS_by (o := none) (around := defScope sTri) (by decide +kernel)) rfl (fun _ _ _ _ _ => rfl) (fun A1 outer1 s1 H1 E1 f1 c1 P1 hr1 => (pe_lamT (k := 8) (y := "one") (T := ((P1, qIn (("_law_trials_right" : Str) ++ ".<locals>." ++ "<lambda>")) :: T)) (P := P1) (E := E1) (TT := TTr CB CK CT) (t := fun c2 P2 E2 => tCall (spSlip C CR CB CM) [] E2 (tCons (tVar 7) (tCons (tVar 0) (tCons (tVar 1) (tCons (tC (V.int 1)) tNil))))) (by rfl) TD.mgf TD.kp TD.lk TD.cd TD.bi scTried rfl (by first | exact .inl rfl | exact .inr rfl | rfl) (tried_gives N TC TP.mB TP.FB TP.bB TP.mE TP.mX TP.FE TP.bE TP.FX TP.bX (hr1.mono (by decide))) rfl (.head _) (hr1.mono (by decide)) (laS_by (o := some "one") (by kernel_rfl)) (show ("one" : Str) ∉ (["bench", "turnings", "here", "ahead", "lots", "told", "found"] : List Str) by decide) rfl (passes_call (takes_of rfl rfl rfl rfl) (fun _ _ _ _ h => h)) (fun _ _ _ _ _ _ => rfl) (pv 0) (fun A2 outer2 s2 H2 E2 f2 c2 P2 hr2 => (pe_call (E := E2) cSlip.ok (hr2.mono (by decide)) rfl cSlip.mgf cSlip.kp cSlip.bi .nil (passes_call (takes_of rfl rfl rfl rfl) (fun _ _ _ _ h => h)) (pa_cons (pv 7) (pa_cons (pv 0) (pa_cons (pv 1) (pa_cons pe_int pa_nil))))))))))
      (pss_cons (ps_expr (pe_lm PySem.F.slot_list_append PySem.F.type_list_append appF (pv 5) (pa_cons (pe_lamN (k := 12) (T := T) (P := Pt) (TT := TTt C) (t := fun c1 P1 E1 => tLamT base mg c1 P1 ((P1, qIn (("_law_trials_right" : Str) ++ ".<locals>." ++ "<lambda>")) :: T) (qIn (("_law_trials_right" : Str) ++ ".<locals>." ++ "<lambda>")) E1 (TTr CB CK CT) (tVar 0) (fun c2 P2 E2 => tFldF K (tLamT base mg c2 P2 ((P2, qIn (qIn (("_law_trials_right" : Str) ++ ".<locals>." ++ "<lambda>"))) :: ((P1, qIn (("_law_trials_right" : Str) ++ ".<locals>." ++ "<lambda>")) :: T)) (qIn (qIn (("_law_trials_right" : Str) ++ ".<locals>." ++ "<lambda>"))) E2 (TTr CB CK CT) (tVar 7) (fun c3 P3 E3 => tMeth CB "do_all" (spDoAll K C CR CB CM) [] E3 (tVar 8) (tCons (tVar 1) tNil))) "waggons")) (by rfl) HD.mgf HD.kp HD.lk HD.cd HD.bi scTold rfl (by first | exact .inl rfl | exact .inr rfl | rfl) (told_gives XE B cClass (hr.mono (by decide))) rfl hmT (hr.mono (by decide)) (laS_by (o := none) (around := defScope sTri) (by decide +kernel)) rfl (fun _ _ _ _ _ => rfl) (fun A1 outer1 s1 H1 E1 f1 c1 P1 hr1 => (pe_lamT (k := 10) (y := "one") (T := ((P1, qIn (("_law_trials_right" : Str) ++ ".<locals>." ++ "<lambda>")) :: T)) (P := P1) (E := E1) (TT := TTr CB CK CT) (t := fun c2 P2 E2 => tFldF K (tLamT base mg c2 P2 ((P2, qIn (qIn (("_law_trials_right" : Str) ++ ".<locals>." ++ "<lambda>"))) :: ((P1, qIn (("_law_trials_right" : Str) ++ ".<locals>." ++ "<lambda>")) :: T)) (qIn (qIn (("_law_trials_right" : Str) ++ ".<locals>." ++ "<lambda>"))) E2 (TTr CB CK CT) (tVar 7) (fun c3 P3 E3 => tMeth CB "do_all" (spDoAll K C CR CB CM) [] E3 (tVar 8) (tCons (tVar 1) tNil))) "waggons") (by rfl) TD.mgf TD.kp TD.lk TD.cd TD.bi scTried rfl (by first | exact .inl rfl | exact .inr rfl | rfl) (tried_gives N TC TP.mB TP.FB TP.bB TP.mE TP.mX TP.FE TP.bE TP.FX TP.bX (hr1.mono (by decide))) rfl (.head _) (hr1.mono (by decide)) (laS_by (o := some "one") (by kernel_rfl)) (show ("one" : Str) ∉ (["bench", "turnings", "here", "ahead", "lots", "told", "found"] : List Str) by decide) rfl (passes_call (takes_of rfl rfl rfl rfl) (fun _ _ _ _ h => h)) (fun _ _ _ _ _ _ => rfl) (pv 0) (fun A2 outer2 s2 H2 E2 f2 c2 P2 hr2 => (pe_fldF (pe_lamT (k := 8) (y := "two") (T := ((P2, qIn (qIn (("_law_trials_right" : Str) ++ ".<locals>." ++ "<lambda>"))) :: ((P1, qIn (("_law_trials_right" : Str) ++ ".<locals>." ++ "<lambda>")) :: T))) (P := P2) (E := E2) (TT := TTr CB CK CT) (t := fun c3 P3 E3 => tMeth CB "do_all" (spDoAll K C CR CB CM) [] E3 (tVar 8) (tCons (tVar 1) tNil)) (by rfl) TD.mgf TD.kp TD.lk TD.cd TD.bi scTried rfl (by first | exact .inl rfl | exact .inr rfl | rfl) (tried_gives N TC TP.mB TP.FB TP.bB TP.mE TP.mX TP.FE TP.bE TP.FX TP.bX (hr2.mono (by decide))) rfl (.head _) (hr2.mono (by decide)) (laS_by (o := some "two") (by kernel_rfl)) (show ("two" : Str) ∉ (["bench", "turnings", "here", "ahead", "lots", "told", "found", "one"] : List Str) by decide) rfl (passes_call (takes_of rfl rfl rfl rfl) (fun _ _ _ _ h => h)) (fun _ _ _ _ _ _ => rfl) (pv 7) (fun A3 outer3 s3 H3 E3 f3 c3 P3 hr3 => (pe_meth (E := E3) (pv 8) N.cl MDa FDa (hr3.mono (by decide)) bDa .nil (passes_call (takes_of rfl rfl rfl rfl) (fun _ _ _ _ h => h)) (pa_cons (pv 1) pa_nil))))))))) pa_nil)))
      (pss_cons (ps_if (PW.pt (pw_or (pt_cmpR (op_neD hr.units) (pv 6) (pe_ifExp (pt_cmpR op_gt (pv 4) pe_int (nomark _)) (pe_tupF (pa_cons pe_str (pa_cons pe_int pa_nil))) (pe_tupF (pa_cons pe_str pa_nil))) (nomark _)) (pw_or1 (pt_cmpR (op_neD hr.units) (pe_call cShown.ok (hr.mono (by decide)) rfl cShown.mgf cShown.kp cShown.bi .nil pass0 (pa_cons (pv 0) pa_nil)) (pv 3) (nomark _))))) (pss_one (ps_ret pe_bl)) pss_nil)
      (pss_one (ps_ret (pe_cmpR (op_eqD hr.units) (pv 5) (pe_lstF (pa_cons (pe_lstF (pa_cons (pe_lstF (pa_cons pe_bl (pa_cons (pv 2) (pa_cons (pv 4) pa_nil)))) pa_nil)) (pa_cons (pe_lstF (pa_cons (pv 2) pa_nil)) pa_nil))) (nomark _)))))))))), ?_⟩)
  · obtain ⟨b, r0, r1, l, hp, w0, g0, ws, ps, us, qs, n, xs, rfl, _⟩ := h
    rfl
  · obtain ⟨b, r0, r1, l, hp, w0, g0, ws, ps, us, qs, n, xs, rfl, hB, h0, h1, hw, n24, lp, lu, hps, hl, hP, hG, lq, hhp, hT, k⟩ := h
    obtain ⟨dx, mo, _, _, _, _, _, hb, _⟩ := id hB
    have lx := hP.len
    have lb : l ≠ b := fun z => by rw [z, hb] at hl; cases hl
    -- what of all this stays
    have st : ∀ {H1 : Hp}, KB b H H1 → RowAt CR H1 r0 (w0.map V.int) ∧ RowAt CR H1 r1 (g0.map V.int) ∧ H1 l = some (.lst xs) ∧ PrL H1 xs qs ∧ H1 hp = some (.tup ((foldT ws qs).map V.int)) := fun {H1} kb => by
      have ni := kb.ni hb
      exact ⟨rowAt_kb h0 kb hb N.br, rowAt_kb h1 kb hb N.br, kb _ _ lb rfl hl, Paired.mapP hP fun _ _ ⟨a, e, ha⟩ => ⟨a, e, ni _ _ (fun _ _ _ z => by cases z) rfl ha⟩, ni _ _ (fun _ _ _ z => by cases z) rfl hhp⟩
    obtain ⟨m, hm⟩ : ∃ m : Nat, (ps ++ qs).length = m := ⟨_, rfl⟩
    have go : ∀ {H1 : Hp} {σ : St} {Z : VK} {wy : Int} {i j it : Nat}, KB b H H1 → BenAt CR CB CM H1 b r0 r1 ws ps us → TabsN base mg T H1 → (∀ (Z : VK) (H' : Hp), Z (.ref b) H' → tVar i (σ ++ ([] : List V).map some) H' Z) →
        (∀ (H' : Hp) (Z : List V → Hp → Prop), Z [.ref b, .ref b, .ref l, .int wy] H' → tCons (tVar j) (tCons (tVar i) (tCons (tVar it) (tCons (tC (V.int wy)) tNil))) ((σ ++ ([] : List V).map some) ++ [some (.ref b)]) H' Z) →
        (∀ p H3, KB b H1 H3 → BenAt CR CB CM H3 b r0 r1 ws ps us → TabsN base mg T H3 → ((wy = 0 ∧ ∃ r t, H3 p = some (.lst [.ref r]) ∧ H3 r = some (.lst [.bl true, .ref t, .int (m : Nat)]) ∧ H3 t = some (.tup ((foldT ws qs).map V.int))) ∨ (wy = 1 ∧ ((ps ++ qs = [] ∧ H3 p = some (.tup [.str "NothingLeft"])) ∨ (ps ++ qs ≠ [] ∧ H3 p = some (.tup [.str "BadTurn", .int 0]))))) → Z (.ref p) H3) → wy = 0 ∨ wy = 1 →
        tLamN base mg c Pt T (("_law_trials_right" : Str) ++ ".<locals>." ++ "<lambda>") (TTt C) [] (fun c1 P1 E1 => tLamT base mg c1 P1 ((P1, qIn (("_law_trials_right" : Str) ++ ".<locals>." ++ "<lambda>")) :: T) (qIn (("_law_trials_right" : Str) ++ ".<locals>." ++ "<lambda>")) E1 (TTr CB CK CT) (tVar i) (fun c2 P2 E2 => tCall (spSlip C CR CB CM) [] E2 (tCons (tVar j) (tCons (tVar i) (tCons (tVar it) (tCons (tC (V.int wy)) tNil)))))) σ H1 Z := by
      intro H1 σ Z wy i j it kb hB1 hT1 hi hv kz hwy
      refine told_tried (CM := CM) hi hT1 (.inl hOw) N.br tr N.bm hB1 fun c1 P1 c2 P2 H2 Qx Ex eN T2 hc2 hB2 kv ke => ?_
      refine hv H2 _ ?_
      obtain ⟨q0, q1, q2, q3, q4⟩ := st (kb.trans (KB.ofN eN))
      obtain ⟨dx2, _, _, _, _, _, _, hb2, _⟩ := id hB2
      have hT2 := TabsN.tail (TabsN.tail T2)
      refine ⟨b, r0, r1, l, wy, w0, g0, ws, ps, us, qs, n, xs, rfl, hB2, q0, q1, hw, n24, by omega, by omega, hps, q2, q3, hG, ?_⟩
      rcases hwy with e | e
      · exact .inl ⟨e, fun r t H3 s3 sh hr ht => kv _ H3 (KB.ofX s3) sh (TabsN.smx hT2 s3 hb2) fun p H4 af hB4 T4 hp => kz p H4 af.kb hB4 T4 (.inl ⟨e, r, t, hp, by rw [← hm]; exact af.ni _ _ hr (fun _ _ _ z => by cases z), af.ni _ _ ht (fun _ _ _ z => by cases z)⟩)⟩
      · refine .inr ⟨e, fun e0 H3 s3 sh => ke _ none H3 (KB.ofX s3) sh (TabsN.smx hT2 s3 hb2) ⟨.ref _, rfl⟩ fun H4 af hB4 T4 => ⟨.nothing, rfl, .inr ⟨rfl, rfl, fun p H5 s5 hp => ?_⟩⟩, fun e0 d H3 s3 sh hd => ke _ _ H3 (KB.ofX s3) sh (TabsN.smx hT2 s3 hb2) ⟨.ref _, rfl⟩ fun H4 af hB4 T4 => ⟨.turn, rfl, .inl ⟨rfl, d, _, rfl, af.ni _ _ hd (fun _ _ _ z => by cases z), fun p H5 s5 hp => ?_⟩⟩⟩
        · exact kz p H5 (af.same s5).kb (hB4.same s5) (TabsN.ext T4 s5) (.inr ⟨e, .inl ⟨e0, hp⟩⟩)
        · exact kz p H5 (af.same s5).kb (hB4.same s5) (TabsN.ext T4 s5) (.inr ⟨e, .inr ⟨e0, hp⟩⟩)
    refine seq_q (fun σ' H' => ∃ a, σ' = [some (.ref b), some (.ref l), some (.ref hp), some (.ref a), some (.int (m : Nat)), none, none] ∧ Same H H' ∧ ShAt H' a w0 g0 ws ps) (fun D2 eD2 hZ2 => ?_) ?_
    · walk_at "s"
      refine ⟨b, r0, r1, w0, g0, ws, ps, us, rfl, hB, h0, h1, by omega, fun a A1 t1 _ sh => ?_⟩
      refine ⟨b, dx, _, rfl, t1 _ _ hb, b, r0, r1, ws, ps, us, rfl, hB.same t1, ?_⟩
      refine ⟨_, rfl, by omega, by omega, _, t1 _ _ hl, xs, rfl, _, rfl, _, _, ⟨rfl, rfl⟩, hZ2 _ _ ⟨a, ?_, t1, sh⟩⟩
      rw [← hm, List.length_append, lx, Int.natCast_add]
    rintro σ1 H1 ⟨a, rfl, s1, sh1⟩
    have hB1 := hB.same s1
    have hT1 : TabsN base mg T H1 := TabsN.ext hT s1
    obtain ⟨dx1, _, _, _, _, _, _, hb1, _⟩ := id hB1
    refine seq_q (fun σ' H' => ∃ lt t1 r t, σ' = [some (.ref b), some (.ref l), some (.ref hp), some (.ref a), some (.int (m : Nat)), some (.ref lt), none] ∧ NewT H1 lt ∧ KB b H1 H' ∧ BenAt CR CB CM H' b r0 r1 ws ps us ∧ TabsN base mg T H' ∧ H' lt = some (.lst [.ref t1]) ∧ H' t1 = some (.lst [.ref r]) ∧ H' r = some (.lst [.bl true, .ref t, .int (m : Nat)]) ∧ H' t = some (.tup ((foldT ws qs).map V.int))) (fun D2 eD2 hZ2 => ?_) ?_
    · refine go (wy := 0) (i := 0) (j := 7) (it := 1) (KB.of s1) hB1 hT1 (fun Z H' z => ⟨_, rfl, z⟩) (fun H' Z z => ⟨_, rfl, _, rfl, _, rfl, z⟩) (fun p H3 k3 hB3 T3 e => ?_) (.inl rfl)
      rcases e with ⟨_, r, t, e1, e2, e3⟩ | ⟨h, _⟩
      · obtain ⟨dx3, _, _, _, _, _, _, hb3, _⟩ := id hB3
        refine ⟨sz_le (show 1 ≤ 16777216 by decide), view_new (VW.start (H := H3)) fun lt H4 v4 => ?_⟩
        exact hZ2 _ _ ⟨lt, p, r, t, rfl, newT_kb k3 hb3 (v4.own (lt, _) (.head _)), k3.trans (KB.of v4.fr), hB3.same v4.fr, TabsN.ext T3 v4.fr, v4.at_ (lt, _) (.head _), v4.fr _ _ e1, v4.fr _ _ e2, v4.fr _ _ e3⟩
      · cases h
    rintro σ2 H2 ⟨lt, t1, r, t, rfl, nlt, k2, hB2, hT2, hlt, ht1, hr, ht⟩
    have kb2 : KB b H H2 := (KB.of s1).trans k2
    obtain ⟨q0, q1, q2, q3, q4⟩ := st kb2
    have sh2 := sh1.keep (k2.ni hb1)
    obtain ⟨dx2, _, _, _, _, _, _, hb2, _⟩ := id hB2
    refine seq_q (fun σ' H' => σ' = [some (.ref b), some (.ref l), some (.ref hp), some (.ref a), some (.int (m : Nat)), some (.ref lt), none] ∧ Same H2 H') (fun D2 eD2 hZ2 => ?_) ?_
    · walk_at "s"
      refine ⟨b, r0, r1, w0, g0, ws, ps, us, rfl, hB2, q0, q1, by omega, fun l4 A4 s4 _ sh4 => ?_⟩
      exact ⟨_, _, sh4.dp, (sh2.keep fun a u _ _ h => s4 _ _ h).dp, shp_sh _ _ _ _, shp_sh _ _ _ _, .inl ⟨congrArg V.bl (by rw [sh_self]; rfl), hZ2 _ _ ⟨rfl, s4⟩⟩⟩
    rintro σ3 H3 ⟨rfl, s3⟩
    have hB3 := hB2.same s3
    have hT3 : TabsN base mg T H3 := hT2.ext s3
    refine seq_q (fun σ' H' => ∃ fo, σ' = [some (.ref b), some (.ref l), some (.ref hp), some (.ref a), some (.int (m : Nat)), some (.ref lt), some (.ref fo)] ∧ KB b H3 H' ∧ BenAt CR CB CM H' b r0 r1 ws ps us ∧ TabsN base mg T H' ∧ ((ps ++ qs = [] ∧ H' fo = some (.tup [.str "NothingLeft"])) ∨ (ps ++ qs ≠ [] ∧ H' fo = some (.tup [.str "BadTurn", .int 0])))) (fun D2 eD2 hZ2 => ?_) ?_
    · refine go (wy := 1) (i := 0) (j := 7) (it := 1) (kb2.trans (KB.of s3)) hB3 hT3 (fun Z H' z => ⟨_, rfl, z⟩) (fun H' Z z => ⟨_, rfl, _, rfl, _, rfl, z⟩) (fun p H4 k4 hB4 T4 e => ?_) (.inr rfl)
      rcases e with ⟨h, _⟩ | ⟨_, e⟩
      · cases h
      · exact hZ2 _ _ ⟨p, rfl, k4, hB4, T4, e⟩
    rintro σ4 H4 ⟨fo, rfl, k4, hB4, hT4, hfo⟩
    have kb4 : KB b H H4 := (kb2.trans (KB.of s3)).trans k4
    obtain ⟨dx4, _, _, _, _, _, _, hb4, _⟩ := id hB4
    have hb3 := s3 _ _ hb2
    have ltb : lt ≠ b := fun z => by rw [z, hb2] at hlt; cases hlt
    have hlt4 := k4 _ _ ltb rfl (s3 _ _ hlt)
    refine seq_q (fun σ' H' => ∃ t2 tq, σ' = [some (.ref b), some (.ref l), some (.ref hp), some (.ref a), some (.int (m : Nat)), some (.ref lt), some (.ref fo)] ∧ KB b H1 H' ∧ BenAt CR CB CM H' b r0 r1 ws ps us ∧ TabsN base mg T H' ∧ H' lt = some (.lst [.ref t1, .ref t2]) ∧ H' t2 = some (.lst [.ref tq]) ∧ H' tq = some (.tup ((foldT ws qs).map V.int)) ∧
      H' t1 = some (.lst [.ref r]) ∧ H' r = some (.lst [.bl true, .ref t, .int (m : Nat)]) ∧ H' t = some (.tup ((foldT ws qs).map V.int)) ∧ ((ps ++ qs = [] ∧ H' fo = some (.tup [.str "NothingLeft"])) ∨ (ps ++ qs ≠ [] ∧ H' fo = some (.tup [.str "BadTurn", .int 0])))) (fun D2 eD2 hZ2 => ?_) ?_
    · refine ⟨_, rfl, lt, rfl, _, hlt4, ?_⟩
      refine told_tried (CM := CM) (fun Z H' z => ⟨_, rfl, z⟩) hT4 (.inl hOw) N.br tr N.bm hB4 fun c1 P1 c2 P2 H5 Qx Ex eN T5 hc2 hB5 kv ke => ?_
      have fin : ∀ {tq : Addr} {H8 : Hp}, KB b H5 H8 → BenAt CR CB CM H8 b r0 r1 ws ps us → TabsN base mg T H8 → H8 tq = some (.tup ((foldT ws qs).map V.int)) → Qx (.ref tq) H8 := fun {tq H8} k8 hB8 T8 e8 => by
        refine kv _ H8 k8 hB8.bsh T8 fun p H9 af hB9 T9 hp9 => ?_
        obtain ⟨dx9, _, _, _, _, _, _, hb9, _⟩ := id hB9
        have hlt9 := af.kb _ _ ltb rfl hlt4
        have ni4 := af.kb.ni hb4
        have nI : ∀ {xs : List V} (C d : Addr) (fs : List (Str × V)), HO.lst xs ≠ .ins C d fs := fun _ _ _ z => by cases z
        have nI2 : ∀ {xs : List V} (C d : Addr) (fs : List (Str × V)), HO.tup xs ≠ .ins C d fs := fun _ _ _ z => by cases z
        have k19 : KB b H1 H9 := ((k2.trans (KB.of s3)).trans k4).trans af.kb
        have up : ∀ {a : Addr} {u : HO}, H9 a = some u → u ≠ .lst [.ref t1] → upd H9 lt (.lst [.ref t1, .ref p]) a = some u := fun {a u} h n => by
          rw [upd_ne (fun z => by rw [z, hlt9] at h; exact n (Option.some.inj h).symm)]
          exact h
        have n34 : NiK H2 H9 := fun a u nu nt h => ni4 _ _ nu nt ((k4.ni hb3) _ _ nu nt (s3 _ _ h))
        refine ⟨lt, _, rfl, rfl, _, hlt9, sz_lt (show 1 < 16777216 by decide), hZ2 _ _ ⟨p, tq, rfl, k19.put nlt, hB9.put hlt9, tabs_put (Tb := ⟨base, mg, T⟩) T9 hlt9, upd_same, up hp9 ?_, up (af.ni _ _ e8 nI2) (fun z => by cases z), up (n34 _ _ nI rfl ht1) ?_, up (n34 _ _ nI rfl hr) ?_, up (n34 _ _ nI2 rfl ht) (fun z => by cases z), ?_⟩⟩
        · intro z
          injection z with z
          injection z with z _
          injection z with z
          have e1 := af.ni _ _ e8 nI2
          rw [z, n34 _ _ nI rfl ht1] at e1
          cases e1
        · intro z
          injection z with z
          injection z with z _
          injection z with z
          have e1 := n34 _ _ nI rfl hr
          rw [z, n34 _ _ nI rfl ht1] at e1
          cases e1
        · intro z
          cases z
        · rcases hfo with ⟨e, h⟩ | ⟨e, h⟩
          · exact .inl ⟨e, up (ni4 _ _ nI2 rfl h) (fun z => by cases z)⟩
          · exact .inr ⟨e, up (ni4 _ _ nI2 rfl h) (fun z => by cases z)⟩
      refine tried_by T (CM := CM) (fun Z z => ⟨_, rfl, z⟩) T5 (.inr ⟨_, hc2⟩) N.br tr N.bm hB5 fun c3 P3 H6 Qy Ey e6 T6 hc3 hB6 kv2 ke2 => ?_
      obtain ⟨dx6, _, _, _, _, _, _, hb6, _⟩ := id hB6
      obtain ⟨_, _, q26, q36, _⟩ := st ((kb4.trans (KB.ofN eN)).trans (KB.ofN e6))
      have hT6 := TabsN.tail (TabsN.tail (TabsN.tail T6))
      refine ⟨_, rfl, b, dx6, _, rfl, hb6, rfl, _, rfl, ?_⟩
      show spDoAll K C CR CB CM [.ref b, .ref l] H6 Qy Ey
      refine ⟨b, r0, r1, .ref l, ws, ps, us, n, rfl, hB6, hw, n24, by omega, .inl ⟨l, _, xs, xs.length, qs, rfl, q26, .inl rfl, Nat.le_refl _, by omega, lx.symm, by rw [List.take_length]; exact q36, hG, .inl ⟨rfl, fun e q H7 s7 hq => ?_, fun e q H7 s7 hB7 hq => ?_⟩⟩⟩
      · refine kv2 _ H7 (KB.of s7) (hB6.same s7).bsh (TabsN.ext hT6 s7) fun H8 af hB8 T8 => ?_
        obtain ⟨dq, tq, e1, e2⟩ := af.row _ _ hq
        refine ⟨q, rfl, CR, dq, _, e1, R.cl, R.nW, _, rfl, fin af.kb hB8 T8 ?_⟩
        rw [e]
        exact e2
      · refine kv2 _ H7 (KB.ofX s7) hB7.bsh (TabsN.smx hT6 s7 hb6) fun H8 af hB8 T8 => ?_
        obtain ⟨dq, tq, e1, e2⟩ := af.row _ _ hq
        exact ⟨q, rfl, CR, dq, _, e1, R.cl, R.nW, _, rfl, fin af.kb hB8 T8 e2⟩
    rintro σ5 H5 ⟨t2, tq, rfl, k5, hB5, hT5, hlt5, ht25, htq5, ht15, hr5, ht5, hfo5⟩
    have kb5 : KB b H H5 := (KB.of s1).trans k5
    obtain ⟨p0, p1, p2, p3, p4⟩ := st kb5
    have sh5 := sh1.keep (k5.ni hb1)
    obtain ⟨dx5, _, _, _, _, _, _, hb5, _⟩ := id hB5
    refine seq_q (fun σ' H' => σ' = [some (.ref b), some (.ref l), some (.ref hp), some (.ref a), some (.int (m : Nat)), some (.ref lt), some (.ref fo)] ∧ Same H5 H') (fun D2 eD2 hZ2 => ?_) ?_
    · walk_at "s"
      have rest : ∀ {A : Hp}, Same H5 A → spShown CR CB CM [.ref b] A (fun x H1 => rNeD K x (.ref a) H1 fun x H' => x = V.bl false ∧ D2.nx [some (.ref b), some (.ref l), some (.ref hp), some (.ref a), some (.int (m : Nat)), some (.ref lt), some (.ref fo)] H' ∨ x = V.bl true ∧ D2.rt (V.bl false) H') E0 := fun {A} sA => by
        refine ⟨b, r0, r1, w0, g0, ws, ps, us, rfl, hB5.same sA, p0.same sA, p1.same sA, by omega, fun l4 A4 s4 _ sh4 => ?_⟩
        exact ⟨_, _, sh4.dp, (sh5.keep fun a u _ _ h => s4 _ _ (sA _ _ h)).dp, shp_sh _ _ _ _, shp_sh _ _ _ _, .inl ⟨congrArg V.bl (by rw [sh_self]; rfl), hZ2 _ _ ⟨rfl, Same.tr2 sA s4⟩⟩⟩
      rcases hfo5 with ⟨e, h⟩ | ⟨e, h⟩
      · have m0 : m = 0 := by rw [← hm, e]; rfl
        rw [if_neg (by omega)]
        refine ⟨sz_le (by decide), view_tup (VW.start (H := H5)) fun u1 A1 v1 => ?_⟩
        exact ⟨.tuple [.str "NothingLeft"], .tuple [.str "NothingLeft"], .tup (SqT.of (v1.fr _ _ h)) (.cons (.str _) .nil), .tup (SqT.of (v1.tu (u1, _) (.head _))) (.cons (.str _) .nil), by decide +kernel, by decide +kernel, .inl ⟨congrArg V.bl (by decide +kernel), rest v1.fr⟩⟩
      · have m0 : 0 < m := by
          rw [← hm]
          exact List.length_pos_iff.mpr e
        rw [if_pos m0]
        refine ⟨sz_le (by decide), view_tup (VW.start (H := H5)) fun u1 A1 v1 => ?_⟩
        exact ⟨.tuple [.str "BadTurn", .int 0], .tuple [.str "BadTurn", .int 0], .tup (SqT.of (v1.fr _ _ h)) (.cons (.str _) (.cons (.int _) .nil)), .tup (SqT.of (v1.tu (u1, _) (.head _))) (.cons (.str _) (.cons (.int _) .nil)), by decide +kernel, by decide +kernel, .inl ⟨congrArg V.bl (by decide +kernel), rest v1.fr⟩⟩
    rintro σ6 H6 ⟨rfl, s6⟩
    walk_at "s"
    refine ⟨sz_le (show 3 ≤ 16777216 by decide), view_new (VW.start (H := H6)) fun u1 A1 v1 => ⟨sz_le (show 1 ≤ 16777216 by decide), view_new v1 fun u2 A2 v2 => ⟨sz_le (show 1 ≤ 16777216 by decide), view_new v2 fun u3 A3 v3 => ⟨sz_le (show 2 ≤ 16777216 by decide), view_new v3 fun u4 A4 v4 => ?_⟩⟩⟩⟩
    have up : ∀ {a : Addr} {o : HO}, H5 a = some o → A4 a = some o := fun h => v4.fr _ _ (s6 _ _ h)
    have d1 : ∀ {a : Addr}, A4 a = some (.tup ((foldT ws qs).map V.int)) → Dp K A4 (.ref a) (.tuple ((foldT ws qs).map PyData.int)) := fun h => .tup (SqT.of h) (dp_ints _)
    have d2 : ∀ {a t : Addr}, A4 a = some (.lst [.bl true, .ref t, .int (m : Nat)]) → A4 t = some (.tup ((foldT ws qs).map V.int)) → Dp K A4 (.ref a) (.list [.bool true, .tuple ((foldT ws qs).map PyData.int), .int (m : Nat)]) := fun h h2 => .lst (SqL.of h) (.cons (.bl _) (.cons (d1 h2) (.cons (.int _) .nil)))
    refine ⟨_, _, .lst (SqL.of (up hlt5)) (.cons (.lst (SqL.of (up ht15)) (.cons (d2 (up hr5) (up ht5)) .nil)) (.cons (.lst (SqL.of (up ht25)) (.cons (d1 (up htq5)) .nil)) .nil)),
      .lst (SqL.of (v4.at_ (u4, _) (.head _))) (.cons (.lst (SqL.of (v4.at_ (u2, _) (.tail _ (.tail _ (.head _))))) (.cons (d2 (v4.at_ (u1, _) (.tail _ (.tail _ (.tail _ (.head _))))) (up p4)) .nil)) (.cons (.lst (SqL.of (v4.at_ (u3, _) (.tail _ (.head _)))) (.cons (d1 (up p4)) .nil)) .nil)), shp_tri _ _, shp_tri _ _, ?_⟩
    rw [SeqAt.eqv_refl _ (SeqAt.canLay_of_shaped (shp_tri _ _))]
    have s7 := Same.tr2 s6 v4.fr
    exact k A4 (kb5.trans (KB.of s7)) (hB5.same s7) (TabsN.ext hT5 s7)
end
end Fab
set_option maxHeartbeats 4000000
namespace Fab
open PySem L2 PySem.FabX
open PyProof.Rows (envOfC)
abbrev sAga : Stmt := top 80
local macro_rules | `(tactic| walk_at "s") => `(tactic| simp [tPar, tProp, tFldF, sFldF, putF, tSeq, tAsg, tOp, tUn, tVar, tC, gName, tCons, tNil, tCB, tCall, rI, rI0, rU, tRet, tDrop, tIfS, tNext, tIf, tTest, tNot, tOr, tAnd, tB, L2.start, CMul, CDiv, rIxF, rLenF, rIntF, sq_lst, sq_tup, tLstF, tTupF, gSub, rCatF, rCatTF, rInF, rNe, rEq, tAndV, tOrV, tNotV, tChain, rTupF, rListF, tFldF, tRx, tMake, tMeth, tSl, tPart, tNoPart, rSlTF, rSlF, tRevTF, gTup, gCons, gNil, rIsB, rNotB, tLM, rAppF, tLstRgF, tRg2, tLstRg, iRng1, iRng2])
section
variable {P' : Program} {w : World} {K : PySem.W.Frag} {mg : Str → Option Value} {base : Heap} {C : Kd → Addr} {CF CR CB CM CK CT : Addr}
/-- all but the draws, the bench and the tables stays -/
def KM (m g b : Addr) (H H' : Hp) : Prop := ∀ a u, a ≠ m → a ≠ g → a ≠ b → noTbl u = true → H a = some u → H' a = some u
theorem KM.kn {m g b : Addr} {H H' : Hp} (k : Kn m g H H') : KM m g b H H' := fun a u n1 n2 _ n4 h => k a u h n1 n2 n4
theorem KM.kb {m g b : Addr} {H H' : Hp} (k : KB b H H') : KM m g b H H' := fun a u _ _ n3 n4 h => k a u n3 n4 h
theorem KM.trans {m g b : Addr} {H H1 H2 : Hp} (k : KM m g b H H1) (l : KM m g b H1 H2) : KM m g b H H2 := fun a u n1 n2 n3 n4 h => l a u n1 n2 n3 n4 (k a u n1 n2 n3 n4 h)
theorem shp_lp (ps : List (Nat × Nat)) : SeqAt.shaped (.list (prD ps)) = true := by
  obtain ⟨h1, h2⟩ := prD_layB ps
  show (PyData.canLay0 _ && decide (PyData.depth _ ≤ 64)) = true
  rw [show PyData.canLay0 (.list (prD ps)) = true from by rw [PyData.canLay0]; exact h1, Bool.true_and]
  exact decide_eq_true (by rw [PyData.depth]; omega)
theorem rne_same {H : Hp} {Q : VK} {E : XK} {a b : Addr} {ws : List Int} (h1 : RowAt CR H a (ws.map V.int)) (h2 : RowAt CR H b (ws.map V.int)) (q : Q (.bl false) H) : rNeO CR (spREq CR) E (.ref a) (.ref b) H Q := by
  obtain ⟨d1, t1, g1, _⟩ := id h1
  obtain ⟨d2, t2, g2, _⟩ := id h2
  refine ⟨a, b, d1, d2, _, _, rfl, rfl, g1, g2, a, b, ws, ws, rfl, h1, h2, _, rfl, ?_⟩
  rw [SeqAt.eqv_refl _ (SeqAt.canLay_of_shaped (shp_ti ws))]
  exact q
def spAga (CR CB CM : Addr) (Tb : TbN) : Sp := fun vs H Q _ => ∃ (m c g b r0 r1 : Addr) (cs : List Int) (w0 g0 ws : List Int) (ps us : List (Nat × Nat)) (N n : Nat), vs = [.ref m, .ref b, .int (n : Nat)] ∧ DS m c g cs Tb N H ∧ N < 2 ^ 35 ∧ BenAt CR CB CM H b r0 r1 ws ps us ∧ RowAt CR H r0 (w0.map V.int) ∧ RowAt CR H r1 (g0.map V.int) ∧ IsRow ws n ∧ 1 ≤ n ∧ n ≤ 24 ∧ ps.length ≤ 400 ∧ us.length ≤ 400 ∧ GdP n ps ∧ GdP n us ∧
  ∀ H' ws' ps' us', KM m g b H H' → DS m c g cs Tb (N + 1) H' → BenAt CR CB CM H' b r0 r1 ws' ps' us' → IsRow ws' n → GdP n ps' → GdP n us' → ps'.length = ps.length → us'.length ≤ us.length → Q (.bl true) H'
theorem scAga : FnScope ["m", "bench", "many", "lots", "ahead", "undone", "n", "told"] ["m", "bench", "many"] (defScope sAga) := ⟨rfl, rfl, rfl, by decide +kernel, rfl, by decide +kernel, by decide +kernel⟩
theorem ok_aga {T : TbL} {c Pt f g fC fS fD fB fE fX gT fA fO fUn fRe fR fQ : Addr} {pr : Addr} {fdC fdS fdD fdB fdE fdX fdA fdO fdUn fdRe fdR fdQ fdN : FuncData} {fN : Addr} {oc kV doc pm ct oc1 kV1 doc1 pm1 ct1 cdv1 oc2 kV2 doc2 pm2 ct2 cdT : Value} {an od an1 od1 an2 od2 : Option Addr} {osl osl1 osl2 : Array (Option Value)} (B : Blt mg) (R : RowC K mg CR) (N : BenC K mg CR CB CM) (TC : TriC K mg CB CM CK CT) (tr : CT ≠ CR) (XE : Exs K mg CF C)
    (HD : DL K mg "_law_told" sTold g cdv1 ["call"] oc1 kV1 doc1 pm1 ct1 an1 od1 osl1) (cClass : Dn P' w K mg base 1 "_law_class" fC fdC ["error"] (spClass C)) (cShown : Dn P' w K mg base 3 "_law_shown" fS fdS ["bench"] (spShown CR CB CM)) (cDraw : Dn P' w K mg base 2 "_law_draw" fD fdD ["m", "limit"] spDraw)
    (FDa : FnOk P' w K mg base (L2.CX P' w) 7 fA fdA ["self", "turnings"] (spDoAll K C CR CB CM)) (MDa : Meth K CB "do_all" fA) (bDa : Binds K fdA ["self", "turnings"] []) (FDo : FnOk P' w K mg base (L2.CX P' w) 6 fO fdO ["self", "turning"] (spDo K C CR CB CM)) (MDo : Meth K CB "do" fO) (bDo : Binds K fdO ["self", "turning"] [])
    (FUn : FnOk P' w K mg base (L2.CX P' w) 6 fUn fdUn ["self"] (spUndo C CR CB CM)) (MUn : Meth K CB "undo" fUn) (bUn : Binds K fdUn ["self"] []) (FRe : FnOk P' w K mg base (L2.CX P' w) 6 fRe fdRe ["self"] (spRedo C CR CB CM)) (MRe : Meth K CB "redo" fRe) (bRe : Binds K fdRe ["self"] [])
    (PRow : PropOf K CB "row" pr fR) (FRow : FnOk P' w K mg base CX0 1 fR fdR ["self"] (spBRow CR CB CM)) (bRow : Binds K fdR ["self"] []) (FBLen : FnOk P' w K mg base CX0 1 fN fdN ["self"] (spBLen CR CB CM)) (BL : OpM K CB "__len__" fN fdN ["self"])
    (FEq : FnOk P' w K mg base CX0 1 fQ fdQ ["self", "other"] (spREq CR)) (REq : OpM K CR "__eq__" fQ fdQ ["self", "other"]) (hne : PySem.W.findIn K (.ref CR) "__ne__" = some (some (.builtin "object.__ne__")))
    (TD : DL K mg "tried" sTried gT cdT ["bench", "function"] oc2 kV2 doc2 pm2 ct2 an2 od2 osl2) (TP : TrP P' w K mg base CB CK CT fB fE fX fdB fdE fdX)
    (hOw : PySem.W.CodeHd base c Pt) (hmT : (Pt, ("_law_again_right" : Str) ++ ".<locals>." ++ "<lambda>") ∈ T) (D : DL K mg "_law_again_right" sAga f (.ref c) ["m", "bench", "many"] oc kV doc pm ct an od osl) :
    FnOk P' w K mg base CX0 16 f (PySem.W.fnOf "_law_again_right" "_law_again_right" (defArgs sAga) (defBody sAga) (defScope sAga) .none kV doc pm an (.ref c) ct) ["m", "bench", "many"] (spAga CR CB CM ⟨base, mg, T⟩) := by
  refine fnLo D.lk D.cd scAga (fun vs H Q E h => ?_) (fun A outer s H vs Q E hr h => ⟨_, (pss_cons (ps_par (i := 3) (j := 4) (by rfl) scAga.nd rfl rfl (by decide) rfl rfl (pa_cons (pe_call cDraw.ok (hr.mono (by decide)) rfl cDraw.mgf cDraw.kp cDraw.bi .nil pass0 (pa_cons (pv 0) (pa_cons (pe_op op_add pe_int (pe_callB (call_lenO FBLen BL.at_ BL.fn (hr.mono (by decide)) BL.bi pass0) (by rfl) B.len (by decide +kernel) (pa_cons (pv 1) pa_nil))) pa_nil))) (pa_cons (pe_call cShown.ok (hr.mono (by decide)) rfl cShown.mgf cShown.kp cShown.bi .nil pass0 (pa_cons (pv 1) pa_nil)) pa_nil)) (by rfl))
      (pss_cons (ps_setLc (i := 5) (own := [("n", 6)]) (tt := tYes) rfl scAga.nd rfl rfl (sw_true rfl rfl rfl (by decide +kernel)) (pi_range1 (by rfl) B.range (pa_cons (pv 3) pa_nil)) (blkOk_by (own := [("n", 6)]) (N := ["m", "bench", "many", "lots", "ahead", "undone", "n", "told"]) (sc := defScope sAga) (by decide +kernel)) (fun _ _ _ _ _ => (pg_name (i := 6) scAga.nd rfl (by first | exact Or.inl rfl | exact Or.inr rfl))) (fun _ _ _ _ _ => pts_nil) (fun _ _ _ _ _ => (pe_meth0 (pv 1) N.cl MUn FUn (hr.mono (by decide)) bUn .nil (E := fun _ _ _ => False) (passes_call LamX.takes0 (fun _ _ _ _ h => h)))))
      (pss_cons (ps_set (i := 7) scAga.nd rfl (by first | exact Or.inl rfl | exact Or.inr rfl) (pe_lstF (pa_cons (pe_lamN (k := 8) (T := T) (P := Pt) (TT := TTt C) (t := fun c1 P1 E1 => (tMeth CB "do_all" (spDoAll K C CR CB CM) [] E1 (tVar 1) (tCons (tLstF (tCons (tTupF (tCons (tC (V.int 0)) (tCons (tC (V.int 0)) tNil))) (tCons (tC V.non) tNil))) tNil))) (by rfl) HD.mgf HD.kp HD.lk HD.cd HD.bi scTold rfl (by first | exact .inl rfl | exact .inr rfl | rfl) (told_gives XE B cClass (hr.mono (by decide))) rfl hmT (hr.mono (by decide)) (laS_by (o := none) (around := defScope sAga) (by decide +kernel)) rfl (fun _ _ _ _ _ => rfl) (fun A1 outer1 s1 H1 E1 f1 c1 P1 hr1 => (pe_meth (E := E1) (pv 1) N.cl MDa FDa (hr1.mono (by decide)) bDa .nil (passes_call (takes_of rfl rfl rfl rfl) (fun _ _ _ _ h => h)) (pa_cons (pe_lstF (pa_cons (pe_tupF (pa_cons pe_int (pa_cons pe_int pa_nil))) (pa_cons pe_non pa_nil))) pa_nil)))) (pa_cons (pe_lamND (k := 8) (T := T) (P := Pt) (TT := TTt C) (y := "n") (n := 0) (t := fun c1 P1 E1 => (tMeth CB "do" (spDo K C CR CB CM) [] E1 (tVar 1) (tCons (tTupF (tCons (tC (V.int 0)) (tCons (tVar 2) tNil))) tNil))) (by rfl) HD.mgf HD.kp HD.lk HD.cd HD.bi scTold rfl (by first | exact .inl rfl | exact .inr rfl | rfl) (told_gives XE B cClass (hr.mono (by decide))) rfl hmT (hr.mono (by decide)) (laS_by (o := some "n") (around := defScope sAga) (by decide +kernel)) rfl rfl (fun _ _ _ _ _ _ => ⟨_, rfl, fun _ => rfl⟩) (fun A1 outer1 s1 H1 E1 f1 c1 P1 hr1 => (pe_meth (E := E1) (pv 1) N.cl MDo FDo (hr1.mono (by decide)) bDo .nil (passes_call (takes_of rfl rfl rfl rfl) (fun _ _ _ _ h => h)) (pa_cons (pe_tupF (pa_cons pe_int (pa_cons (pv 2) pa_nil))) pa_nil)))) pa_nil))))
      (pss_cons (ps_expr (pe_lm PySem.F.slot_list_append PySem.F.type_list_append appF (pv 7) (pa_cons (pe_lamN (k := 10) (T := T) (P := Pt) (TT := TTt C) (t := fun c1 P1 E1 => tLamT base mg c1 P1 ((P1, qIn (("_law_again_right" : Str) ++ ".<locals>." ++ "<lambda>")) :: T) (qIn (("_law_again_right" : Str) ++ ".<locals>." ++ "<lambda>")) E1 (TTr CB CK CT) (tVar 1) (fun c2 P2 E2 => tOp rIxF (tLstF (tCons (tMeth CB "do" (spDo K C CR CB CM) [] E2 (tVar 8) (tCons (tTupF (tCons (tC (V.int 0)) (tCons (tC (V.int 0)) tNil))) tNil)) (tCons (tMeth CB "undo" (spUndo C CR CB CM) [] E2 (tVar 8) tNil) (tCons (tMeth CB "redo" (spRedo C CR CB CM) [] E2 (tVar 8) tNil) tNil)))) (tC (V.int 1)))) (by rfl) HD.mgf HD.kp HD.lk HD.cd HD.bi scTold rfl (by first | exact .inl rfl | exact .inr rfl | rfl) (told_gives XE B cClass (hr.mono (by decide))) rfl hmT (hr.mono (by decide)) (laS_by (o := none) (around := defScope sAga) (by decide +kernel)) rfl (fun _ _ _ _ _ => rfl) (fun A1 outer1 s1 H1 E1 f1 c1 P1 hr1 => (pe_lamT (k := 8) (y := "one") (T := ((P1, qIn (("_law_again_right" : Str) ++ ".<locals>." ++ "<lambda>")) :: T)) (P := P1) (E := E1) (TT := TTr CB CK CT) (t := fun c2 P2 E2 => tOp rIxF (tLstF (tCons (tMeth CB "do" (spDo K C CR CB CM) [] E2 (tVar 8) (tCons (tTupF (tCons (tC (V.int 0)) (tCons (tC (V.int 0)) tNil))) tNil)) (tCons (tMeth CB "undo" (spUndo C CR CB CM) [] E2 (tVar 8) tNil) (tCons (tMeth CB "redo" (spRedo C CR CB CM) [] E2 (tVar 8) tNil) tNil)))) (tC (V.int 1))) (by rfl) TD.mgf TD.kp TD.lk TD.cd TD.bi scTried rfl (by first | exact .inl rfl | exact .inr rfl | rfl) (tried_gives N TC TP.mB TP.FB TP.bB TP.mE TP.mX TP.FE TP.bE TP.FX TP.bX (hr1.mono (by decide))) rfl (.head _) (hr1.mono (by decide)) (laS_by (o := some "one") (by kernel_rfl)) (show ("one" : Str) ∉ (["m", "bench", "many", "lots", "ahead", "undone", "n", "told"] : List Str) by decide) rfl (passes_call (takes_of rfl rfl rfl rfl) (fun _ _ _ _ h => h)) (fun _ _ _ _ _ _ => rfl) (pv 1) (fun A2 outer2 s2 H2 E2 f2 c2 P2 hr2 => (pe_ix ixF (pe_lstF (pa_cons (pe_meth (E := E2) (pv 8) N.cl MDo FDo (hr2.mono (by decide)) bDo .nil (passes_call (takes_of rfl rfl rfl rfl) (fun _ _ _ _ h => h)) (pa_cons (pe_tupF (pa_cons pe_int (pa_cons pe_int pa_nil))) pa_nil)) (pa_cons (pe_meth0 (E := E2) (pv 8) N.cl MUn FUn (hr2.mono (by decide)) bUn .nil (passes_call (takes_of rfl rfl rfl rfl) (fun _ _ _ _ h => h))) (pa_cons (pe_meth0 (E := E2) (pv 8) N.cl MRe FRe (hr2.mono (by decide)) bRe .nil (passes_call (takes_of rfl rfl rfl rfl) (fun _ _ _ _ h => h))) pa_nil)))) pe_int (fun _ _ => rfl)))))) pa_nil)))
      (pss_cons (ps_if (PW.pt (pw_or (pt_cmpR (op_neD hr.units) (pv 7) (pe_lstF (pa_cons (pe_tupF (pa_cons pe_str (pa_cons pe_int pa_nil))) (pa_cons (pe_tupF (pa_cons pe_str (pa_cons pe_int pa_nil))) (pa_cons (pe_lstF (pa_cons (pe_tupF (pa_cons pe_int (pa_cons pe_int pa_nil))) pa_nil)) pa_nil)))) (nomark _)) (pw_or1 (pt_cmpR (op_neO FEq REq.at_ REq.fn hne R.hm (hr.mono (by decide)) REq.bi pass0) (pe_meth (pv 1) N.cl MDa FDa (hr.mono (by decide)) bDa .nil (E := fun _ _ _ => False) (passes_call LamX.takes0 (fun _ _ _ _ h => h)) (pa_cons (pe_tupF pa_nil) pa_nil)) (pe_prop (pv 1) N.cl PRow FRow (hr.mono (by decide)) bRow .nil pass0 (by rfl)) (nomark _))))) (pss_one (ps_ret pe_bl)) pss_nil)
      (pss_cons (ps_if (PW.pt (pw_or (pt_cmpR (op_neD hr.units) (pe_lc (own := [("n", 6)]) (tt := tYes) rfl scAga.nd (pi_range1 (by rfl) B.range (pa_cons (pv 3) pa_nil)) (blkOk_by (own := [("n", 6)]) (N := ["m", "bench", "many", "lots", "ahead", "undone", "n", "told"]) (sc := defScope sAga) (by decide +kernel)) (fun _ _ _ _ _ => (pg_name (i := 6) scAga.nd rfl (by first | exact Or.inl rfl | exact Or.inr rfl))) (fun _ _ _ _ _ => pts_nil) (fun _ _ _ _ _ => (pe_meth0 (pv 1) N.cl MRe FRe (hr.mono (by decide)) bRe .nil (E := fun _ _ _ => False) (passes_call LamX.takes0 (fun _ _ _ _ h => h))))) (pe_revF (pv 5)) (nomark _)) (pw_or1 (pt_cmpR (op_neD hr.units) (pe_call cShown.ok (hr.mono (by decide)) rfl cShown.mgf cShown.kp cShown.bi .nil pass0 (pa_cons (pv 1) pa_nil)) (pv 4) (nomark _))))) (pss_one (ps_ret pe_bl)) pss_nil)
      (pss_cons (ps_if (pt_cmpR op_gt (pv 3) pe_int (nomark _)) (pss_cons (ps_expr (pe_meth0 (pv 1) N.cl MUn FUn (hr.mono (by decide)) bUn .nil (E := fun _ _ _ => False) (passes_call LamX.takes0 (fun _ _ _ _ h => h))))
      (pss_cons (ps_expr (pe_meth (pv 1) N.cl MDa FDa (hr.mono (by decide)) bDa .nil (E := fun _ _ _ => False) (passes_call LamX.takes0 (fun _ _ _ _ h => h)) (pa_cons (pe_lstF (pa_cons (pe_tupF (pa_cons pe_int (pa_cons pe_int pa_nil))) pa_nil)) pa_nil)))
      (pss_one (ps_if (pt_cmpR (op_neD hr.units) (pe_lamN (k := 8) (T := T) (P := Pt) (TT := TTt C) (t := fun c1 P1 E1 => (tMeth CB "redo" (spRedo C CR CB CM) [] E1 (tVar 1) tNil)) (by rfl) HD.mgf HD.kp HD.lk HD.cd HD.bi scTold rfl (by first | exact .inl rfl | exact .inr rfl | rfl) (told_gives XE B cClass (hr.mono (by decide))) rfl hmT (hr.mono (by decide)) (laS_by (o := none) (around := defScope sAga) (by decide +kernel)) rfl (fun _ _ _ _ _ => rfl) (fun A1 outer1 s1 H1 E1 f1 c1 P1 hr1 => (pe_meth0 (E := E1) (pv 1) N.cl MRe FRe (hr1.mono (by decide)) bRe .nil (passes_call (takes_of rfl rfl rfl rfl) (fun _ _ _ _ h => h))))) (pe_tupF (pa_cons pe_str pa_nil)) (nomark _)) (pss_one (ps_ret pe_bl)) pss_nil)))) pss_nil)
      (pss_one (ps_ret pe_bl))))))))), ?_⟩)
  · obtain ⟨m, c, g, b, r0, r1, cs, w0, g0, ws, ps, us, Nd, n, rfl, _⟩ := h
    rfl
  · obtain ⟨m, c0, g0', b, r0, r1, cs, w0, g0, ws, ps, us, Nd, n, rfl, hD, hN, hB, h0, h1, hw, n1, n24, lp, lu, hps, hus, k⟩ := h
    obtain ⟨dx, mo, _, _, _, _, _, hb, _⟩ := id hB
    obtain ⟨_, _, _, hmm, hgg, hcc, _⟩ := id hD
    have bm : b ≠ m := fun z => by rw [z, hmm] at hb; unfold dm at hb; cases hb
    have bg : b ≠ g0' := fun z => by rw [z, hgg] at hb; cases hb
    refine seq_q (fun σ' H' => ∃ (lots : Nat) (a : Addr), σ' = [some (.ref m), some (.ref b), some (.int (n : Nat)), some (.int (lots : Nat)), some (.ref a), none, none, none] ∧ lots ≤ ps.length ∧ Kn m g0' H H' ∧ DS m c0 g0' cs ⟨base, mg, T⟩ (Nd + 1) H' ∧ BenAt CR CB CM H' b r0 r1 ws ps us ∧ ShAt H' a w0 g0 ws ps) (fun D2 eD2 hZ2 => ?_) ?_
    · walk_at "s"
      refine ⟨b, dx, _, rfl, hb, b, r0, r1, ws, ps, us, rfl, hB, ?_⟩
      refine ⟨_, rfl, by omega, by omega, _, rfl, draw_ds hD (by omega) (by omega) (by omega) fun r A1 q0 q1 d1 k1 => ?_⟩
      obtain ⟨r, rfl⟩ := Int.eq_ofNat_of_zero_le q0
      refine ⟨b, r0, r1, w0, g0, ws, ps, us, rfl, hB.kn hD k1, rowAt_kn hD k1 h0, rowAt_kn hD k1 h1, by omega, fun a A2 t2 _ sh => ?_⟩
      exact ⟨_, _, ⟨rfl, rfl⟩, hZ2 _ _ ⟨r, a, rfl, by omega, k1.trans (Kn.of t2), d1.same t2, (hB.kn hD k1).same t2, sh⟩⟩
    rintro σ1 H1 ⟨lots, a, rfl, hlo, k1, hD1, hB1, sh1⟩
    have h01 := rowAt_kn hD k1 h0
    have h11 := rowAt_kn hD k1 h1
    obtain ⟨dx1, _, _, _, _, _, _, hb1, _⟩ := id hB1
    have lr : ps.reverse.length = ps.length := List.length_reverse
    have gr : GdP n ps.reverse := fun p hp => hps p (List.mem_reverse.mp hp)
    have hwU : ∀ i, IsRow (foldT ws (ps.reverse.take i)) n := fun i => foldT_row hw fun p hp => gr p (List.mem_of_mem_take hp)
    -- one more is undone
    have und : ∀ {i : Nat} {H2 : Hp} {Z : VK} {E' : XK}, i < ps.length → BenAt CR CB CM H2 b r0 r1 (foldT ws (ps.reverse.take i)) (ps.take (ps.length - i)) (us ++ ps.reverse.take i) → (∀ t H', SmX b H2 H' → BenAt CR CB CM H' b r0 r1 (foldT ws (ps.reverse.take (i + 1))) (ps.take (ps.length - (i + 1))) (us ++ ps.reverse.take (i + 1)) → (∃ q, ps.reverse[i]? = some q ∧ H' t = some (.tup [.int (q.1 : Nat), .int (q.2 : Nat)])) → Z (.ref t) H') → spUndo C CR CB CM [.ref b] H2 Z E' := by
      intro i H2 Z E' hi hB2 kz
      have hir : i < ps.reverse.length := by omega
      have et : ps.reverse.take (i + 1) = ps.reverse.take i ++ [ps.reverse[i]] := (List.take_append_getElem hir).symm
      have e1 : ps.take (ps.length - i) = ps.take (ps.length - (i + 1)) ++ [ps.reverse[i]] := by
        have : ps.length - i = ps.length - (i + 1) + 1 := by omega
        rw [this, List.getElem_reverse]
        have : ps.length - (i + 1) < ps.length := by omega
        rw [← List.take_append_getElem this]
        congr 3
        omega
      refine ⟨b, r0, r1, _, _, _, n, rfl, hB2, hwU i, n24, by rw [List.length_take]; omega, by rw [List.length_append, List.length_take]; omega, fun p hp => hps p (List.mem_of_mem_take hp), fun e => ?_, fun qs x y e t H' s' hB' ht => ?_⟩
      · rw [e1] at e
        simp at e
      · rw [e1] at e
        obtain ⟨e2, e3⟩ := List.append_inj' e rfl
        have e3 := (List.cons.inj e3).1
        refine kz t H' s' ?_ ⟨ps.reverse[i], List.getElem?_eq_getElem hir, by rw [e3]; exact ht⟩
        rw [et, foldT_snoc, e3, ← List.append_assoc, e2]
        exact hB'
    refine seq_q (fun σ' H' => ∃ (u : Addr) (vs : List V), σ' = [some (.ref m), some (.ref b), some (.int (n : Nat)), some (.int (lots : Nat)), some (.ref a), some (.ref u), none, none] ∧ SmX b H1 H' ∧ BenAt CR CB CM H' b r0 r1 (foldT ws (ps.reverse.take lots)) (ps.take (ps.length - lots)) (us ++ ps.reverse.take lots) ∧ H1 u = none ∧ H' u = some (.lst vs) ∧ PrL H' vs (ps.reverse.take lots)) (fun D2 eD2 hZ2 => ?_) ?_
    · refine ⟨_, rfl, _, rfl, by omega, by omega, fun D hD' => ?_⟩
      rw [Int.toNat_natCast]
      have Db : D ≠ b := fun z => by rw [z, hb1] at hD'; cases hD'
      refine lc_it (walk_range (lo := 0) (n := lots)) (fun i H' => SmX b H1 H' ∧ BenAt CR CB CM H' b r0 r1 (foldT ws (ps.reverse.take i)) (ps.take (ps.length - i)) (us ++ ps.reverse.take i) ∧ ∃ vs, H' D = some (.lst vs) ∧ PrL H' vs (ps.reverse.take i)) ?_ (fun _ _ _ _ => True.intro) ?_ ?_
      · refine ⟨SmX.of (Same.new hD'), ?_, [], upd_same, .nil⟩
        rw [List.take_zero, List.append_nil, Nat.sub_zero, List.take_length]
        exact hB1.same (Same.new hD')
      · rintro i x H2 H3 hi ⟨s2, hB2, vs, hv, hP⟩ ⟨rfl, rfl⟩
        obtain ⟨dx2, _, _, _, _, _, _, hb2, _⟩ := id hB2
        have lv := hP.len
        have hir : i < ps.reverse.length := by omega
        have et : ps.reverse.take (i + 1) = ps.reverse.take i ++ [ps.reverse[i]] := (List.take_append_getElem hir).symm
        refine ⟨rfl, yes_if ⟨_, rfl, b, dx2, _, rfl, hb2, rfl, ?_⟩⟩
        simp only [tNil, List.append_nil]
        refine und (by omega) hB2 fun t H' s' hB' ht => ?_
        obtain ⟨q, hq, ht⟩ := ht
        rw [List.getElem?_eq_getElem hir] at hq
        have hq := Option.some.inj hq
        subst hq
        have hv' := s' _ _ Db hv
        have kl : ∀ {c : Addr} {zs : List V}, H' c = some (.tup zs) → upd H' D (.lst (vs ++ [.ref t])) c = some (.tup zs) := fun {c zs} h => by rw [upd_ne (fun z => by rw [z, hv'] at h; cases h)]; exact h
        refine ⟨_, hv', sz_lt (by rw [lv, List.length_take]; omega), fun c u n3 h => ?_, hB'.put hv', _, upd_same, ?_⟩
        · rw [upd_ne (fun z => by rw [z, hD'] at h; cases h)]
          exact s' _ _ n3 (s2 _ _ n3 h)
        · rw [et]
          exact PrL.snoc (Paired.mapP hP fun _ _ ⟨c, e, hc⟩ => ⟨c, e, kl (s' _ _ (fun z => by rw [z, hb2] at hc; cases hc) hc)⟩) (kl ht)
      · rintro H' ⟨s2, hB2, vs, hv, hP⟩
        exact hZ2 _ _ ⟨D, vs, rfl, s2, hB2, hD', hv, hP⟩
    rintro σ2 H2 ⟨u, vs, rfl, s2, hB2, nu, hu, hP2⟩
    obtain ⟨dx2, _, _, _, _, _, _, hb2, _⟩ := id hB2
    have hT2 : TabsN base mg T H2 := TabsN.smx hD1.tabs s2 hb1
    have hw2 := hwU lots
    have lp2 : (ps.take (ps.length - lots)).length ≤ 400 := by rw [List.length_take]; omega
    generalize hps2 : ps.take (ps.length - lots) = ps2 at hB2 lp2
    generalize hus2 : us ++ ps.reverse.take lots = us2 at hB2
    generalize hws2 : foldT ws (ps.reverse.take lots) = ws2 at hB2 hw2
    refine seq_q (fun σ' H' => ∃ lt p1 p2 : Addr, σ' = [some (.ref m), some (.ref b), some (.int (n : Nat)), some (.int (lots : Nat)), some (.ref a), some (.ref u), none, some (.ref lt)] ∧ KB b H2 H' ∧ BenAt CR CB CM H' b r0 r1 ws2 ps2 us2 ∧ TabsN base mg T H' ∧ NewT H2 lt ∧ H' lt = some (.lst [.ref p1, .ref p2]) ∧ H' p1 = some (.tup [.str "BadTurn", .int 1]) ∧ H' p2 = some (.tup [.str "BadTurn", .int 0])) (fun D2 eD2 hZ2 => ?_) ?_
    · refine told_anyN hT2 (.inl hOw) fun c1 P1 A1 Qx eN T1 hc1 hx => ?_
      have hBA := hB2.extN eN
      obtain ⟨dxA, _, _, _, _, _, _, hbA, _⟩ := id hBA
      walk_at "s"
      refine ⟨dxA, _, hbA, (by intro a b hm; simp at hm; rcases hm with ⟨rfl, _⟩ | ⟨rfl, _⟩ | ⟨rfl, _⟩ <;> decide), sz_le (by decide), view_tup (VW.start (H := A1)) fun z1 A2 v2 => ⟨sz_le (show 2 ≤ 16777216 by decide), view_new v2 fun z2 A3 v3 => ?_⟩⟩
      refine ⟨b, r0, r1, .ref z2, ws2, ps2, us2, n, rfl, hBA.same v3.fr, hw2, n24, by omega, .inl ⟨z2, _, _, 1, [(0, 0)], rfl, v3.at_ (z2, _) (.head _), .inl rfl, by simp, by simp, rfl, .cons ⟨z1, rfl, v3.tu (z1, _) (.head _)⟩ .nil, fun p hp => by rw [List.mem_singleton.mp hp]; exact ⟨Nat.le_refl _, by show 0 < n; omega⟩, .inr ⟨.non, none, rfl, fun H' s' => .inl ⟨_, .base .non, kit_ty (by decide +kernel)⟩, rfl, fun d A4 s4 hd => ⟨.turn, rfl, .inl ⟨rfl, d, _, rfl, hd, fun p1 A5 s5 hp1 => ?_⟩⟩⟩⟩⟩
      have s15 := Same.tr2 v3.fr (Same.tr2 s4 s5)
      have T5 : TabsN base mg T A5 := TabsN.ext (TabsN.tail T1) s15
      have hB5 := hBA.same s15
      refine ⟨fun i v e1 e2 => ?_, told_anyN T5 (.inl hOw) fun c1' P1' B1 Qy e6 T6 hc6 hy => ?_⟩
      · have hi : i < 8 := (List.getElem?_eq_some_iff.mp e1).1
        have h6 : ∀ i, i < 8 → (["m", "bench", "many", "lots", "ahead", "undone", "n", "told"] : List Str)[i]? = some ("n" : Str) → i = 6 := by decide
        have := h6 i hi e1
        subst this
        cases e2
      have hB6 := hB5.extN e6
      obtain ⟨dxB, _, _, _, _, _, _, hbB, _⟩ := id hB6
      walk_at "s"
      refine ⟨dxB, _, hbB, (by intro a b hm; simp at hm; rcases hm with ⟨rfl, _⟩ | ⟨rfl, _⟩ | ⟨rfl, _⟩ <;> decide), sz_le (by decide), view_tup (VW.start (H := B1)) fun z1 B2 w2 => ?_⟩
      refine ⟨b, r0, r1, .ref z1, ws2, ps2, us2, n, some (.int 0, .int (n : Nat)), rfl, hB6.same w2.fr, hw2, n24, by omega, ⟨z1, rfl, w2.tu (z1, _) (.head _), .int _, .int _⟩, fun i j e h1 h2 => ?_, fun _ d B3 s3 hd => ⟨.turn, rfl, .inl ⟨rfl, d, _, rfl, hd, fun p2 B4 s4' hp2 => ?_⟩⟩⟩
      · have e := Prod.mk.inj (Option.some.inj e)
        have e2 := V.int.inj e.2
        omega
      have s24 := Same.tr2 w2.fr (Same.tr2 s3 s4')
      have kbB : KB b H2 B4 := (((KB.ofN eN).trans (KB.of s15)).trans (KB.ofN e6)).trans (KB.of s24)
      refine ⟨sz_le (show 2 ≤ 16777216 by decide), view_new (VW.start (H := B4)) fun lt B5 w5 => ?_⟩
      have hB7 := hB6.same s24
      obtain ⟨dxC, _, _, _, _, _, _, hbC, _⟩ := id hB7
      exact hZ2 _ _ ⟨lt, p1, p2, rfl, kbB.trans (KB.of w5.fr), hB7.same w5.fr, TabsN.ext (TabsN.tail T6) (Same.tr2 s24 w5.fr), newT_kb kbB hbC (w5.own (lt, _) (.head _)), w5.at_ (lt, _) (.head _), w5.fr _ _ (s24 _ _ (e6 _ _ hp1 (noTbl_ne rfl))), w5.fr _ _ hp2⟩
    rintro σ3 H3 ⟨lt, p1, p2, rfl, k3, hB3, hT3, nlt, hlt, hp1, hp2⟩
    obtain ⟨dx3, _, _, _, _, _, _, hb3, _⟩ := id hB3
    have ltb : lt ≠ b := fun z => by rw [z, hb3] at hlt; cases hlt
    refine seq_q (fun σ' H' => ∃ t3 tz : Addr, σ' = [some (.ref m), some (.ref b), some (.int (n : Nat)), some (.int (lots : Nat)), some (.ref a), some (.ref u), none, some (.ref lt)] ∧ KB b H2 H' ∧ BenAt CR CB CM H' b r0 r1 ws2 ps2 us2 ∧ TabsN base mg T H' ∧ H' lt = some (.lst [.ref p1, .ref p2, .ref t3]) ∧ H' p1 = some (.tup [.str "BadTurn", .int 1]) ∧ H' p2 = some (.tup [.str "BadTurn", .int 0]) ∧ H' t3 = some (.lst [.ref tz]) ∧ H' tz = some (.tup [.int 0, .int 0])) (fun D2 eD2 hZ2 => ?_) ?_
    · refine ⟨_, rfl, lt, rfl, _, hlt, ?_⟩
      refine told_tried (CM := CM) (fun Z H' z => ⟨_, rfl, z⟩) hT3 (.inl hOw) N.br tr N.bm hB3 fun c1 P1 c2 P2 H4 Qx Ex eN T4 hc2 hB4 kv ke => ?_
      have hT4 := TabsN.tail (TabsN.tail T4)
      obtain ⟨dx4, _, _, _, _, _, _, hb4, _⟩ := id hB4
      walk_at "s"
      refine ⟨dx4, _, hb4, (by intro a b hm; simp at hm; rcases hm with ⟨rfl, _⟩ | ⟨rfl, _⟩ | ⟨rfl, _⟩ <;> decide), sz_le (by decide), view_tup (VW.start (H := H4)) fun z A5 v5 => ?_⟩
      refine do00 (hB4.same v5.fr) hw2 n1 n24 (by omega) (v5.tu (z, _) (.head _)) fun q A6 s6 hB6 hq => ?_
      obtain ⟨dx6, _, _, _, _, _, _, hb6, _⟩ := id hB6
      have v00 : ∀ p ∈ ps2 ++ [(0, 0)], p.1 ≤ p.2 ∧ p.2 < n := fun p hp => by
        rcases List.mem_append.mp hp with h | h
        · rw [← hps2] at h
          exact hps p (List.mem_of_mem_take h)
        · rw [List.mem_singleton.mp h]
          exact ⟨Nat.le_refl _, by show 0 < n; omega⟩
      refine ⟨dx6, _, hb6, (by intro a b hm; simp at hm; rcases hm with ⟨rfl, _⟩ | ⟨rfl, _⟩ | ⟨rfl, _⟩ <;> decide), b, r0, r1, _, _, [], n, rfl, hB6, hw2.turn (Nat.le_refl _), n24, by rw [List.length_append]; simp; omega, by simp, v00, fun e => by simp at e, fun qs x y e t A7 s7 hB7 ht => ?_⟩
      obtain ⟨e1, e2⟩ := List.append_inj' e rfl
      have e2 := (List.cons.inj e2).1
      cases e2
      subst e1
      obtain ⟨dx7, _, _, _, _, _, _, hb7, _⟩ := id hB7
      refine ⟨dx7, _, hb7, (by intro a b hm; simp at hm; rcases hm with ⟨rfl, _⟩ | ⟨rfl, _⟩ | ⟨rfl, _⟩ <;> decide), b, r0, r1, _, _, [(0, 0)], n, rfl, hB7, (hw2.turn (Nat.le_refl _)).turn (Nat.le_refl _), n24, by omega, by simp, fun p hp => by rw [List.mem_singleton.mp hp]; exact ⟨Nat.le_refl _, by show 0 < n; omega⟩, fun e => by simp at e, fun qs x y e t2 A8 s8 hB8 ht2 => ?_⟩
      obtain ⟨dx8, _, _, _, _, _, _, hb8, _⟩ := id hB8
      have htA : A8 t = some (.tup [.int 0, .int 0]) := s8 _ _ (fun z => by rw [z, hb7] at ht; cases ht) ht
      have s48 : SmX b H4 A8 := smx_tr (smx_tr (SmX.of v5.fr) s6) (smx_tr s7 s8)
      refine ⟨sz_le (show 3 ≤ 16777216 by decide), view_new (VW.start (H := A8)) fun lo A9 v9 => ?_⟩
      refine ⟨_, v9.at_ (lo, _) (.head _), _, rfl, _, rfl, ?_⟩
      have s49 := smx_tr s48 (SmX.of v9.fr)
      refine kv _ A9 (KB.ofX s49) (hB8.same v9.fr).bsh (TabsN.smx hT4 s49 hb4) fun l A10 af hB10 T10 hl => ?_
      obtain ⟨dx10, _, _, _, _, _, _, hb10, _⟩ := id hB10
      have hlt10 := af.kb _ _ ltb rfl hlt
      have ni3 := af.kb.ni hb3
      have tz := af.ni _ _ (v9.fr _ _ htA) (fun _ _ _ z => by cases z)
      have up : ∀ {a : Addr} {o : HO}, A10 a = some o → o ≠ .lst [.ref p1, .ref p2] → upd A10 lt (.lst [.ref p1, .ref p2, .ref l]) a = some o := fun {a o} h n => by
        rw [upd_ne (fun z => by rw [z, hlt10] at h; exact n (Option.some.inj h).symm)]
        exact h
      refine ⟨lt, _, rfl, rfl, _, hlt10, sz_lt (show 2 < 16777216 by decide), hZ2 _ _ ⟨l, t, rfl, (k3.trans af.kb).put nlt, hB10.put hlt10, tabs_put (Tb := ⟨base, mg, T⟩) T10 hlt10, upd_same, up (ni3 _ _ (fun _ _ _ z => by cases z) rfl hp1) (fun z => by cases z), up (ni3 _ _ (fun _ _ _ z => by cases z) rfl hp2) (fun z => by cases z), up hl (fun z => by cases z), up tz (fun z => by cases z)⟩⟩
    rintro σ4 H4 ⟨t3, tz, rfl, k4, hB4, hT4, hlt4, hp14, hp24, ht34, htz4⟩
    obtain ⟨dx4, _, _, _, _, _, _, hb4, _⟩ := id hB4
    refine seq_q (fun σ' H' => σ' = [some (.ref m), some (.ref b), some (.int (n : Nat)), some (.int (lots : Nat)), some (.ref a), some (.ref u), none, some (.ref lt)] ∧ Same H4 H') (fun D2 eD2 hZ2 => ?_) ?_
    · walk_at "s"
      refine ⟨sz_le (by decide), view_tup (VW.start (H := H4)) fun z1 A1 v1 => ⟨sz_le (by decide), view_tup v1 fun z2 A2 v2 => ⟨sz_le (by decide), view_tup v2 fun z3 A3 v3 => ⟨sz_le (show 1 ≤ 16777216 by decide), view_new v3 fun z4 A4 v4 => ⟨sz_le (show 3 ≤ 16777216 by decide), view_new v4 fun z5 A5 v5 => ?_⟩⟩⟩⟩⟩
      have dg : ∀ {a : Addr} {i : Int}, A5 a = some (.tup [.str "BadTurn", .int i]) → Dp K A5 (.ref a) (.tuple [.str "BadTurn", .int i]) := fun h => .tup (SqT.of h) (.cons (.str _) (.cons (.int _) .nil))
      have dz : ∀ {a t : Addr}, A5 a = some (.lst [.ref t]) → A5 t = some (.tup [.int 0, .int 0]) → Dp K A5 (.ref a) (.list [.tuple [.int 0, .int 0]]) := fun h h2 => .lst (SqL.of h) (.cons (.tup (SqT.of h2) (.cons (.int _) (.cons (.int _) .nil))) .nil)
      refine ⟨.list [.tuple [.str "BadTurn", .int 1], .tuple [.str "BadTurn", .int 0], .list [.tuple [.int 0, .int 0]]], .list [.tuple [.str "BadTurn", .int 1], .tuple [.str "BadTurn", .int 0], .list [.tuple [.int 0, .int 0]]],
        .lst (SqL.of (v5.fr _ _ hlt4)) (.cons (dg (v5.fr _ _ hp14)) (.cons (dg (v5.fr _ _ hp24)) (.cons (dz (v5.fr _ _ ht34) (v5.fr _ _ htz4)) .nil))), .lst (SqL.of (v5.at_ (z5, _) (.head _))) (.cons (dg (v5.tu (z1, _) (.tail _ (.tail _ (.head _))))) (.cons (dg (v5.tu (z2, _) (.tail _ (.head _)))) (.cons (dz (v5.at_ (z4, _) (.tail _ (.head _))) (v5.tu (z3, _) (.head _))) .nil))),
        by decide +kernel, by decide +kernel, .inl ⟨congrArg V.bl (by decide +kernel), ?_⟩⟩
      refine ⟨dx4, _, v5.fr _ _ hb4, (by intro a b hm; simp at hm; rcases hm with ⟨rfl, _⟩ | ⟨rfl, _⟩ | ⟨rfl, _⟩ <;> decide), view_tup (VW.start (H := A5)) fun e A6 v6 => ?_⟩
      have s46 := Same.tr2 v5.fr v6.fr
      refine ⟨b, r0, r1, .ref e, ws2, ps2, us2, n, rfl, hB4.same s46, hw2, n24, by omega, .inl ⟨e, _, [], 0, [], rfl, v6.tu (e, _) (.head _), .inr rfl, Nat.le_refl _, by simp, rfl, .nil, (fun _ h => nomatch h), .inl ⟨rfl, fun _ q A7 s7 hq => ?_, fun h => absurd rfl h⟩⟩⟩
      have s47 := Same.tr2 s46 s7
      exact ⟨⟨_, _, s47 _ _ hb4⟩, b, r0, r1, ws2, ps2, us2, rfl, hB4.same s47, fun h' h3' => rne_same hq h3' (.inl ⟨rfl, hZ2 _ _ ⟨rfl, s47⟩⟩)⟩
    rintro σ5 H5 ⟨rfl, s5⟩
    have hB5 := hB4.same s5
    have kb5 : KB b H2 H5 := k4.trans (KB.of s5)
    have hu5 := kb5 _ _ (fun z => by rw [z, hb2] at hu; cases hu) rfl hu
    have hP5 : PrL H5 vs (ps.reverse.take lots) := Paired.mapP hP2 fun _ _ ⟨a, e, ha⟩ => ⟨a, e, (kb5.ni hb2) _ _ (fun _ _ _ z => by cases z) rfl ha⟩
    have hT5 : TabsN base mg T H5 := TabsN.ext hT4 s5
    have hb5 := s5 _ _ hb4
    have k15 : KB b H1 H5 := (KB.ofX s2).trans kb5
    -- one more is done again
    have red : ∀ {i : Nat} {H6 : Hp} {Z : VK} {E' : XK}, i < lots → BenAt CR CB CM H6 b r0 r1 (foldT ws (ps.reverse.take (lots - i))) (ps.take (ps.length - (lots - i))) (us ++ ps.reverse.take (lots - i)) → (∀ t H', SmX b H6 H' → BenAt CR CB CM H' b r0 r1 (foldT ws (ps.reverse.take (lots - (i + 1)))) (ps.take (ps.length - (lots - (i + 1)))) (us ++ ps.reverse.take (lots - (i + 1))) → (∃ q, (ps.reverse.take lots).reverse[i]? = some q ∧ H' t = some (.tup [.int (q.1 : Nat), .int (q.2 : Nat)])) → Z (.ref t) H') → spRedo C CR CB CM [.ref b] H6 Z E' := by
      intro i H6 Z E' hi hB6 kz
      obtain ⟨j, hj⟩ : ∃ j, lots - i = j + 1 := ⟨lots - i - 1, by omega⟩
      have hj' : lots - (i + 1) = j := by omega
      have hjr : j < ps.reverse.length := by omega
      have et : ps.reverse.take (j + 1) = ps.reverse.take j ++ [ps.reverse[j]] := (List.take_append_getElem hjr).symm
      have e1 : ps.take (ps.length - j) = ps.take (ps.length - (j + 1)) ++ [ps.reverse[j]] := by
        have : ps.length - j = ps.length - (j + 1) + 1 := by omega
        rw [this, List.getElem_reverse]
        have : ps.length - (j + 1) < ps.length := by omega
        rw [← List.take_append_getElem this]
        congr 3
        omega
      have gq := gr _ (List.getElem_mem hjr)
      rw [hj] at hB6
      rw [hj'] at kz
      refine ⟨b, r0, r1, _, _, _, n, rfl, hB6, hwU (j + 1), n24, by rw [List.length_take]; omega, by rw [List.length_append, List.length_take]; omega, fun p hp => ?_, fun e => ?_, fun qs x y e t H' s' hB' ht => ?_⟩
      · rcases List.mem_append.mp hp with h | h
        · exact hus p h
        · exact gr p (List.mem_of_mem_take h)
      · rw [et] at e
        simp at e
      · rw [et, ← List.append_assoc] at e
        obtain ⟨e2, e3⟩ := List.append_inj' e rfl
        have e3 := (List.cons.inj e3).1
        refine kz t H' s' ?_ ⟨ps.reverse[j], ?_, by rw [e3]; exact ht⟩
        · rw [e1, e3, e2]
          have ew : turnL (foldT ws (ps.reverse.take (j + 1))) x y = foldT ws (ps.reverse.take j) := by
            rw [et, foldT_snoc, e3]
            have := (hwU j).len
            rw [e3] at gq
            exact turn_back gq.1 (by rw [this]; exact gq.2)
          rw [ew] at hB'
          exact hB'
        · rw [List.getElem?_reverse (by rw [List.length_take]; omega), List.length_take, List.getElem?_take_of_lt (by omega), List.getElem?_eq_getElem (by omega)]
          congr 2
          omega
    have eW : foldT ws (ps.reverse.take (lots - 0)) = ws2 := by rw [Nat.sub_zero]; exact hws2
    have eP : ps.take (ps.length - (lots - 0)) = ps2 := by rw [Nat.sub_zero]; exact hps2
    have eU : us ++ ps.reverse.take (lots - 0) = us2 := by rw [Nat.sub_zero]; exact hus2
    refine seq_q (fun σ' H' => σ' = [some (.ref m), some (.ref b), some (.int (n : Nat)), some (.int (lots : Nat)), some (.ref a), some (.ref u), none, some (.ref lt)] ∧ KB b H1 H' ∧ BenAt CR CB CM H' b r0 r1 ws ps us ∧ TabsN base mg T H') (fun D2 eD2 hZ2 => ?_) ?_
    · refine ⟨_, rfl, _, rfl, by omega, by omega, fun D hD' => ?_⟩
      rw [Int.toNat_natCast]
      have Db : D ≠ b := fun z => by rw [z, hb5] at hD'; cases hD'
      refine lc_it (walk_range (lo := 0) (n := lots)) (fun i H' => SmX b H5 H' ∧ BenAt CR CB CM H' b r0 r1 (foldT ws (ps.reverse.take (lots - i))) (ps.take (ps.length - (lots - i))) (us ++ ps.reverse.take (lots - i)) ∧ ∃ ys, H' D = some (.lst ys) ∧ PrL H' ys ((ps.reverse.take lots).reverse.take i)) ?_ (fun _ _ _ _ => True.intro) ?_ ?_
      · refine ⟨SmX.of (Same.new hD'), ?_, [], upd_same, .nil⟩
        rw [eW, eP, eU]
        exact hB5.same (Same.new hD')
      · rintro i x H2' H3' hi ⟨sA, hBA, ys, hv, hP⟩ ⟨rfl, rfl⟩
        obtain ⟨dxA, _, _, _, _, _, _, hbA, _⟩ := id hBA
        have lv := hP.len
        have llr : (ps.reverse.take lots).reverse.length = lots := by rw [List.length_reverse, List.length_take]; omega
        have hir : i < (ps.reverse.take lots).reverse.length := by omega
        have et : (ps.reverse.take lots).reverse.take (i + 1) = (ps.reverse.take lots).reverse.take i ++ [(ps.reverse.take lots).reverse[i]] := (List.take_append_getElem hir).symm
        refine ⟨rfl, yes_if ⟨_, rfl, b, dxA, _, rfl, hbA, rfl, ?_⟩⟩
        simp only [tNil, List.append_nil]
        refine red (by omega) hBA fun t H' s' hB' ht => ?_
        obtain ⟨q, hq, ht⟩ := ht
        rw [List.getElem?_eq_getElem hir] at hq
        have hq := Option.some.inj hq
        subst hq
        have hv' := s' _ _ Db hv
        have kl : ∀ {c : Addr} {zs : List V}, H' c = some (.tup zs) → upd H' D (.lst (ys ++ [.ref t])) c = some (.tup zs) := fun {c zs} h => by rw [upd_ne (fun z => by rw [z, hv'] at h; cases h)]; exact h
        refine ⟨_, hv', sz_lt (by rw [lv, List.length_take]; omega), fun c u n3 h => ?_, hB'.put hv', _, upd_same, ?_⟩
        · rw [upd_ne (fun z => by rw [z, hD'] at h; cases h)]
          exact s' _ _ n3 (sA _ _ n3 h)
        · rw [et]
          exact PrL.snoc (Paired.mapP hP fun _ _ ⟨c, e, hc⟩ => ⟨c, e, kl (s' _ _ (fun z => by rw [z, hbA] at hc; cases hc) hc)⟩) (kl ht)
      · rintro H' ⟨sA, hBA, ys, hv, hP⟩
        rw [Nat.sub_self, List.take_zero, List.append_nil, Nat.sub_zero, List.take_length] at hBA
        have hBA : BenAt CR CB CM H' b r0 r1 ws ps us := hBA
        rw [List.take_of_length_le (by rw [List.length_reverse, List.length_take]; omega)] at hP
        have huA := sA _ _ (fun z => by rw [z, hb5] at hu5; cases hu5) hu5
        walk_at "s"
        refine ⟨_, rfl, u, rfl, vs, huA, view_new (VW.start (H := H')) fun rv A1 v1 => ?_⟩
        have sA1 := v1.fr
        have hPu : PrL A1 vs (ps.reverse.take lots) := Paired.mapP hP5 fun _ _ ⟨c, e, hc⟩ => ⟨c, e, sA1 _ _ (sA _ _ (fun z => by rw [z, hb5] at hc; cases hc) hc)⟩
        refine ⟨_, _, .lst (SqL.of (sA1 _ _ hv)) (hP.same sA1).dp, .lst (SqL.of (v1.at_ (rv, _) (.head _))) hPu.rev.dp, shp_lp _, shp_lp _, .inl ⟨congrArg V.bl (by rw [SeqAt.eqv_refl _ (SeqAt.canLay_of_shaped (shp_lp _))]; rfl), ?_⟩⟩
        have kA : KB b H1 A1 := (k15.trans (KB.ofX sA)).trans (KB.of sA1)
        refine ⟨b, r0, r1, w0, g0, ws, ps, us, rfl, hBA.same sA1, rowAt_kb h01 kA hb1 N.br, rowAt_kb h11 kA hb1 N.br, by omega, fun l2 A2 t2 _ sh => ?_⟩
        have sh1A := (sh1.keep (kA.ni hb1)).keep (H' := A2) fun c u _ _ h => t2 _ _ h
        exact ⟨_, _, sh.dp, sh1A.dp, shp_sh _ _ _ _, shp_sh _ _ _ _, .inl ⟨congrArg V.bl (by rw [sh_self]; rfl), hZ2 _ _ ⟨rfl, kA.trans (KB.of t2), (hBA.same sA1).same t2, TabsN.ext (TabsN.smx hT5 sA hb5) (Same.tr2 sA1 t2)⟩⟩⟩
    rintro σ6 H6 ⟨rfl, k16, hB6, hT6⟩
    obtain ⟨dx6, _, _, _, _, _, _, hb6, _⟩ := id hB6
    refine seq_q (fun σ' H' => ∃ ws' ps' us', KB b H1 H' ∧ BenAt CR CB CM H' b r0 r1 ws' ps' us' ∧ TabsN base mg T H' ∧ IsRow ws' n ∧ GdP n ps' ∧ GdP n us' ∧ ps'.length = ps.length ∧ us'.length ≤ us.length) (fun D2 eD2 hZ2 => ?_) ?_
    · walk_at "s"
      by_cases l0 : lots = 0
      · rw [if_neg (by omega)]
        exact hZ2 _ _ ⟨ws, ps, us, k16, hB6, hT6, hw, hps, hus, rfl, Nat.le_refl _⟩
      rw [if_pos (by omega)]
      refine ⟨dx6, _, hb6, (by intro a b hm; simp at hm; rcases hm with ⟨rfl, _⟩ | ⟨rfl, _⟩ | ⟨rfl, _⟩ <;> decide), b, r0, r1, ws, ps, us, n, rfl, hB6, hw, n24, by omega, by omega, hps, fun e => ?_, fun qs x y e t A1 s1' hBA ht => ?_⟩
      · rw [e] at hlo
        simp at hlo
        exact absurd hlo l0
      have hxy := hps (x, y) (by rw [e]; simp)
      have hwx : IsRow (turnL ws x y) n := hw.turn hxy.1
      obtain ⟨dxA, _, _, _, _, _, _, hbA, _⟩ := id hBA
      refine ⟨dxA, _, hbA, (by intro a b hm; simp at hm; rcases hm with ⟨rfl, _⟩ | ⟨rfl, _⟩ | ⟨rfl, _⟩ <;> decide), sz_le (by decide), view_tup (VW.start (H := A1)) fun z1 A2 v2 => ⟨sz_le (show 1 ≤ 16777216 by decide), view_new v2 fun z2 A3 v3 => ?_⟩⟩
      have lq : qs.length + 1 = ps.length := by rw [e]; simp
      have g0' : GdP n [(0, 0)] := fun p hp => by rw [List.mem_singleton.mp hp]; exact ⟨Nat.le_refl _, by show 0 < n; omega⟩
      refine ⟨b, r0, r1, .ref z2, turnL ws x y, qs, us ++ [(x, y)], n, rfl, hBA.same v3.fr, hwx, n24, by omega, .inl ⟨z2, _, _, 1, [(0, 0)], rfl, v3.at_ (z2, _) (.head _), .inl rfl, by simp, by simp, rfl, .cons ⟨z1, rfl, v3.tu (z1, _) (.head _)⟩ .nil, g0', .inl ⟨rfl, (fun h => by cases h), fun _ q A4 s4 hB4' _ => ?_⟩⟩⟩
      have sA4 : SmX b H6 A4 := smx_tr s1' (smx_tr (SmX.of v3.fr) s4)
      have hT4' : TabsN base mg T A4 := TabsN.smx hT6 sA4 hb6
      refine told_anyN hT4' (.inl hOw) fun c1 P1 A5 Qx eN T5 hc5 hx => ?_
      have hB5' := hB4'.extN eN
      obtain ⟨dx5, _, _, _, _, _, _, hb5', _⟩ := id hB5'
      refine ⟨_, rfl, b, dx5, _, rfl, hb5', rfl, ?_⟩
      simp only [tNil, List.append_nil]
      refine ⟨b, r0, r1, _, _, [], n, rfl, hB5', foldT_row hwx g0', n24, by rw [List.length_append]; simp; omega, by simp, (fun _ h => nomatch h), fun _ A6 s6 => ⟨.nothing, rfl, .inr ⟨rfl, rfl, fun p A7 s7 hp => ?_⟩⟩, fun qs' x' y' e' => by simp at e'⟩
      have s57 := Same.tr2 s6 s7
      refine ⟨sz_le (show 1 ≤ 16777216 by decide), view_tup (VW.start (H := A7)) fun u1 A8 v8 => ?_⟩
      refine ⟨.tuple [.str "NothingLeft"], .tuple [.str "NothingLeft"], .tup (SqT.of (v8.fr _ _ hp)) (.cons (.str _) .nil), .tup (SqT.of (v8.tu (u1, _) (.head _))) (.cons (.str _) .nil), by decide +kernel, by decide +kernel, .inl ⟨congrArg V.bl (by decide +kernel), hZ2 _ _ ⟨_, qs ++ [(0, 0)], [], ((k16.trans (KB.ofX sA4)).trans (KB.ofN eN)).trans (KB.of (Same.tr2 s57 v8.fr)), hB5'.same (Same.tr2 s57 v8.fr), TabsN.ext (TabsN.tail T5) (Same.tr2 s57 v8.fr), foldT_row hwx g0', fun p hp => ?_, (fun _ h => nomatch h), by rw [List.length_append]; simp; omega, by simp⟩⟩⟩
      rcases List.mem_append.mp hp with h | h
      · exact hps p (by rw [e]; exact List.mem_append_left _ h)
      · exact g0' p h
    rintro σ7 H7 ⟨ws', ps', us', k17, hB7, hT7, hw7, hp7, hu7, e7, e8⟩
    exact k H7 ws' ps' us' ((KM.kn k1).trans (KM.kb k17)) (ds_kb hD1 k17 hb1 hT7) hB7 hw7 hp7 hu7 e7 e8
end
end Fab
set_option maxHeartbeats 4000000
namespace Fab
open PySem L2 PySem.FabX
open PyProof.Rows (envOfC)
abbrev sLaw : Stmt := top 81
abbrev sRowT : Stmt := sRow
abbrev sPT : Stmt := sPTurned
local macro_rules | `(tactic| walk_at "s") => `(tactic| simp [tPar, tProp, tFldF, sFldF, putF, tSeq, tAsg, tOp, tUn, tVar, tC, gName, tCons, tNil, tCB, tCall, rI, rI0, rU, tRet, tDrop, tIfS, tNext, tIf, tTest, tNot, tOr, tAnd, tB, L2.start, CMul, CDiv, rIxF, rLenF, rIntF, sq_lst, sq_tup, tLstF, tTupF, gSub, rCatF, rCatTF, rInF, rNe, rEq, tAndV, tOrV, tNotV, tChain, rTupF, rListF, tFldF, tRx, tMake, tMeth, tSl, tPart, tNoPart, rSlTF, rSlF, tRevTF, gTup, gCons, gNil, rIsB, rNotB, tLM, rAppF, tLstRgF, tRg2, tLstRg, iRng1, iRng2])
theorem ben_new {C : Kd → Addr} {CR CB CM : Addr} {H : Hp} {r s : Addr} {ws gs : List Int} {n : Nat} {Q : Addr → Hp → Prop} {E : XK} (hr : RowAt CR H r (ws.map V.int)) (hs : RowAt CR H s (gs.map V.int)) (hw : IsRow ws n) (hg : IsRow gs n) (hn : n ≤ 24)
    (k : ∀ b H', Same H H' → H b = none → BenAt CR CB CM H' b r s ws [] [] → RowAt CR H' r (ws.map V.int) → RowAt CR H' s (gs.map V.int) → Q b H') :
    ∀ b dx, H b = none → H dx = none → dx ≠ b → spBI C CR CB CM [.ref b, .ref r, .ref s] (upd (upd H dx (.own b)) b (.ins CB dx [])) (fun v H2 => v = .non ∧ Q b H2) E := by
  intro b dx nb ndx nex
  have e1 : Same H (upd (upd H dx (.own b)) b (.ins CB dx [])) := fun c u hc => by
    rw [upd_ne (ne_of_none hc nb), upd_ne (ne_of_none hc ndx)]
    exact hc
  refine ⟨b, dx, r, s, ws, gs, n, n, rfl, upd_same, hr.same e1, hw, hn, hs.same e1, hg, hn, fun z => absurd rfl z, fun _ H' fr hB => ⟨rfl, ?_⟩⟩
  have s1 : Same H H' := fun a u ha => fr a u (e1 _ _ ha) (ne_of_none ha nb)
  exact k b H' s1 nb hB (hr.same s1) (hs.same s1)
section
variable {P' : Program} {w : World} {K : PySem.W.Frag} {mg : Str → Option Value} {base : Heap} {C : Kd → Addr} {CF CR CB CM CK CT : Addr}
theorem kn_lst {m c g l : Addr} {cs : List Int} {Tb : TbN} {N : Nat} {H H' : Hp} {xs : List V} (d : DS m c g cs Tb N H) (k : Kn m g H H') (n : l ≠ g) (h : H l = some (.lst xs)) : H' l = some (.lst xs) := by
  obtain ⟨_, _, _, hm, _⟩ := d
  exact k _ _ h (fun z => by rw [z, hm] at h; unfold dm at h; cases h) n rfl
theorem OdV.kn {m c g : Addr} {cs : List Int} {Tb : TbN} {N : Nat} {H H' : Hp} {x : V} {o : Option (V × V)} (h : OdV g H x o) (d : DS m c g cs Tb N H) (k : Kn m g H H') : OdV g H' x o := by
  cases h with
  | non => exact .non
  | int i => exact .int i
  | lst n h => exact .lst n (kn_lst d k n h)
  | tup h => exact .tup (k.at d h rfl)
  | bl h => exact .bl (k.at d h rfl)
theorem OdL.kn {m c g : Addr} {cs : List Int} {Tb : TbN} {N : Nat} {H H' : Hp} {xs : List V} {os : List (Option (V × V))} (h : OdL g H xs os) (d : DS m c g cs Tb N H) (k : Kn m g H H') : OdL g H' xs os := Paired.mapP h fun _ _ z => z.kn d k
theorem ShAt.kn {m c g l : Addr} {cs : List Int} {Tb : TbN} {N : Nat} {H H' : Hp} {w0 g0 ws : List Int} {ps : List (Nat × Nat)} (h : ShAt H l w0 g0 ws ps) (d : DS m c g cs Tb N H) (k : Kn m g H H') (n : l ≠ g) : ShAt H' l w0 g0 ws ps := by
  obtain ⟨p0, p1, p2, td, zs, h1, h2, h3, h4, h5, h6⟩ := h
  exact ⟨p0, p1, p2, td, zs, kn_lst d k n h1, k.at d h2 rfl, k.at d h3 rfl, k.at d h4 rfl, k.at d h5 rfl, h6.kn d k⟩
theorem ShAt.cur {H : Hp} {l : Addr} {w0 g0 ws : List Int} {ps : List (Nat × Nat)} (h : ShAt H l w0 g0 ws ps) : ∃ a0 a1 a2 a3 a4 zs, H l = some (.lst [a0, a1, .ref a2, a3, .ref a4]) ∧ H a2 = some (.tup (ws.map V.int)) ∧ H a4 = some (.tup zs) ∧ PrL H zs ps := by
  obtain ⟨p0, p1, p2, td, zs, h1, h2, h3, h4, h5, h6⟩ := h
  exact ⟨_, _, _, _, _, _, h1, h4, h5, h6⟩
theorem shp_tp (ps : List (Nat × Nat)) : SeqAt.shaped (.tuple (prD ps)) = true := by
  obtain ⟨h1, h2⟩ := prD_layB ps
  show (PyData.canLay0 _ && decide (PyData.depth _ ≤ 64)) = true
  rw [show PyData.canLay0 (.tuple (prD ps)) = true from by rw [PyData.canLay0]; exact h1, Bool.true_and]
  exact decide_eq_true (by rw [PyData.depth]; omega)
theorem shp_bt (k : Int) : SeqAt.shaped (.tuple [.str "BadTurn", .int k]) = true := by
  show (PyData.canLay0 _ && decide (PyData.depth _ ≤ 64)) = true
  have e : PyData.strOk (Str.ofString "BadTurn") = true := by decide +kernel
  simp [PyData.canLay0, PyData.canLayAll0, PyData.depth, PyData.depthAll, e]
theorem rowAt_km {CR CB m c g b dx r : Addr} {cs : List Int} {Tb : TbN} {N : Nat} {H H' : Hp} {xs : List V} {fs : List (Str × V)} (h : RowAt CR H r xs) (d : DS m c g cs Tb N H) (k : KM m g b H H') (hb : H b = some (.ins CB dx fs)) (ne : CB ≠ CR) : RowAt CR H' r xs := by
  obtain ⟨d0, tp, h1, h2⟩ := h
  obtain ⟨_, _, _, hm, hg, _⟩ := d
  exact ⟨d0, tp, k _ _ (fun z => by rw [z, hm] at h1; unfold dm at h1; cases h1) (fun z => by rw [z, hg] at h1; cases h1) (fun z => by rw [z, hb] at h1; cases h1; exact ne rfl) rfl h1,
    k _ _ (fun z => by rw [z, hm] at h2; unfold dm at h2; cases h2) (fun z => by rw [z, hg] at h2; cases h2) (fun z => by rw [z, hb] at h2; cases h2) rfl h2⟩
def spLaw (K : PySem.W.Frag) (Tb : TbN) : Sp := fun vs H Q _ => ∃ (a : Addr) (ns : List Int), vs = [.ref a] ∧ SqL K H a (ns.map V.int) ∧ ns.length ≤ 63 ∧ TabsZ Tb H ∧ ∀ H', Q (.bl true) H'
theorem scLaw : FnScope ["script", "m", "many", "bench", "turn", "turnings", "ahead", "here", "kept", "handed", "wrong", "n", "odd"] ["script"] (defScope sLaw) := ⟨rfl, rfl, rfl, by decide +kernel, rfl, by decide +kernel, by decide +kernel⟩
theorem ok_law {T : TbL} {c Pt f g fC fS fD fBg fW fSo fV fTr fAg fOt fZ fI fBI fA fTs : Addr} {fdC fdS fdD fdBg fdW fdSo fdV fdTr fdAg fdOt fdZ fdI fdBI fdA fdTs : FuncData} {oc kV doc pm ct oc1 kV1 doc1 pm1 ct1 cdv1 : Value} {an od an1 od1 : Option Addr} {osl osl1 : Array (Option Value)} (B : Blt mg) (R : RowC K mg CR) (N : BenC K mg CR CB CM) (XE : Exs K mg CF C)
    (HD : DL K mg "_law_told" sTold g cdv1 ["call"] oc1 kV1 doc1 pm1 ct1 an1 od1 osl1) (cClass : Dn P' w K mg base 1 "_law_class" fC fdC ["error"] (spClass C)) (cShown : Dn P' w K mg base 3 "_law_shown" fS fdS ["bench"] (spShown CR CB CM)) (cDraw : Dn P' w K mg base 2 "_law_draw" fD fdD ["m", "limit"] spDraw) (cBegun : Dn P' w K mg base 2 "_law_begun" fBg fdBg ["script"] (spBegun K))
    (cRow : Dn P' w K mg base 3 "_law_row" fW fdW ["m", "many"] (spRowT ⟨base, mg, T⟩)) (cSome : Dn P' w K mg base 3 "_law_some" fSo fdSo ["m", "many"] (spSome ⟨base, mg, T⟩)) (cRan : Dn P' w K mg base 2 "_law_ran" fV fdV ["waggons", "turnings"] (spRan K)) (cTri : Dn P' w K mg base 16 "_law_trials_right" fTr fdTr ["bench", "turnings", "here"] (spTri CR CB CM ⟨base, mg, T⟩)) (cAga : Dn P' w K mg base 16 "_law_again_right" fAg fdAg ["m", "bench", "many"] (spAga CR CB CM ⟨base, mg, T⟩)) (cOth : Dn P' w K mg base 16 "_law_others_right" fOt fdOt ["bench"] (spOth CR CB CM ⟨base, mg, T⟩)) (cIsR : DnG P' w K mg base 1 "_law_is_row" fZ fdZ ["told", "waggons"] (spIsR CR))
    (RM : Mk K CR fI) (RI : FnOk P' w K mg base (L2.CX P' w) 3 fI fdI ["self", "waggons"] (spRI K C CR)) (rb : Binds K fdI ["self", "waggons"] []) (MB : Mk K CB fBI) (FBI : FnOk P' w K mg base (L2.CX P' w) 3 fBI fdBI ["self", "row", "goal"] (spBI C CR CB CM)) (bb : Binds K fdBI ["self", "row", "goal"] [])
    (FDa : FnOk P' w K mg base (L2.CX P' w) 7 fA fdA ["self", "turnings"] (spDoAll K C CR CB CM)) (MDa : Meth K CB "do_all" fA) (bDa : Binds K fdA ["self", "turnings"] []) (FTs : FnOk P' w K mg base CX0 1 fTs fdTs ["self"] (spBTs CR CB CM)) (MTs : Meth K CB "turnings" fTs) (bTs : Binds K fdTs ["self"] [])
    (hOw : PySem.W.CodeHd base c Pt) (hmT : (Pt, ("law" : Str) ++ ".<locals>." ++ "<lambda>") ∈ T) (D : DL K mg "law" sLaw f (.ref c) ["script"] oc kV doc pm ct an od osl) :
    FnG P' w K mg base CX0 18 f (PySem.W.fnOf "law" "law" (defArgs sLaw) (defBody sLaw) (defScope sLaw) .none kV doc pm an (.ref c) ct) ["script"] (spLaw K ⟨base, mg, T⟩) := by
  refine fnL D.lk D.cd scLaw (fun vs H Q E h => ?_) (fun A outer s H vs Q E hgd0 hr h => ?_)
  · obtain ⟨a, ns, rfl, _⟩ := h
    rfl
  · obtain ⟨a, ns, rfl, hS, hlen, hT, k⟩ := h
    have hgd := (guards_deeper (A := A) (env := envOfC "law" (defScope sLaw) s.heap.objs.size f (.ref c))).trans hgd0
    have hu := hu_of hr
    have hun : (A.deeper (envOfC "law" (defScope sLaw) s.heap.objs.size f (.ref c))).units + 64 < cLine := by
      have := hr.un
      have := hr.units
      omega
    refine ⟨_, (pss_cons (ps_set (i := 1) scLaw.nd rfl (by first | exact Or.inl rfl | exact Or.inr rfl) (pe_call cBegun.ok (hr.mono (by decide)) rfl cBegun.mgf cBegun.kp cBegun.bi .nil pass0 (pa_cons (pv 0) pa_nil)))
      (pss_cons (ps_set (i := 2) scLaw.nd rfl (by first | exact Or.inl rfl | exact Or.inr rfl) (pe_op op_add pe_int (pe_call cDraw.ok (hr.mono (by decide)) rfl cDraw.mgf cDraw.kp cDraw.bi .nil pass0 (pa_cons (pv 1) (pa_cons pe_int pa_nil)))))
      (pss_cons (ps_asg (pe_make (E := fun _ _ _ => False) MB FBI (hr.mono (by decide)) (by rfl) N.mgB bb .nil (passes_call LamX.takes0 (fun _ _ _ _ h => h)) (pa_cons (pe_make (E := fun _ _ _ => False) RM RI (hr.mono (by decide)) (by rfl) R.mgR rb .nil (passes_call LamX.takes0 (fun _ _ _ _ h => h)) (pa_cons (pe_call cRow.ok (hr.mono (by decide)) rfl cRow.mgf cRow.kp cRow.bi .nil pass0 (pa_cons (pv 1) (pa_cons (pv 2) pa_nil))) pa_nil)) (pa_cons (pe_make (E := fun _ _ _ => False) RM RI (hr.mono (by decide)) (by rfl) R.mgR rb .nil (passes_call LamX.takes0 (fun _ _ _ _ h => h)) (pa_cons (pe_call cRow.ok (hr.mono (by decide)) rfl cRow.mgf cRow.kp cRow.bi .nil pass0 (pa_cons (pv 1) (pa_cons (pv 2) pa_nil))) pa_nil)) pa_nil))) (pg_name (i := 3) scLaw.nd rfl (by first | exact Or.inl rfl | exact Or.inr rfl)))
      (pss_cons (ps_for (passes_of rfl) rfl (pi_range1 (by rfl) B.range (pa_cons (pe_op op_add pe_int (pe_callB (call_min2 rfl) (by rfl) B.min (by decide +kernel) (pa_cons (pe_callB call_len_seq (by rfl) B.len (by decide +kernel) (pa_cons (pv 0) pa_nil)) (pa_cons pe_int pa_nil)))) pa_nil)) (pg_name (i := 4) scLaw.nd rfl (by first | exact Or.inl rfl | exact Or.inr rfl)) (pss_cons (ps_asg (pe_tupF (pa_cons (pe_call cSome.ok (hr.mono (by decide)) rfl cSome.mgf cSome.kp cSome.bi .nil pass0 (pa_cons (pv 1) (pa_cons (pv 2) pa_nil))) (pa_cons (pe_call cShown.ok (hr.mono (by decide)) rfl cShown.mgf cShown.kp cShown.bi .nil pass0 (pa_cons (pv 3) pa_nil)) pa_nil))) (pg_tup (by rfl) (pgs_cons (pg_name (i := 5) scLaw.nd rfl (by first | exact Or.inl rfl | exact Or.inr rfl)) (pgs_cons (pg_name (i := 6) scLaw.nd rfl (by first | exact Or.inl rfl | exact Or.inr rfl)) pgs_nil))))
      (pss_cons (ps_par (i := 7) (j := 8) (by rfl) scLaw.nd rfl rfl (by decide) rfl rfl (pa_cons (pe_call cRan.ok (hr.mono (by decide)) rfl cRan.mgf cRan.kp cRan.bi .nil pass0 (pa_cons (pe_ix ixF (pv 6) pe_int (fun _ _ => rfl)) (pa_cons (pv 5) pa_nil))) (pa_cons (pe_callTy listF (by rfl) B.list (by decide +kernel) (pa_cons (pv 5) pa_nil)) pa_nil)) (by rfl))
      (pss_cons (ps_asg (pe_ix ixF (pe_lstF (pa_cons (pv 5) (pa_cons (pe_callTy tupF (by rfl) B.tuple (by decide +kernel) (pa_cons (pv 5) pa_nil)) pa_nil))) (pe_call cDraw.ok (hr.mono (by decide)) rfl cDraw.mgf cDraw.kp cDraw.bi .nil pass0 (pa_cons (pv 1) (pa_cons pe_int pa_nil))) (fun _ _ => rfl)) (pg_name (i := 9) scLaw.nd rfl (by first | exact Or.inl rfl | exact Or.inr rfl)))
      (pss_cons (ps_if (pt_cmpR op_isN (pv 7) pe_non (nomark _)) (pss_cons (ps_set (i := 10) scLaw.nd rfl (by first | exact Or.inl rfl | exact Or.inr rfl) (pe_ix ixF (pe_lc (own := [("n", 11)]) rfl scLaw.nd (pi_range1 (by rfl) B.range (pa_cons (pe_callB lenF (by rfl) B.len (by decide +kernel) (pa_cons (pv 5) pa_nil)) pa_nil)) (blkOk_by (own := [("n", 11)]) (N := ["script", "m", "many", "bench", "turn", "turnings", "ahead", "here", "kept", "handed", "wrong", "n", "odd"]) (sc := defScope sLaw) (by decide +kernel)) (fun _ _ _ _ _ => (pg_name (i := 11) scLaw.nd rfl (by first | exact Or.inl rfl | exact Or.inr rfl))) (fun _ _ _ _ _ => (pts_one (pt_cmpR op_isN (pe_call cRan.ok (hr.mono (by decide)) rfl cRan.mgf cRan.kp cRan.bi .nil pass0 (pa_cons (pe_ix ixF (pv 6) pe_int (fun _ _ => rfl)) (pa_cons (pe_slice slF (pv 5) po_none (po_some (pe_op op_add (pv 11) pe_int))) pa_nil))) pe_non (nomark _)))) (fun _ _ _ _ _ => (pv 11))) pe_int (fun _ _ => rfl)))
      (pss_one (ps_if (PW.pt (pw_or (pt_cmpR (op_neD hr.units) (pe_lamN (k := 8) (T := T) (P := Pt) (TT := TTt C) (t := fun c1 P1 E1 => (tMeth CB "do_all" (spDoAll K C CR CB CM) [] E1 (tVar 3) (tCons (tVar 9) tNil))) (by rfl) HD.mgf HD.kp HD.lk HD.cd HD.bi scTold rfl (by first | exact .inl rfl | exact .inr rfl | rfl) (told_gives XE B cClass (hr.mono (by decide))) rfl hmT (hr.mono (by decide)) (laS_by (o := none) (around := defScope sLaw) (by decide +kernel)) rfl (fun _ _ _ _ _ => rfl) (fun A1 outer1 s1 H1 E1 f1 c1 P1 hr1 => (pe_meth (E := E1) (pv 3) N.cl MDa FDa (hr1.mono (by decide)) bDa .nil (passes_call (takes_of rfl rfl rfl rfl) (fun _ _ _ _ h => h)) (pa_cons (pv 9) pa_nil)))) (pe_tupF (pa_cons pe_str (pa_cons (pv 10) pa_nil))) (nomark _)) (pw_or1 (pt_cmpR (op_neD hr.units) (pe_call cShown.ok (hr.mono (by decide)) rfl cShown.mgf cShown.kp cShown.bi .nil pass0 (pa_cons (pv 3) pa_nil)) (pv 6) (nomark _))))) (pss_one (ps_ret pe_bl)) pss_nil))) (pss_one (ps_if (pt_not (pt_val (pe_call cTri.ok (hr.mono (by decide)) rfl cTri.mgf cTri.kp cTri.bi .nil pass0 (pa_cons (pv 3) (pa_cons (pv 5) (pa_cons (pv 7) pa_nil)))))) (pss_one (ps_ret pe_bl)) (pss_one (ps_if (PW.pt (pw_or (pt_not (pt_val (pe_callG cIsR.ok hgd (hr.mono (by decide)) (by rfl) cIsR.mgf cIsR.kp cIsR.bi .nil pass0 (pa_cons (pe_meth (pv 3) N.cl MDa FDa (hr.mono (by decide)) bDa .nil (E := fun _ _ _ => False) (passes_call LamX.takes0 (fun _ _ _ _ h => h)) (pa_cons (pv 9) pa_nil)) (pa_cons (pv 7) pa_nil))))) (pw_or1 (pt_cmpR (op_neD hr.units) (pe_meth0 (pv 3) N.cl MTs FTs (hr.mono (by decide)) bTs .nil pass0) (pe_op catTF (pe_ix ixF (pv 6) pe_int (fun _ _ => rfl)) (pe_callTy tupF (by rfl) B.tuple (by decide +kernel) (pa_cons (pv 5) pa_nil))) (nomark _))))) (pss_one (ps_ret pe_bl)) pss_nil)))))
      (pss_one (ps_if (PW.pt (pw_or (pt_cmpR (op_neD hr.units) (pe_callTy listF (by rfl) B.list (by decide +kernel) (pa_cons (pv 9) pa_nil)) (pv 8) (nomark _)) (pw_or1 (pt_not (pt_val (pe_call cAga.ok (hr.mono (by decide)) rfl cAga.mgf cAga.kp cAga.bi .nil pass0 (pa_cons (pv 1) (pa_cons (pv 3) (pa_cons (pv 2) pa_nil))))))))) (pss_one (ps_ret pe_bl)) pss_nil)))))))
      (pss_cons (ps_if (pt_not (pt_val (pe_call cOth.ok (hr.mono (by decide)) rfl cOth.mgf cOth.kp cOth.bi .nil pass0 (pa_cons (pv 3) pa_nil)))) (pss_one (ps_ret pe_bl)) pss_nil)
      (pss_cons (ps_asg (pe_ix ixF (pe_lstF (pa_cons pe_non (pa_cons pe_int (pa_cons pe_str (pa_cons pe_dnewK (pa_cons pe_bl pa_nil)))))) (pe_call cDraw.ok (hr.mono (by decide)) rfl cDraw.mgf cDraw.kp cDraw.bi .nil pass0 (pa_cons (pv 1) (pa_cons pe_int pa_nil))) (fun _ _ => rfl)) (pg_name (i := 12) scLaw.nd rfl (by first | exact Or.inl rfl | exact Or.inr rfl)))
      (pss_one (ps_ret (pe_cmpR (op_eqD hr.units) (pe_lamN (k := 8) (T := T) (P := Pt) (TT := TTt C) (t := fun c1 P1 E1 => (tMeth CB "do_all" (spDoAll K C CR CB CM) [] E1 (tVar 3) (tCons (tVar 12) tNil))) (by rfl) HD.mgf HD.kp HD.lk HD.cd HD.bi scTold rfl (by first | exact .inl rfl | exact .inr rfl | rfl) (told_gives XE B cClass (hr.mono (by decide))) rfl hmT (hr.mono (by decide)) (laS_by (o := none) (around := defScope sLaw) (by decide +kernel)) rfl (fun _ _ _ _ _ => rfl) (fun A1 outer1 s1 H1 E1 f1 c1 P1 hr1 => (pe_meth (E := E1) (pv 3) N.cl MDa FDa (hr1.mono (by decide)) bDa .nil (passes_call (takes_of rfl rfl rfl rfl) (fun _ _ _ _ h => h)) (pa_cons (pv 12) pa_nil)))) (pe_tupF (pa_cons pe_str (pa_cons pe_non pa_nil))) (nomark _)))))))))), ?_⟩
    refine seq_nx (fun σ' H' => ∃ (m c' g' : Addr) (cs : List Int), σ' = [some (.ref a), some (.ref m), none, none, none, none, none, none, none, none, none, none, none] ∧ DS m c' g' cs ⟨base, mg, T⟩ 0 H' ∧ ∀ H2, Kn m g' H' H2 → SqL K H2 a (ns.map V.int)) (fun Z hZ => ?_) ?_
    · walk_at "s"
      refine ⟨a, ns, rfl, hS, hlen, fun m c' g' cs gs H1 v1 hcs => ?_⟩
      have nd1 := v1.nd
      simp only [drs, List.map_cons, List.map_nil, List.nodup_cons, List.mem_cons, not_or] at nd1
      have om := v1.own (m, dm c' g' 0) (by simp [drs])
      have og := v1.own (g', .lst (gs.map V.int)) (by simp [drs])
      refine hZ _ _ ⟨m, c', g', cs, rfl, ⟨0, gs, Nat.le_refl _, v1.at_ (m, dm c' g' 0) (by simp [drs]), v1.at_ (g', .lst (gs.map V.int)) (by simp [drs]), v1.at_ (c', .lst (cs.map V.int)) (by simp [drs]), hT.ext v1.fr, fun z => nd1.1.1 z.symm, nd1.2.1.1, hcs⟩, fun H2 k2 => ?_⟩
      rcases hS with (h | ⟨od, h⟩) | h
      · exact .inl (.inl (k2 a _ (v1.fr _ _ h) (fun z => by rw [z, om] at h; cases h) (fun z => by rw [z, og] at h; cases h) rfl))
      · exact .inl (.inr ⟨od, k2 a _ (v1.fr _ _ h) (fun z => by rw [z, om] at h; cases h) (fun z => by rw [z, og] at h; cases h) rfl⟩)
      · exact .inr h
    rintro σ1 H1 ⟨m, c', g', cs, rfl, hD1, hSA⟩
    refine seq_nx (fun σ' H' => ∃ n : Nat, 1 ≤ n ∧ n ≤ 8 ∧ σ' = [some (.ref a), some (.ref m), some (.int (n : Nat)), none, none, none, none, none, none, none, none, none, none] ∧ DS m c' g' cs ⟨base, mg, T⟩ 1 H' ∧ Kn m g' H1 H') (fun Z hZ => ?_) ?_
    · walk_at "s"
      refine draw_ds (lim := 8) hD1 (by decide) (by decide) (by omega) fun r A1 r0 r1 d1 k1 => ?_
      obtain ⟨r, rfl⟩ := Int.eq_ofNat_of_zero_le r0
      exact ⟨_, rfl, hZ _ _ ⟨1 + r, by omega, by omega, by simp, d1, k1⟩⟩
    rintro σ2 H2 ⟨n, n1, n8, rfl, hD2, k12⟩
    refine seq_nx (fun σ' H' => ∃ (b r0 r1 : Addr) (w0 g0 : List Int), σ' = [some (.ref a), some (.ref m), some (.int (n : Nat)), some (.ref b), none, none, none, none, none, none, none, none, none] ∧ DS m c' g' cs ⟨base, mg, T⟩ 201 H' ∧ Kn m g' H1 H' ∧ BenAt CR CB CM H' b r0 r1 w0 [] [] ∧ RowAt CR H' r0 (w0.map V.int) ∧ RowAt CR H' r1 (g0.map V.int) ∧ IsRow w0 n) (fun Z hZ => ?_) ?_
    · walk_at "s"
      refine ⟨m, c', g', cs, _, n, rfl, by omega, hD2, by omega, fun p ws A1 hw hp d1 k1 => ?_⟩
      refine make_at hp rfl hw (by omega) fun x0 A2 s2 h0 => ?_
      refine ⟨m, c', g', cs, _, n, rfl, by omega, d1.same s2, by omega, fun q gs A3 hg hq d3 k3 => ?_⟩
      refine make_at hq rfl hg (by omega) fun x1 A4 s4 h1 => ?_
      refine ben_new ((rowAt_kn (d1.same s2) k3 h0).same s4) h1 hw hg (by omega) fun b A5 s5 nb hB g0 g1 => ?_
      exact hZ _ _ ⟨b, x0, x1, ws, gs, rfl, ((d3.same s4).same s5).le (by omega), (((k12.trans k1).trans (Kn.of s2)).trans k3).trans ((Kn.of s4).trans (Kn.of s5)), hB, g0, g1, hw⟩
    rintro σ3 H3 ⟨b, r0, r1, w0, g0, rfl, hD3, k13, hB3, h03, h13, hw0⟩
    refine seq_q (fun σ' H' => ∃ (ws : List Int) (ps us : List (Nat × Nat)) (u4 u5 u6 u7 u8 u9 u10 u11 : Option V) (Nd : Nat), σ' = [some (.ref a), some (.ref m), some (.int (n : Nat)), some (.ref b), u4, u5, u6, u7, u8, u9, u10, u11, none] ∧ Nd ≤ 1000 ∧ DS m c' g' cs ⟨base, mg, T⟩ Nd H' ∧ BenAt CR CB CM H' b r0 r1 ws ps us ∧ RowAt CR H' r0 (w0.map V.int) ∧ RowAt CR H' r1 (g0.map V.int) ∧ IsRow ws n ∧ ps.length ≤ 100) (fun D2 eD2 hZ2 => ?_) ?_
    · obtain ⟨Tn, hT8, eT⟩ : ∃ Tn : Nat, Tn ≤ 8 ∧ ((3 : Int) + (if (5 : Int) < ((ns.map V.int).length : Nat) then (5 : Int) else ((ns.map V.int).length : Nat))) = (Tn : Nat) := by
        rw [List.length_map]
        by_cases z : (5 : Int) < (ns.length : Nat)
        · exact ⟨8, by omega, by rw [if_pos z]; rfl⟩
        · exact ⟨3 + ns.length, by omega, by rw [if_neg z]; omega⟩
      refine ⟨_, rfl, a, _, rfl, .inl (hSA _ k13), _, _, rfl, _, _, rfl, rfl, (Tn : Int), congrArg (fun z => [V.int z]) eT, by omega, by omega, ?_⟩
      rw [Int.toNat_natCast]
      refine for_it (walk_range (lo := 0) (n := Tn)) (fun i σ H' => ∃ (ws : List Int) (ps us : List (Nat × Nat)) (u4 u5 u6 u7 u8 u9 u10 u11 : Option V), σ = [some (.ref a), some (.ref m), some (.int (n : Nat)), some (.ref b), u4, u5, u6, u7, u8, u9, u10, u11, none] ∧ DS m c' g' cs ⟨base, mg, T⟩ (201 + 30 * i) H' ∧ BenAt CR CB CM H' b r0 r1 ws ps us ∧ RowAt CR H' r0 (w0.map V.int) ∧ RowAt CR H' r1 (g0.map V.int) ∧ IsRow ws n ∧ ps.length ≤ 5 * i ∧ us.length ≤ 0 ∧ GdP n ps)
        ⟨w0, [], [], none, none, none, none, none, none, none, none, rfl, hD3, hB3, h03, h13, hw0, by simp, by simp, (fun _ h => nomatch h)⟩ (fun _ _ _ _ _ => True.intro) ?_ ?_
      rotate_left
      · rintro σ H' ⟨ws, ps, us, u4, u5, u6, u7, u8, u9, u10, u11, rfl, hDD, hBB, q0, q1, q2, q3, q4, q5⟩
        exact hZ2 _ _ ⟨ws, ps, us, u4, u5, u6, u7, u8, u9, u10, u11, _, rfl, by omega, hDD, hBB, q0, q1, q2, by omega⟩
      rintro i x σ B1 B2 hi ⟨ws, ps, us, u4, u5, u6, u7, u8, u9, u10, u11, rfl, hDi, hBi, h0i, h1i, hw, lps, lus, hps⟩ ⟨rfl, rfl⟩
      obtain ⟨_, _, _, hm0, hg0, hc0, _⟩ := id hDi
      have us0 : us = [] := List.eq_nil_of_length_eq_zero (Nat.le_zero.mp lus)
      refine seq_nx (fun σ' H' => ∃ (l sh : Addr) (xs : List V) (os : List (Option (V × V))) (qs : List (Nat × Nat)), σ' = [some (.ref a), some (.ref m), some (.int (n : Nat)), some (.ref b), some (.int (i : Nat)), some (.ref l), some (.ref sh), u7, u8, u9, u10, u11, none] ∧ H' l = some (.lst xs) ∧ OdL g' H' xs os ∧ GdO os n qs ∧ xs.length ≤ 7 ∧ qs.length ≤ 5 ∧ ShAt H' sh w0 g0 ws ps ∧ l ≠ g' ∧ sh ≠ g' ∧ DS m c' g' cs ⟨base, mg, T⟩ (201 + 30 * i + 20) H' ∧ BenAt CR CB CM H' b r0 r1 ws ps us ∧ RowAt CR H' r0 (w0.map V.int) ∧ RowAt CR H' r1 (g0.map V.int)) (fun Z hZ => ?_) ?_
      · walk_at "s"
        refine ⟨m, c', g', cs, _, n, rfl, n1, by omega, hDi, by omega, fun l xs os qs C1 nl hl hO hg lx lq d1 k1 => ?_⟩
        refine ⟨b, r0, r1, w0, g0, ws, ps, us, rfl, hBi.kn hDi k1, rowAt_kn hDi k1 h0i, rowAt_kn hDi k1 h1i, by omega, fun sh C2 t2 ns hsh => ⟨sz_le (by decide), view_tup (VW.start (H := C2)) fun tp C3 v3 => ?_⟩⟩
        have s13 : Same C1 C3 := Same.tr2 t2 v3.fr
        refine ⟨_, SqT.of (v3.tu (tp, _) (.head _)), rfl, _, _, rfl, _, _, rfl, rfl, hZ _ _ ⟨l, sh, xs, os, qs, rfl, s13 _ _ hl, hO.keep (fun a u _ _ h => s13 _ _ h), hg, lx, lq, hsh.keep (fun a u _ _ h => v3.fr _ _ h), nl.ne hg0 rfl, ?_, d1.same s13, (hBi.kn hDi k1).same s13, (rowAt_kn hDi k1 h0i).same s13, (rowAt_kn hDi k1 h1i).same s13⟩⟩
        intro z
        obtain ⟨_, _, _, _, hg1, _⟩ := id d1
        rw [z, hg1] at ns
        cases ns
      rintro σA A1 ⟨l, sh, xs, os, qs, rfl, hlA, hOA, hGO, lxs, lqs, hShA, lg, shg, hDA, hBA, h0A, h1A⟩
      have lox := hOA.len
      refine seq_nx (fun σ' H' => ∃ (hv : V) (kl : Addr), σ' = [some (.ref a), some (.ref m), some (.int (n : Nat)), some (.ref b), some (.int (i : Nat)), some (.ref l), some (.ref sh), some hv, some (.ref kl), u9, u10, u11, none] ∧ Same A1 H' ∧ H' kl = some (.lst xs) ∧ A1 kl = none ∧ ((os.length ≠ qs.length ∧ hv = .non) ∨ (os.length = qs.length ∧ ∃ q, hv = .ref q ∧ H' q = some (.tup ((foldT ws qs).map V.int)) ∧ IsRow (foldT ws qs) n))) (fun Z hZ => ?_) ?_
      · walk_at "s"
        obtain ⟨a0, a1, a2, a3, a4, zs, sh1, sh2, _, _⟩ := hShA.cur
        refine ⟨_, sh1, _, rfl, .ref a2, rfl, a2, l, ws, n, xs, os, rfl, sh2, hw, by omega, hlA, by omega, hOA.stl, fun e C1 t1 => ?_, fun v q C1 e hv t1 hq => ?_⟩
        · refine ⟨_, t1 _ _ hlA, _, rfl, view_new (VW.start (H := C1)) fun kl C2 v2 => ⟨_, _, ⟨rfl, rfl⟩, hZ _ _ ⟨_, kl, rfl, Same.tr2 t1 v2.fr, v2.at_ (kl, _) (.head _), t1.free (v2.own (kl, _) (.head _)), .inl ⟨fun z => ?_, rfl⟩⟩⟩⟩
          rw [hGO.run, if_pos z] at e
          cases e
        · refine ⟨_, t1 _ _ hlA, _, rfl, view_new (VW.start (H := C1)) fun kl C2 v2 => ⟨_, _, ⟨rfl, rfl⟩, hZ _ _ ⟨_, kl, rfl, Same.tr2 t1 v2.fr, v2.at_ (kl, _) (.head _), t1.free (v2.own (kl, _) (.head _)), .inr ?_⟩⟩⟩
          by_cases z : os.length = qs.length
          · rw [hGO.run, if_pos z] at e
            cases e
            exact ⟨z, q, rfl, v2.fr _ _ hq, hv⟩
          · rw [hGO.run, if_neg z] at e
            cases e
      rintro σB B1' ⟨hv, kl, rfl, sAB, hkl, nkl, hhv⟩
      have klg : kl ≠ g' := fun z => by
        obtain ⟨_, _, _, _, hgA, _⟩ := id hDA
        rw [z, hgA] at nkl
        cases nkl
      have hDB := hDA.same sAB
      refine seq_nx (fun σ' H' => ∃ (hd : Addr) (o : HO), σ' = [some (.ref a), some (.ref m), some (.int (n : Nat)), some (.ref b), some (.int (i : Nat)), some (.ref l), some (.ref sh), some hv, some (.ref kl), some (.ref hd), u10, u11, none] ∧ Kn m g' B1' H' ∧ DS m c' g' cs ⟨base, mg, T⟩ (201 + 30 * i + 21) H' ∧ H' hd = some o ∧ (o = .lst xs ∨ o = .tup xs)) (fun Z hZ => ?_) ?_
      · walk_at "s"
        refine ⟨_, sAB _ _ hlA, _, rfl, view_tup (VW.start (H := B1')) fun tp C1 v1 => ⟨sz_le (by decide), view_new v1 fun pl C2 v2 => ?_⟩⟩
        have d2 := hDB.same v2.fr
        obtain ⟨_, _, _, hmB, hgB, _⟩ := id hDB
        have opl := v2.own (pl, _) (.head _)
        refine draw_ds (lim := 2) d2 (by decide) (by decide) (by omega) fun r C3 q0 q1 d3 k3 => ?_
        obtain ⟨r, rfl⟩ := Int.eq_ofNat_of_zero_le q0
        refine ⟨_, rfl, _, k3 _ _ (v2.at_ (pl, _) (.head _)) (fun z => by rw [z, hmB] at opl; cases opl) (fun z => by rw [z, hgB] at opl; cases opl) rfl, _, rfl, ?_⟩
        match r, q1 with
        | 0, _ => exact ⟨_, rfl, hZ _ _ ⟨l, .lst xs, rfl, (Kn.of v2.fr).trans k3, d3.le (by omega), kn_lst d2 k3 lg (v2.fr _ _ (sAB _ _ hlA)), .inl rfl⟩⟩
        | 1, _ => exact ⟨_, rfl, hZ _ _ ⟨tp, .tup xs, rfl, (Kn.of v2.fr).trans k3, d3.le (by omega), k3.at d2 (v2.tu (tp, _) (.head _)) rfl, .inr rfl⟩⟩
        | r + 2, z => exact absurd z (by omega)
      rintro σC C1 ⟨hd, o, rfl, kBC, hDC, hhd, ho⟩
      have hlC := kn_lst hDB kBC lg (sAB _ _ hlA)
      have hklC := kn_lst hDB kBC klg hkl
      have hOC : OdL g' C1 xs os := (hOA.keep fun a u _ _ h => sAB _ _ h).kn hDB kBC
      have hShC := (hShA.keep fun a u _ _ h => sAB _ _ h).kn hDB kBC shg
      have hBC := (hBA.same sAB).kn hDB kBC
      have h0C := rowAt_kn hDB kBC (h0A.same sAB)
      have h1C := rowAt_kn hDB kBC (h1A.same sAB)
      have hTC : TabsN base mg T C1 := hDC.tabs
      obtain ⟨dxC, _, _, _, _, _, _, hbC, _⟩ := id hBC
      refine seq_q (fun σ' H' => ∃ (u10 u11 : Option V) (ws' : List Int) (ps' : List (Nat × Nat)), σ' = [some (.ref a), some (.ref m), some (.int (n : Nat)), some (.ref b), some (.int (i : Nat)), some (.ref l), some (.ref sh), some hv, some (.ref kl), some (.ref hd), u10, u11, none] ∧ KB b C1 H' ∧ BenAt CR CB CM H' b r0 r1 ws' ps' us ∧ TabsN base mg T H' ∧ IsRow ws' n ∧ GdP n ps' ∧ ps'.length ≤ ps.length + 5) (fun D3 eD3 hZ3 => ?_) ?_
      · walk_at "s"
        rcases hhv with ⟨ne, rfl⟩ | ⟨el, q, rfl, hqB, hwq⟩
        · rw [if_pos rfl]
          have klt : qs.length < os.length := by
            rcases hGO.nx with e | ⟨o, e, _⟩
            · exact absurd e ne
            · exact (List.getElem?_eq_some_iff.mp e).1
          obtain ⟨a0, a1, a2, a3, a4, zs, sh1, sh2, _, _⟩ := hShC.cur
          refine ⟨_, rfl, ?_⟩
          dsimp only [tNil, rLenF]
          refine ⟨l, rfl, _, hlC, xs, rfl, (xs.length : Nat), rfl, by omega, by omega, fun D hD' => ?_⟩
          rw [Int.toNat_natCast]
          refine lc_it (walk_range (lo := 0) (n := xs.length)) (fun i H' => Same C1 H' ∧ H' D = some (.lst ((List.range' qs.length (i - qs.length)).map fun j => V.int (j : Nat)))) ⟨Same.new hD', by rw [Nat.zero_sub]; exact upd_same⟩ (fun _ _ _ _ => True.intro) ?_ ?_
          · rintro j x H2 H3 hj ⟨s2, hv⟩ ⟨rfl, rfl⟩
            refine ⟨rfl, ?_⟩
            walk_at "s"
            refine ⟨_, rfl, sh, rfl, _, s2 _ _ sh1, _, rfl, .ref a2, rfl, _, rfl, _, rfl, (j : Nat), rfl, l, rfl, xs, s2 _ _ hlC, view_new (VW.start (H := H3)) fun p2 A3 w3 => ?_⟩
            have ej : ((j : Nat) : Int) + 1 = ((j + 1 : Nat) : Int) := by omega
            have hp2 := w3.at_ (p2, _) (.head _)
            rw [ej, cut_t (by omega)] at hp2
            have lo : (os.take (j + 1)).length = j + 1 := by rw [List.length_take]; omega
            have lq2 : (qs.take (j + 1)).length = min (j + 1) qs.length := by rw [List.length_take]
            refine ⟨a2, p2, ws, n, xs.take (j + 1), os.take (j + 1), rfl, w3.fr _ _ (s2 _ _ sh2), hw, by omega, hp2, by rw [List.length_take]; omega, ((hOC.keep fun a u _ _ h => w3.fr _ _ (s2 _ _ h)).take (j + 1)).stl, fun e A4 t4 => ?_, fun v q A4 e hv' t4 hq => ?_⟩
            · have hkj : qs.length ≤ j := by
                refine Nat.le_of_not_lt fun h => ?_
                rw [(hGO.cut (j + 1)).run, if_pos (by omega)] at e
                cases e
              dsimp only
              rw [if_pos rfl]
              have hD4 := t4 _ _ (w3.fr _ _ hv)
              refine ⟨_, rfl, _, hD4, sz_lt (by simp; omega), fun c u h => ?_, ?_⟩
              · rw [upd_ne (fun z => by rw [z, hD'] at h; cases h)]
                exact t4 _ _ (w3.fr _ _ (s2 _ _ h))
              · rw [upd_same, show j + 1 - qs.length = (j - qs.length) + 1 by omega, List.range'_1_concat, List.map_append, show qs.length + (j - qs.length) = j by omega]
                rfl
            · have hkj : j < qs.length := by
                refine Nat.lt_of_not_le fun h => ?_
                rw [(hGO.cut (j + 1)).run, if_neg (by omega)] at e
                cases e
              dsimp only
              rw [if_neg (fun z => by cases z)]
              exact ⟨fun c u h => t4 _ _ (w3.fr _ _ (s2 _ _ h)), by rw [show j + 1 - qs.length = j - qs.length by omega]; exact t4 _ _ (w3.fr _ _ hv)⟩
          · rintro H2 ⟨s2, hv⟩
            obtain ⟨oq, hoq, nok⟩ : ∃ o, os[qs.length]? = some o ∧ stOk ((n : Int) - 1) o = false := by
              rcases hGO.nx with e | h
              · exact absurd e ne
              · exact h
            obtain ⟨y, hy, hyO⟩ := hOC.get hoq
            obtain ⟨d, ed⟩ : ∃ d, xs.length - qs.length = d + 1 := ⟨xs.length - qs.length - 1, by omega⟩
            rw [ed, List.range'_succ, List.map_cons] at hv
            refine ⟨D, rfl, _, hv, _, rfl, .int (qs.length : Nat), by show atI _ ((0 : Nat) : Int) = _; rw [at_nn]; rfl, ?_⟩
            refine told_anyN (TabsN.ext hTC s2) (.inl hOw) fun c1 P1 G1 Qx eN T1 hc1 hx => ?_
            have hBG := (hBC.same s2).extN eN
            obtain ⟨dxG, _, _, _, _, _, _, hbG, _⟩ := id hBG
            have eC : LamX.ExtN C1 G1 := (LamX.ExtN.of s2).trans eN
            have ohd : G1 hd = some o := by
              rcases ho with rfl | rfl <;> exact eC _ _ hhd (noTbl_ne rfl)
            have hPG : PrL G1 (xs.take qs.length) qs := by
              have h := (hOC.take qs.length)
              rw [hGO.tk] at h
              exact (h.prl).extN eC
            refine ⟨_, rfl, b, dxG, _, rfl, hbG, rfl, _, rfl, ?_⟩
            show spDoAll K C CR CB CM [.ref b, .ref hd] G1 Qx (Et C _)
            refine ⟨b, r0, r1, .ref hd, ws, ps, us, n, rfl, hBG, hw, by omega, by omega, .inl ⟨hd, o, xs, qs.length, qs, rfl, ohd, ho, by omega, by omega, rfl, hPG, hGO.gd, .inr ⟨y, oq, hy, fun G2 t2 => ?_, nok, fun d G2 t2 hd2 => ⟨.turn, rfl, .inl ⟨rfl, d, _, rfl, hd2, fun p G3 t3 hp => ?_⟩⟩⟩⟩⟩
            · exact (hyO.keep fun a u _ nt h => t2 _ _ (eC _ _ h (noTbl_ne nt))).stV
            have k3 : KB b C1 G3 := (KB.ofN eC).trans (KB.of (Same.tr2 t2 t3))
            refine ⟨sz_le (by decide), view_tup (VW.start (H := G3)) fun u1 G4 v4 => ?_⟩
            have k4 := k3.trans (KB.of v4.fr)
            have hB4 := ((hBG.same t2).same t3).same v4.fr
            have t24 : Same G1 G4 := Same.tr2 (Same.tr2 t2 t3) v4.fr
            have hT4 : TabsN base mg T G4 := TabsN.ext (TabsN.tail T1) t24
            refine ⟨.tuple [.str "BadTurn", .int (qs.length : Nat)], .tuple [.str "BadTurn", .int (qs.length : Nat)], .tup (SqT.of (v4.fr _ _ hp)) (.cons (.str _) (.cons (.int _) .nil)), .tup (SqT.of (v4.tu (u1, _) (.head _))) (.cons (.str _) (.cons (.int _) .nil)), shp_bt _, shp_bt _, .inl ⟨congrArg V.bl ?_, ?_⟩⟩
            · rw [SeqAt.eqv_refl _ (SeqAt.canLay_of_shaped (shp_bt _))]
              rfl
            refine ⟨b, r0, r1, w0, g0, ws, ps, us, rfl, hB4, rowAt_kb h0C k4 hbC N.br, rowAt_kb h1C k4 hbC N.br, by omega, fun l5 G5 t5 _ sh5 => ?_⟩
            have sh4 := (hShC.keep (k4.ni hbC)).keep (H' := G5) fun c u _ _ h => t5 _ _ h
            refine ⟨_, _, sh5.dp, sh4.dp, shp_sh _ _ _ _, shp_sh _ _ _ _, .inl ⟨congrArg V.bl (by rw [sh_self]; rfl), hZ3 _ _ ⟨_, _, ws, ps, rfl, k4.trans (KB.of t5), hB4.same t5, TabsN.ext hT4 t5, hw, hps, by omega⟩⟩⟩
        · rw [if_neg (fun z => by cases z)]
          have eo : os = qs.map prO := by rw [← hGO.tk, ← el, List.take_length]
          have hPC : PrL C1 xs qs := (eo ▸ hOC).prl
          have hqC := kBC.at hDB hqB rfl
          refine ⟨b, r0, r1, l, q, w0, g0, ws, ps, us, qs, n, xs, rfl, hBC, h0C, h1C, hw, by omega, by omega, by omega, hps, hlC, hPC, hGO.gd, by omega, hqC, hTC, fun F1 kF hBF hTF => ?_⟩
          refine .inr ⟨rfl, ?_⟩
          have ni := kF.ni hbC
          obtain ⟨dxF, _, _, _, _, _, _, hbF, _⟩ := id hBF
          have hlF := ni _ _ (fun _ _ _ z => by cases z) rfl hlC
          have hPF : PrL F1 xs qs := Paired.mapP hPC fun _ _ ⟨a, e, ha⟩ => ⟨a, e, ni _ _ (fun _ _ _ z => by cases z) rfl ha⟩
          have hqF := ni _ _ (fun _ _ _ z => by cases z) rfl hqC
          have ohd : F1 hd = some o := by
            rcases ho with rfl | rfl <;> exact ni _ _ (fun _ _ _ z => by cases z) rfl hhd
          have lx := hPF.len
          -- what stands behind do_all
          have use : ∀ {Q : VK} {E' : XK}, (∀ p F2, SmX b F1 F2 → BenAt CR CB CM F2 b r0 r1 (foldT ws qs) (ps ++ qs) us → RowAt CR F2 p ((foldT ws qs).map V.int) → Q (.ref p) F2) → spDoAll K C CR CB CM [.ref b, .ref hd] F1 Q E' := by
            intro Q E' kz
            refine ⟨b, r0, r1, .ref hd, ws, ps, us, n, rfl, hBF, hw, by omega, by omega, .inl ⟨hd, o, xs, xs.length, qs, rfl, ohd, ho, Nat.le_refl _, by omega, lx.symm, by rw [List.take_length]; exact hPF, hGO.gd, .inl ⟨rfl, fun eq p F2 t2 hr2 => ?_, fun nq p F2 s2 hB2 hr2 => kz p F2 s2 (by rw [us0]; exact hB2) hr2⟩⟩⟩
            refine kz p F2 (SmX.of t2) ?_ ?_
            · rw [eq, List.append_nil]
              exact hBF.same t2
            · rw [eq]
              exact hr2
          refine ⟨dxF, _, hbF, (by intro a b hm; simp at hm; rcases hm with ⟨rfl, _⟩ | ⟨rfl, _⟩ | ⟨rfl, _⟩ <;> decide), use fun p F2 s2 hB2 hr2 => ?_⟩
          obtain ⟨dx2, _, _, _, _, _, _, hb2, _⟩ := id hB2
          have k2 : KB b C1 F2 := kF.trans (KB.ofX s2)
          have ni2 := k2.ni hbC
          have t2 : ∀ {a : Addr} {zs : List V}, C1 a = some (.tup zs) → F2 a = some (.tup zs) := fun h => ni2 _ _ (fun _ _ _ z => by cases z) rfl h
          refine ⟨p, q, foldT ws qs, n, rfl, hr2, t2 hqC, hwq, by omega, .inr ⟨rfl, dx2, _, hb2, (by intro a b hm; simp at hm; rcases hm with ⟨rfl, _⟩ | ⟨rfl, _⟩ | ⟨rfl, _⟩ <;> decide), b, r0, r1, _, _, us, rfl, hB2, fun td zs htd hPt => ?_⟩⟩
          obtain ⟨a0, a1, a2, a3, a4, zs0, sh1, sh2, sh3, shP⟩ := hShC.cur
          have l0 := shP.len
          refine ⟨_, ni2 _ _ (fun _ _ _ z => by cases z) rfl sh1, _, rfl, .ref a4, rfl, _, ni2 _ _ (fun _ _ _ z => by cases z) rfl hlC, _, rfl, view_tup (VW.start (H := F2)) fun z1 F3 v3 => ⟨a4, rfl, _, v3.fr _ _ (t2 sh3), _, v3.tu (z1, _) (.head _), sz_le (show zs0.length + xs.length ≤ 16777216 by omega), view_tup v3 fun z2 F4 v4 => ?_⟩⟩
          have hP2 : PrL F4 (zs0 ++ xs) (ps ++ qs) := PrL.app (Paired.mapP shP fun _ _ ⟨a, e, ha⟩ => ⟨a, e, v4.fr _ _ (t2 ha)⟩) (Paired.mapP hPC fun _ _ ⟨a, e, ha⟩ => ⟨a, e, v4.fr _ _ (t2 ha)⟩)
          refine ⟨_, _, .tup (SqT.of (v4.fr _ _ htd)) (hPt.same v4.fr).dp, .tup (SqT.of (v4.tu (z2, _) (.head _))) hP2.dp, shp_tp _, shp_tp _, .inl ⟨congrArg V.bl (by rw [SeqAt.eqv_refl _ (SeqAt.canLay_of_shaped (shp_tp _))]; rfl), hZ3 _ _ ⟨_, _, foldT ws qs, ps ++ qs, rfl, k2.trans (KB.of v4.fr), hB2.same v4.fr, TabsN.ext (TabsN.smx hTF s2 hbF) v4.fr, hwq, fun p hp => (List.mem_append.mp hp).elim (hps p) (hGO.gd p), by rw [List.length_append]; omega⟩⟩⟩
      rintro σE E1 ⟨u10', u11', ws', ps', rfl, kCE, hBE, hTE, hwE, hpE, lpE⟩
      have hDE := ds_kb hDC kCE hbC hTE
      have ni := kCE.ni hbC
      have ohE : E1 hd = some o := by
        rcases ho with rfl | rfl <;> exact ni _ _ (fun _ _ _ z => by cases z) rfl hhd
      have hsq : sq o = some xs := by rcases ho with rfl | rfl <;> rfl
      have hOE : OdL g' E1 xs os := hOC.keep ni
      have hkE := ni _ _ (fun _ _ _ z => by cases z) rfl hklC
      walk_at "s"
      refine ⟨_, ohE, _, hsq, view_new (VW.start (H := E1)) fun z1 E2 v2 => ?_⟩
      obtain ⟨ds2, hds2, hsh2⟩ := (hOE.keep (H' := E2) fun a u _ _ h => v2.fr _ _ h).dp (K := K)
      refine ⟨.list ds2, .list ds2, .lst (SqL.of (v2.at_ (z1, _) (.head _))) hds2, .lst (SqL.of (v2.fr _ _ hkE)) hds2, hsh2, hsh2, .inl ⟨congrArg V.bl (by rw [SeqAt.eqv_refl _ (SeqAt.canLay_of_shaped hsh2)]; rfl), ?_⟩⟩
      have kE2 : KB b C1 E2 := kCE.trans (KB.of v2.fr)
      have h0E := rowAt_kb h0C kE2 hbC N.br
      have h1E := rowAt_kb h1C kE2 hbC N.br
      have hB2 := hBE.same v2.fr
      have hD2' := hDE.same v2.fr
      obtain ⟨dxE, _, _, _, _, _, _, hbE, _⟩ := id hB2
      refine ⟨m, c', g', b, r0, r1, cs, w0, g0, ws', ps', us, _, n, rfl, hD2', by omega, hB2, h0E, h1E, hwE, n1, by omega, by omega, by omega, hpE, by rw [us0]; exact (fun _ h => nomatch h), fun E3 ws2 ps2 us2 km hD3 hB3 hw3 hp3 hu3 e1 e2 => ?_⟩
      exact .inr ⟨rfl, hD3.le (by omega), ws2, ps2, us2, hB3, rowAt_km h0E hD2' km hbE N.br, rowAt_km h1E hD2' km hbE N.br, hw3, by omega, List.eq_nil_of_length_eq_zero (by omega), hp3⟩
    rintro σ4 H4 ⟨ws, ps, us, u4, u5, u6, u7, u8, u9, u10, u11, Nd, rfl, hNd, hD4, hB4, h04, h14, hw, lps⟩
    have hTn : TabsN base mg T H4 := hD4.tabs
    obtain ⟨dx4, _, _, _, _, _, _, hb4, _⟩ := id hB4
    refine seq_q (fun σ' H' => σ' = [some (.ref a), some (.ref m), some (.int (n : Nat)), some (.ref b), u4, u5, u6, u7, u8, u9, u10, u11, none] ∧ DS m c' g' cs ⟨base, mg, T⟩ Nd H' ∧ BenAt CR CB CM H' b r0 r1 ws ps us) (fun D2 eD2 hZ2 => ?_) ?_
    · walk_at "s"
      refine ⟨b, r0, r1, w0, g0, ws, ps, us, n, rfl, hB4, h04, h14, hw, n1, by omega, by omega, hTn, fun H5 k5 hB5 T5 => ?_⟩
      exact .inr ⟨rfl, hZ2 _ _ ⟨rfl, ds_kb hD4 k5 hb4 T5, hB5⟩⟩
    rintro σ5 H5 ⟨rfl, hD5, hB5⟩
    refine seq_q (fun σ' H' => ∃ x t, σ' = [some (.ref a), some (.ref m), some (.int (n : Nat)), some (.ref b), u4, u5, u6, u7, u8, u9, u10, u11, some x] ∧ DS m c' g' cs ⟨base, mg, T⟩ (Nd + 1) H' ∧ BenAt CR CB CM H' b r0 r1 ws ps us ∧ (∀ A, LamX.ExtN H' A → TyX K A x t) ∧ PySem.W.kitAny K t [.type "list", .type "tuple"] = some false) (fun D2 eD2 hZ2 => ?_) ?_
    · walk_at "s"
      intro pd nd
      have s1 := Same.new (o := HO.dK []) nd
      refine ⟨sz_le (by decide), view_new (VW.start (H := upd H5 pd (.dK []))) fun pl A2 v2 => ?_⟩
      have d2 := (hD5.same s1).same v2.fr
      obtain ⟨_, _, _, hm5, hg5, _⟩ := id hD5
      refine draw_ds (lim := 5) d2 (by decide) (by decide) (by omega) fun r A3 q0 q1 d3 k3 => ?_
      obtain ⟨r, rfl⟩ := Int.eq_ofNat_of_zero_le q0
      have hpd := k3 _ _ (v2.fr _ _ upd_same) (fun z => by rw [z, hm5] at nd; cases nd) (fun z => by rw [z, hg5] at nd; cases nd) rfl
      have hB3 := ((hB5.same s1).same v2.fr).kn d2 k3
      have opl := v2.own (pl, _) (.head _)
      obtain ⟨_, _, _, hm6, hg6, _⟩ := id (hD5.same s1)
      refine ⟨_, rfl, _, k3 _ _ (v2.at_ (pl, _) (.head _)) (fun z => by rw [z, hm6] at opl; cases opl) (fun z => by rw [z, hg6] at opl; cases opl) rfl, _, rfl, ?_⟩
      have no : ∀ {t : String}, PySem.W.kitOne K (.type t) (.type "list") = some false → PySem.W.kitOne K (.type t) (.type "tuple") = some false → PySem.W.kitAny K (.type t) [.type "list", .type "tuple"] = some false := fun h1 h2 => kitAny_cons (b := false) h1 (fun _ => kitAny_cons (b := false) h2 (fun _ => rfl) (fun z => nomatch z)) (fun z => nomatch z)
      match r, q1 with
      | 0, _ => exact ⟨_, rfl, hZ2 _ _ ⟨_, _, rfl, d3, hB3, fun A e => .base .non, no (kit_ty (by decide +kernel)) (kit_ty (by decide +kernel))⟩⟩
      | 1, _ => exact ⟨_, rfl, hZ2 _ _ ⟨_, _, rfl, d3, hB3, fun A e => .base (.int _), no (kit_ty (by decide +kernel)) (kit_ty (by decide +kernel))⟩⟩
      | 2, _ => exact ⟨_, rfl, hZ2 _ _ ⟨_, _, rfl, d3, hB3, fun A e => .base (.str _), no (kit_ty (by decide +kernel)) (kit_ty (by decide +kernel))⟩⟩
      | 3, _ => exact ⟨_, rfl, hZ2 _ _ ⟨_, _, rfl, d3, hB3, fun A e => .base (.dK (e _ _ hpd (noTbl_ne rfl))), no (kit_ty (by decide +kernel)) (kit_ty (by decide +kernel))⟩⟩
      | 4, _ => exact ⟨_, rfl, hZ2 _ _ ⟨_, _, rfl, d3, hB3, fun A e => .base (.bl _), no (kit_ty (by decide +kernel)) (kit_ty (by decide +kernel))⟩⟩
      | r + 5, z => exact absurd z (by omega)
    rintro σ6 H6 ⟨x, t, rfl, hD6, hB6, ty, kt⟩
    walk_at "s"
    refine told_anyN hD6.tabs (.inl hOw) fun c1 P1 A1 Qx eN T1 hc1 hx => ?_
    have hBA := hB6.extN eN
    obtain ⟨dxA, _, _, _, _, _, _, hbA, _⟩ := id hBA
    refine ⟨_, rfl, b, dxA, _, rfl, hbA, rfl, _, rfl, ?_⟩
    show spDoAll K C CR CB CM [.ref b, x] A1 Qx (Et C _)
    refine ⟨b, r0, r1, x, ws, ps, us, n, rfl, hBA, hw, by omega, by omega, .inr ⟨fun A2 s2 => ⟨t, ty _ (eN.trans (LamX.ExtN.of s2)), kt⟩, fun d A2 s2 hd => ⟨.turn, rfl, .inl ⟨rfl, d, _, rfl, hd, fun p A3 s3 hp => ?_⟩⟩⟩⟩
    refine ⟨sz_le (by decide), view_tup (VW.start (H := A3)) fun u1 A4 v4 => ?_⟩
    refine ⟨.tuple [.str "BadTurn", .none], .tuple [.str "BadTurn", .none], .tup (SqT.of (v4.fr _ _ hp)) (.cons (.str _) (.cons .non .nil)), .tup (SqT.of (v4.tu (u1, _) (.head _))) (.cons (.str _) (.cons .non .nil)), by decide +kernel, by decide +kernel, ?_⟩
    exact k A4
/-- the beginning: all tables are empty -/
def spLaw0 (K : PySem.W.Frag) (T : TbL) : Sp := fun vs H Q _ => ∃ (a : Addr) (ns : List Int), vs = [.ref a] ∧ SqL K H a (ns.map V.int) ∧ ns.length ≤ 63 ∧ (∀ p ∈ T, H p.1 = some (.tbl #[])) ∧ ∀ H', Q (.bl true) H'
theorem law_start {T : TbL} {k : Nat} {f : Addr} {fd : FuncData} (hB : ∀ p ∈ T, base.BuiltinsAt mg p.1 ∧ mainGlobals ≠ p.1) (u : ∀ p ∈ T, ∀ q ∈ T, p.1 = q.1 → p.2 = q.2) (F : FnG P' w K mg base CX0 k f fd ["script"] (spLaw K ⟨base, mg, T⟩)) : FnG P' w K mg base CX0 k f fd ["script"] (spLaw0 K T) := by
  have go : ∀ {vs : List V} {H : Hp} {Q : VK} {E : XK}, spLaw0 K T vs H Q E → spLaw K ⟨base, mg, T⟩ vs H Q E := fun ⟨a, ns, e, hS, hl, hT, k⟩ => ⟨a, ns, e, hS, hl, TabsN.start (fun p hp => ⟨hT p hp, hB p hp⟩) u, k⟩
  exact ⟨fun vs H Q E h => F.len vs H Q E (go h), fun A outer s H args us vs Q E hg hr e hb hv h => F.run A outer s H args us vs Q E hg hr e hb hv (go h)⟩
end
end Fab
set_option maxHeartbeats 2000000
namespace Fab
open PySem L2 PySem.FabX
def kdC (c1 c2 c3 c4 c5 c6 c7 c8 c9 : Addr) : Kd → Addr
  | .row => c1 | .turn => c2 | .place => c3 | .number => c4 | .other => c5 | .great => c6 | .text => c7 | .way => c8 | .nothing => c9
theorem all_mk {l : PySem.W.OpenLaw} {w : World} {K : PySem.W.Frag} {h : Heap} {mg : Str → Option Value} {fa : Addr} (X : K.In h) (G : h.Ns mainGlobals mg) (hfa : mg "law" = some (.ref fa))
    {CR : Addr} {tM : Tok} {CF c1 c2 c3 c4 c5 c6 c7 c8 c9 : Addr} {nmX1I qX1I : Str} {NX1I : Addr} {bsX1I bmX1I subX1I : List Value} {snX1I : List Str} {abX1I : Bool} {colX1I : Option Bool} {ddX1I : Option Addr} {m0X1I m1X1I m2X1I m3X1I m5X1I : Option Value} {fX1I : Addr} {odX1I anX1I : Option Addr} {slX1I : Array (Option Value)} {ocX1I kVX1I dcX1I pmX1I cdX1I ctX1I : Value} {nmX2I qX2I : Str} {NX2I : Addr} {bsX2I bmX2I subX2I : List Value} {snX2I : List Str} {abX2I : Bool} {colX2I : Option Bool} {ddX2I : Option Addr} {m0X2I m1X2I m2X2I m3X2I m5X2I : Option Value} {fX2I : Addr} {odX2I anX2I : Option Addr} {slX2I : Array (Option Value)} {ocX2I kVX2I dcX2I pmX2I cdX2I ctX2I : Value} {nmX3I qX3I : Str} {NX3I : Addr} {bsX3I bmX3I subX3I : List Value} {snX3I : List Str} {abX3I : Bool} {colX3I : Option Bool} {ddX3I : Option Addr} {m0X3I m1X3I m2X3I m3X3I m5X3I : Option Value} {fX3I : Addr} {odX3I anX3I : Option Addr} {slX3I : Array (Option Value)} {ocX3I kVX3I dcX3I pmX3I cdX3I ctX3I : Value} {nmX4I qX4I : Str} {NX4I : Addr} {bsX4I bmX4I subX4I : List Value} {snX4I : List Str} {abX4I : Bool} {colX4I : Option Bool} {ddX4I : Option Addr} {m0X4I m1X4I m2X4I m3X4I m5X4I : Option Value} {fX4I : Addr} {odX4I anX4I : Option Addr} {slX4I : Array (Option Value)} {ocX4I kVX4I dcX4I pmX4I cdX4I ctX4I : Value} {nmX6I qX6I : Str} {NX6I : Addr} {bsX6I bmX6I subX6I : List Value} {snX6I : List Str} {abX6I : Bool} {colX6I : Option Bool} {ddX6I : Option Addr} {m0X6I m1X6I m2X6I m3X6I m5X6I : Option Value} {fX6I : Addr} {odX6I anX6I : Option Addr} {slX6I : Array (Option Value)} {ocX6I kVX6I dcX6I pmX6I cdX6I ctX6I : Value} {nmX7I qX7I : Str} {NX7I : Addr} {bsX7I bmX7I subX7I : List Value} {snX7I : List Str} {abX7I : Bool} {colX7I : Option Bool} {ddX7I : Option Addr} {m0X7I m1X7I m2X7I m3X7I m5X7I : Option Value} {fX7I : Addr} {odX7I anX7I : Option Addr} {slX7I : Array (Option Value)} {ocX7I kVX7I dcX7I pmX7I cdX7I ctX7I : Value} {nmX8I qX8I : Str} {NX8I : Addr} {bsX8I bmX8I subX8I : List Value} {snX8I : List Str} {abX8I : Bool} {colX8I : Option Bool} {ddX8I : Option Addr} {m0X8I m1X8I m2X8I m3X8I m5X8I : Option Value} {fX8I : Addr} {odX8I anX8I : Option Addr} {slX8I : Array (Option Value)} {ocX8I kVX8I dcX8I pmX8I cdX8I ctX8I : Value} {fMixed : Addr} {odMixed anMixed : Option Addr} {slMixed : Array (Option Value)} {ocMixed kVMixed dcMixed pmMixed ctMixed cdMixed : Value} {fDraw : Addr} {odDraw anDraw : Option Addr} {slDraw : Array (Option Value)} {ocDraw kVDraw dcDraw pmDraw ctDraw cdDraw : Value} {fFolded : Addr} {odFolded anFolded : Option Addr} {slFolded : Array (Option Value)} {ocFolded kVFolded dcFolded pmFolded ctFolded cdFolded : Value} {fBegun : Addr} {odBegun anBegun : Option Addr} {slBegun : Array (Option Value)} {ocBegun kVBegun dcBegun pmBegun ctBegun cdBegun : Value} {fWhole : Addr} {odWhole anWhole : Option Addr} {slWhole : Array (Option Value)} {ocWhole kVWhole dcWhole pmWhole ctWhole cdWhole : Value} {fPair : Addr} {odPair anPair : Option Addr} {slPair : Array (Option Value)} {ocPair kVPair dcPair pmPair ctPair cdPair : Value} {fStretch : Addr} {odStretch anStretch : Option Addr} {slStretch : Array (Option Value)} {ocStretch kVStretch dcStretch pmStretch ctStretch cdStretch : Value} {fFault : Addr} {odFault anFault : Option Addr} {slFault : Array (Option Value)} {ocFault kVFault dcFault pmFault ctFault cdFault : Value} {fRI : Addr} {odRI anRI : Option Addr} {slRI : Array (Option Value)} {ocRI kVRI dcRI pmRI cdRI ctRI : Value} {fRLen : Addr} {odRLen anRLen : Option Addr} {slRLen : Array (Option Value)} {ocRLen kVRLen dcRLen pmRLen cdRLen ctRLen : Value} {fREq : Addr} {odREq anREq : Option Addr} {slREq : Array (Option Value)} {ocREq kVREq dcREq pmREq cdREq ctREq : Value} {fTurning : Addr} {odTurning anTurning : Option Addr} {slTurning : Array (Option Value)} {ocTurning kVTurning dcTurning pmTurning ctTurning cdTurning : Value} {fPT : Addr} {odPT anPT : Option Addr} {slPT : Array (Option Value)} {ocPT kVPT dcPT pmPT ctPT cdPT : Value} {fLTurn : Addr} {odLTurn anLTurn : Option Addr} {slLTurn : Array (Option Value)} {ocLTurn kVLTurn dcLTurn pmLTurn ctLTurn cdLTurn : Value} {fRowT : Addr} {odRowT anRowT : Option Addr} {slRowT : Array (Option Value)} {ocRowT kVRowT dcRowT pmRowT ctRowT cdRowT : Value} {fClass : Addr} {odClass anClass : Option Addr} {slClass : Array (Option Value)} {ocClass kVClass dcClass pmClass ctClass cdClass : Value} {fRan : Addr} {odRan anRan : Option Addr} {slRan : Array (Option Value)} {ocRan kVRan dcRan pmRan ctRan cdRan : Value} {CB CM prP : Addr} {rsP : List Value} {fBRow : Addr} {odBRow anBRow : Option Addr} {slBRow : Array (Option Value)} {ocBRow kVBRow dcBRow pmBRow cdBRow ctBRow : Value} {fMI : Addr} {odMI anMI : Option Addr} {slMI : Array (Option Value)} {ocMI kVMI dcMI pmMI cdMI ctMI : Value} {fBI : Addr} {odBI anBI : Option Addr} {slBI : Array (Option Value)} {ocBI kVBI dcBI pmBI cdBI ctBI : Value} {fBLen : Addr} {odBLen anBLen : Option Addr} {slBLen : Array (Option Value)} {ocBLen kVBLen dcBLen pmBLen cdBLen ctBLen : Value} {fBDo : Addr} {odBDo anBDo : Option Addr} {slBDo : Array (Option Value)} {ocBDo kVBDo dcBDo pmBDo cdBDo ctBDo : Value} {fBUndo : Addr} {odBUndo anBUndo : Option Addr} {slBUndo : Array (Option Value)} {ocBUndo kVBUndo dcBUndo pmBUndo cdBUndo ctBUndo : Value} {fBRedo : Addr} {odBRedo anBRedo : Option Addr} {slBRedo : Array (Option Value)} {ocBRedo kVBRedo dcBRedo pmBRedo cdBRedo ctBRedo : Value} {fBTs : Addr} {odBTs anBTs : Option Addr} {slBTs : Array (Option Value)} {ocBTs kVBTs dcBTs pmBTs cdBTs ctBTs : Value} {fRun : Addr} {odRun anRun : Option Addr} {slRun : Array (Option Value)} {ocRun kVRun dcRun pmRun ctRun cdRun : Value} {CK CT : Addr} {fBDA : Addr} {odBDA anBDA : Option Addr} {slBDA : Array (Option Value)} {ocBDA kVBDA dcBDA pmBDA cdBDA ctBDA : Value} {fBTr : Addr} {odBTr anBTr : Option Addr} {slBTr : Array (Option Value)} {ocBTr kVBTr dcBTr pmBTr cdBTr ctBTr : Value} {fKI : Addr} {odKI anKI : Option Addr} {slKI : Array (Option Value)} {ocKI kVKI dcKI pmKI cdKI ctKI : Value} {fTI : Addr} {odTI anTI : Option Addr} {slTI : Array (Option Value)} {ocTI kVTI dcTI pmTI cdTI ctTI : Value} {fTE : Addr} {odTE anTE : Option Addr} {slTE : Array (Option Value)} {ocTE kVTE dcTE pmTE cdTE ctTE : Value} {fTX : Addr} {odTX anTX : Option Addr} {slTX : Array (Option Value)} {ocTX kVTX dcTX pmTX cdTX ctTX : Value} {fTried : Addr} {odTried anTried : Option Addr} {slTried : Array (Option Value)} {ocTried kVTried dcTried pmTried ctTried cdTried : Value} {fShown : Addr} {odShown anShown : Option Addr} {slShown : Array (Option Value)} {ocShown kVShown dcShown pmShown ctShown cdShown : Value} {fSome : Addr} {odSome anSome : Option Addr} {slSome : Array (Option Value)} {ocSome kVSome dcSome pmSome ctSome cdSome : Value} {fSlip : Addr} {odSlip anSlip : Option Addr} {slSlip : Array (Option Value)} {ocSlip kVSlip dcSlip pmSlip ctSlip cdSlip : Value} {fIsR : Addr} {odIsR anIsR : Option Addr} {slIsR : Array (Option Value)} {ocIsR kVIsR dcIsR pmIsR ctIsR cdIsR : Value} {fRefu cRefu : Addr} {odRefu anRefu : Option Addr} {slRefu : Array (Option Value)} {ocRefu kVRefu dcRefu pmRefu ctRefu : Value} {fOth cOth : Addr} {odOth anOth : Option Addr} {slOth : Array (Option Value)} {ocOth kVOth dcOth pmOth ctOth : Value} {fTri cTri : Addr} {odTri anTri : Option Addr} {slTri : Array (Option Value)} {ocTri kVTri dcTri pmTri ctTri : Value} {fAga cAga : Addr} {odAga anAga : Option Addr} {slAga : Array (Option Value)} {ocAga kVAga dcAga pmAga ctAga : Value} {fLaw cLaw : Addr} {odLaw anLaw : Option Addr} {slLaw : Array (Option Value)} {ocLaw kVLaw dcLaw pmLaw ctLaw : Value} {fTold : Addr} {odTold anTold : Option Addr} {slTold : Array (Option Value)} {ocTold kVTold dcTold pmTold ctTold cdTold : Value} {pLaw : Addr} {pRefu : Addr} {pOth : Addr} {pTri : Addr} {pAga : Addr}
    (aCR : PySem.W.nsIn K mainGlobals "Row" = some (some (.ref CR)))
    (rpg : PySem.W.plainGet K CR Str.empty = true)
    (rhd : PySem.W.hasDictIn K CR = true)
    (rpo : PySem.W.plainOver K CR = true)
    (rsa : PySem.W.findIn K (.ref CR) "__setattr__" = some (some (.builtin "object.__setattr__")))
    (rmk : PySem.W.makesIn K CR = true)
    (rkc : PySem.W.keepIn K (.ref CR) = true)
    (rnw : PySem.W.findIn K (.ref CR) "waggons" = some none)
    (rhc : PySem.W.findIn K (.ref CR) "__class__" = some (some (.builtin "object.__class__")))
    (rhm : PySem.W.mroIn K CR (.type "object") = some true)
    (rks : PySem.W.kitOne K (.ref CR) (.ref CR) = some true)
    (ohn : PySem.W.specialIn K (.builtin "object.__class__") "__get__" = some (some (.builtin "getset_descriptor.__get__")))
    (oht : PySem.W.takesIn K (.builtin "object.__class__") = some true)
    (aMost : PySem.W.nsIn K mainGlobals "MOST_WAGGONS" = some (some (.int 24 tM)))
    (aCF : PySem.W.nsIn K mainGlobals "FaceError" = some (some (.ref CF)))
    (aX1 : PySem.W.nsIn K mainGlobals "BadRow" = some (some (.ref c1)))
    (aX2 : PySem.W.nsIn K mainGlobals "BadTurn" = some (some (.ref c2)))
    (aX3 : PySem.W.nsIn K mainGlobals "BadPlace" = some (some (.ref c3)))
    (aX4 : PySem.W.nsIn K mainGlobals "BadNumber" = some (some (.ref c4)))
    (aX5 : PySem.W.nsIn K mainGlobals "OtherLength" = some (some (.ref c5)))
    (aX6 : PySem.W.nsIn K mainGlobals "TooGreat" = some (some (.ref c6)))
    (aX7 : PySem.W.nsIn K mainGlobals "BadText" = some (some (.ref c7)))
    (aX8 : PySem.W.nsIn K mainGlobals "BadWay" = some (some (.ref c8)))
    (aX9 : PySem.W.nsIn K mainGlobals "NothingLeft" = some (some (.ref c9)))
    (fgi : PySem.W.specialIn K (.ref CF) "__getattribute__" = some (some (.builtin "type.__getattribute__")))
    (frd : PySem.W.readsIn K CF (.type "type") = true)
    (ffi : PySem.W.findCls K (.ref CF) (.type "type") "__init__" = some (.val (.builtin "ValueError.__init__")))
    (ofi : PySem.W.findCls K (.type "OverflowError") (.type "type") "__init__" = some (.val (.builtin "OverflowError.__init__")))
    (xno : ∀ k : Kd, PySem.W.findIn K (.ref (kdC c1 c2 c3 c4 c5 c6 c7 c8 c9 k)) k.fld = some none)
    (xexc : ∀ k, ExcC K (kdC c1 c2 c3 c4 c5 c6 c7 c8 c9 k))
    (xkit : ∀ k j, PySem.W.kitOne K (.ref (kdC c1 c2 c3 c4 c5 c6 c7 c8 c9 k)) (.ref (kdC c1 c2 c3 c4 c5 c6 c7 c8 c9 j)) = some (decide (k = j)))
    (xkve : ∀ k, PySem.W.kitOne K (.ref (kdC c1 c2 c3 c4 c5 c6 c7 c8 c9 k)) (.type "ValueError") = some (!decide (k = .great)))
    (xxf : ∀ k, XfC K (kdC c1 c2 c3 c4 c5 c6 c7 c8 c9 k))
    (xany : ∀ k, PySem.W.exmAny K (.ref (kdC c1 c2 c3 c4 c5 c6 c7 c8 c9 k)) [.ref CF, .ref c6] = some true)
    (xlX1I : K.lookup c1 = some (excClassObj nmX1I qX1I c1 NX1I bsX1I bmX1I true snX1I subX1I abX1I colX1I ddX1I m0X1I m1X1I m2X1I m3X1I m5X1I "ValueError.__new__"))
    (xtX1I : PySem.W.excTail bmV bmX1I = true)
    (xsX1I : PySem.W.findIn K (.ref c1) "__setattr__" = some (some (.builtin "object.__setattr__")))
    (xbX1I : PySem.W.subIn K (.ref c1) (.type "BaseException") = some true)
    (xyX1I : PySem.W.typeIn K (.ref c1) = some (.type "type"))
    (xkX1I : PySem.W.keepIn K (.ref c1) = true)
    (aX1I : PySem.W.findIn K (.ref c1) "__init__" = some (some (.ref fX1I)))
    (iX1I : PySem.W.isFn K (.ref fX1I) = true)
    (lX1I : K.lookup fX1I = some ⟨ocX1I, odX1I, .func (PySem.W.fnOf "__init__" "BadRow.__init__" (defArgs sXRow) (defBody sXRow) (defScope sXRow) .none kVX1I dcX1I pmX1I anX1I cdX1I ctX1I), slX1I⟩)
    (cX1I : PySem.W.codeIn K cdX1I "BadRow.__init__" = true)
    (kX1I : PySem.W.keepIn K (.ref fX1I) = true)
    (xfX1I : PySem.W.typeIn K (.ref fX1I) = some (.type "function"))
    (xlX2I : K.lookup c2 = some (excClassObj nmX2I qX2I c2 NX2I bsX2I bmX2I true snX2I subX2I abX2I colX2I ddX2I m0X2I m1X2I m2X2I m3X2I m5X2I "ValueError.__new__"))
    (xtX2I : PySem.W.excTail bmV bmX2I = true)
    (xsX2I : PySem.W.findIn K (.ref c2) "__setattr__" = some (some (.builtin "object.__setattr__")))
    (xbX2I : PySem.W.subIn K (.ref c2) (.type "BaseException") = some true)
    (xyX2I : PySem.W.typeIn K (.ref c2) = some (.type "type"))
    (xkX2I : PySem.W.keepIn K (.ref c2) = true)
    (aX2I : PySem.W.findIn K (.ref c2) "__init__" = some (some (.ref fX2I)))
    (iX2I : PySem.W.isFn K (.ref fX2I) = true)
    (lX2I : K.lookup fX2I = some ⟨ocX2I, odX2I, .func (PySem.W.fnOf "__init__" "BadTurn.__init__" (defArgs sXTurn) (defBody sXTurn) (defScope sXTurn) .none kVX2I dcX2I pmX2I anX2I cdX2I ctX2I), slX2I⟩)
    (cX2I : PySem.W.codeIn K cdX2I "BadTurn.__init__" = true)
    (kX2I : PySem.W.keepIn K (.ref fX2I) = true)
    (xfX2I : PySem.W.typeIn K (.ref fX2I) = some (.type "function"))
    (xlX3I : K.lookup c3 = some (excClassObj nmX3I qX3I c3 NX3I bsX3I bmX3I true snX3I subX3I abX3I colX3I ddX3I m0X3I m1X3I m2X3I m3X3I m5X3I "ValueError.__new__"))
    (xtX3I : PySem.W.excTail bmV bmX3I = true)
    (xsX3I : PySem.W.findIn K (.ref c3) "__setattr__" = some (some (.builtin "object.__setattr__")))
    (xbX3I : PySem.W.subIn K (.ref c3) (.type "BaseException") = some true)
    (xyX3I : PySem.W.typeIn K (.ref c3) = some (.type "type"))
    (xkX3I : PySem.W.keepIn K (.ref c3) = true)
    (aX3I : PySem.W.findIn K (.ref c3) "__init__" = some (some (.ref fX3I)))
    (iX3I : PySem.W.isFn K (.ref fX3I) = true)
    (lX3I : K.lookup fX3I = some ⟨ocX3I, odX3I, .func (PySem.W.fnOf "__init__" "BadPlace.__init__" (defArgs sXPlace) (defBody sXPlace) (defScope sXPlace) .none kVX3I dcX3I pmX3I anX3I cdX3I ctX3I), slX3I⟩)
    (cX3I : PySem.W.codeIn K cdX3I "BadPlace.__init__" = true)
    (kX3I : PySem.W.keepIn K (.ref fX3I) = true)
    (xfX3I : PySem.W.typeIn K (.ref fX3I) = some (.type "function"))
    (xlX4I : K.lookup c4 = some (excClassObj nmX4I qX4I c4 NX4I bsX4I bmX4I true snX4I subX4I abX4I colX4I ddX4I m0X4I m1X4I m2X4I m3X4I m5X4I "ValueError.__new__"))
    (xtX4I : PySem.W.excTail bmV bmX4I = true)
    (xsX4I : PySem.W.findIn K (.ref c4) "__setattr__" = some (some (.builtin "object.__setattr__")))
    (xbX4I : PySem.W.subIn K (.ref c4) (.type "BaseException") = some true)
    (xyX4I : PySem.W.typeIn K (.ref c4) = some (.type "type"))
    (xkX4I : PySem.W.keepIn K (.ref c4) = true)
    (aX4I : PySem.W.findIn K (.ref c4) "__init__" = some (some (.ref fX4I)))
    (iX4I : PySem.W.isFn K (.ref fX4I) = true)
    (lX4I : K.lookup fX4I = some ⟨ocX4I, odX4I, .func (PySem.W.fnOf "__init__" "BadNumber.__init__" (defArgs sXNumber) (defBody sXNumber) (defScope sXNumber) .none kVX4I dcX4I pmX4I anX4I cdX4I ctX4I), slX4I⟩)
    (cX4I : PySem.W.codeIn K cdX4I "BadNumber.__init__" = true)
    (kX4I : PySem.W.keepIn K (.ref fX4I) = true)
    (xfX4I : PySem.W.typeIn K (.ref fX4I) = some (.type "function"))
    (xlX6I : K.lookup c6 = some (excClassObj nmX6I qX6I c6 NX6I bsX6I bmX6I true snX6I subX6I abX6I colX6I ddX6I m0X6I m1X6I m2X6I m3X6I m5X6I "OverflowError.__new__"))
    (xtX6I : PySem.W.excTail bmO bmX6I = true)
    (xsX6I : PySem.W.findIn K (.ref c6) "__setattr__" = some (some (.builtin "object.__setattr__")))
    (xbX6I : PySem.W.subIn K (.ref c6) (.type "BaseException") = some true)
    (xyX6I : PySem.W.typeIn K (.ref c6) = some (.type "type"))
    (xkX6I : PySem.W.keepIn K (.ref c6) = true)
    (aX6I : PySem.W.findIn K (.ref c6) "__init__" = some (some (.ref fX6I)))
    (iX6I : PySem.W.isFn K (.ref fX6I) = true)
    (lX6I : K.lookup fX6I = some ⟨ocX6I, odX6I, .func (PySem.W.fnOf "__init__" "TooGreat.__init__" (defArgs sXGreat) (defBody sXGreat) (defScope sXGreat) .none kVX6I dcX6I pmX6I anX6I cdX6I ctX6I), slX6I⟩)
    (cX6I : PySem.W.codeIn K cdX6I "TooGreat.__init__" = true)
    (kX6I : PySem.W.keepIn K (.ref fX6I) = true)
    (xfX6I : PySem.W.typeIn K (.ref fX6I) = some (.type "function"))
    (xlX7I : K.lookup c7 = some (excClassObj nmX7I qX7I c7 NX7I bsX7I bmX7I true snX7I subX7I abX7I colX7I ddX7I m0X7I m1X7I m2X7I m3X7I m5X7I "ValueError.__new__"))
    (xtX7I : PySem.W.excTail bmV bmX7I = true)
    (xsX7I : PySem.W.findIn K (.ref c7) "__setattr__" = some (some (.builtin "object.__setattr__")))
    (xbX7I : PySem.W.subIn K (.ref c7) (.type "BaseException") = some true)
    (xyX7I : PySem.W.typeIn K (.ref c7) = some (.type "type"))
    (xkX7I : PySem.W.keepIn K (.ref c7) = true)
    (aX7I : PySem.W.findIn K (.ref c7) "__init__" = some (some (.ref fX7I)))
    (iX7I : PySem.W.isFn K (.ref fX7I) = true)
    (lX7I : K.lookup fX7I = some ⟨ocX7I, odX7I, .func (PySem.W.fnOf "__init__" "BadText.__init__" (defArgs sXText) (defBody sXText) (defScope sXText) .none kVX7I dcX7I pmX7I anX7I cdX7I ctX7I), slX7I⟩)
    (cX7I : PySem.W.codeIn K cdX7I "BadText.__init__" = true)
    (kX7I : PySem.W.keepIn K (.ref fX7I) = true)
    (xfX7I : PySem.W.typeIn K (.ref fX7I) = some (.type "function"))
    (xlX8I : K.lookup c8 = some (excClassObj nmX8I qX8I c8 NX8I bsX8I bmX8I true snX8I subX8I abX8I colX8I ddX8I m0X8I m1X8I m2X8I m3X8I m5X8I "ValueError.__new__"))
    (xtX8I : PySem.W.excTail bmV bmX8I = true)
    (xsX8I : PySem.W.findIn K (.ref c8) "__setattr__" = some (some (.builtin "object.__setattr__")))
    (xbX8I : PySem.W.subIn K (.ref c8) (.type "BaseException") = some true)
    (xyX8I : PySem.W.typeIn K (.ref c8) = some (.type "type"))
    (xkX8I : PySem.W.keepIn K (.ref c8) = true)
    (aX8I : PySem.W.findIn K (.ref c8) "__init__" = some (some (.ref fX8I)))
    (iX8I : PySem.W.isFn K (.ref fX8I) = true)
    (lX8I : K.lookup fX8I = some ⟨ocX8I, odX8I, .func (PySem.W.fnOf "__init__" "BadWay.__init__" (defArgs sXWay) (defBody sXWay) (defScope sXWay) .none kVX8I dcX8I pmX8I anX8I cdX8I ctX8I), slX8I⟩)
    (cX8I : PySem.W.codeIn K cdX8I "BadWay.__init__" = true)
    (kX8I : PySem.W.keepIn K (.ref fX8I) = true)
    (xfX8I : PySem.W.typeIn K (.ref fX8I) = some (.type "function"))
    (z_int : PySem.W.nsIn K mainGlobals "int" = some none)
    (z_len : PySem.W.nsIn K mainGlobals "len" = some none)
    (z_range : PySem.W.nsIn K mainGlobals "range" = some none)
    (z_enumerate : PySem.W.nsIn K mainGlobals "enumerate" = some none)
    (z_list : PySem.W.nsIn K mainGlobals "list" = some none)
    (z_tuple : PySem.W.nsIn K mainGlobals "tuple" = some none)
    (z_isinstance : PySem.W.nsIn K mainGlobals "isinstance" = some none)
    (z_ValueError : PySem.W.nsIn K mainGlobals "ValueError" = some none)
    (z_zip : PySem.W.nsIn K mainGlobals "zip" = some none)
    (z_abs : PySem.W.nsIn K mainGlobals "abs" = some none)
    (z_repr : PySem.W.nsIn K mainGlobals "repr" = some none)
    (z_set : PySem.W.nsIn K mainGlobals "set" = some none)
    (z_max : PySem.W.nsIn K mainGlobals "max" = some none)
    (z_bool : PySem.W.nsIn K mainGlobals "bool" = some none)
    (z_OverflowError : PySem.W.nsIn K mainGlobals "OverflowError" = some none)
    (z_all : PySem.W.nsIn K mainGlobals "all" = some none)
    (z_str : PySem.W.nsIn K mainGlobals "str" = some none)
    (z_sorted : PySem.W.nsIn K mainGlobals "sorted" = some none)
    (z_sum : PySem.W.nsIn K mainGlobals "sum" = some none)
    (z_min : PySem.W.nsIn K mainGlobals "min" = some none)
    (aMixed : PySem.W.nsIn K mainGlobals "_law_mixed" = some (some (.ref fMixed)))
    (lMixed : K.lookup fMixed = some ⟨ocMixed, odMixed, .func (PySem.W.fnOf "_law_mixed" "_law_mixed" (defArgs sMixed) (defBody sMixed) (defScope sMixed) .none kVMixed dcMixed pmMixed anMixed cdMixed ctMixed), slMixed⟩)
    (cMixed : PySem.W.codeIn K cdMixed "_law_mixed" = true)
    (kMixed : PySem.W.keepIn K (.ref fMixed) = true)
    (aDraw : PySem.W.nsIn K mainGlobals "_law_draw" = some (some (.ref fDraw)))
    (lDraw : K.lookup fDraw = some ⟨ocDraw, odDraw, .func (PySem.W.fnOf "_law_draw" "_law_draw" (defArgs sDraw) (defBody sDraw) (defScope sDraw) .none kVDraw dcDraw pmDraw anDraw cdDraw ctDraw), slDraw⟩)
    (cDraw : PySem.W.codeIn K cdDraw "_law_draw" = true)
    (kDraw : PySem.W.keepIn K (.ref fDraw) = true)
    (aFolded : PySem.W.nsIn K mainGlobals "_law_folded" = some (some (.ref fFolded)))
    (lFolded : K.lookup fFolded = some ⟨ocFolded, odFolded, .func (PySem.W.fnOf "_law_folded" "_law_folded" (defArgs sFolded) (defBody sFolded) (defScope sFolded) .none kVFolded dcFolded pmFolded anFolded cdFolded ctFolded), slFolded⟩)
    (cFolded : PySem.W.codeIn K cdFolded "_law_folded" = true)
    (kFolded : PySem.W.keepIn K (.ref fFolded) = true)
    (aBegun : PySem.W.nsIn K mainGlobals "_law_begun" = some (some (.ref fBegun)))
    (lBegun : K.lookup fBegun = some ⟨ocBegun, odBegun, .func (PySem.W.fnOf "_law_begun" "_law_begun" (defArgs sBegun) (defBody sBegun) (defScope sBegun) .none kVBegun dcBegun pmBegun anBegun cdBegun ctBegun), slBegun⟩)
    (cBegun : PySem.W.codeIn K cdBegun "_law_begun" = true)
    (kBegun : PySem.W.keepIn K (.ref fBegun) = true)
    (aWhole : PySem.W.nsIn K mainGlobals "is_whole" = some (some (.ref fWhole)))
    (lWhole : K.lookup fWhole = some ⟨ocWhole, odWhole, .func (PySem.W.fnOf "is_whole" "is_whole" (defArgs sWhole) (defBody sWhole) (defScope sWhole) .none kVWhole dcWhole pmWhole anWhole cdWhole ctWhole), slWhole⟩)
    (cWhole : PySem.W.codeIn K cdWhole "is_whole" = true)
    (kWhole : PySem.W.keepIn K (.ref fWhole) = true)
    (aPair : PySem.W.nsIn K mainGlobals "is_pair" = some (some (.ref fPair)))
    (lPair : K.lookup fPair = some ⟨ocPair, odPair, .func (PySem.W.fnOf "is_pair" "is_pair" (defArgs sPair) (defBody sPair) (defScope sPair) .none kVPair dcPair pmPair anPair cdPair ctPair), slPair⟩)
    (cPair : PySem.W.codeIn K cdPair "is_pair" = true)
    (kPair : PySem.W.keepIn K (.ref fPair) = true)
    (aStretch : PySem.W.nsIn K mainGlobals "is_stretch" = some (some (.ref fStretch)))
    (lStretch : K.lookup fStretch = some ⟨ocStretch, odStretch, .func (PySem.W.fnOf "is_stretch" "is_stretch" (defArgs sStretch) (defBody sStretch) (defScope sStretch) .none kVStretch dcStretch pmStretch anStretch cdStretch ctStretch), slStretch⟩)
    (cStretch : PySem.W.codeIn K cdStretch "is_stretch" = true)
    (kStretch : PySem.W.keepIn K (.ref fStretch) = true)
    (aFault : PySem.W.nsIn K mainGlobals "first_fault" = some (some (.ref fFault)))
    (lFault : K.lookup fFault = some ⟨ocFault, odFault, .func (PySem.W.fnOf "first_fault" "first_fault" (defArgs sFault) (defBody sFault) (defScope sFault) .none kVFault dcFault pmFault anFault cdFault ctFault), slFault⟩)
    (cFault : PySem.W.codeIn K cdFault "first_fault" = true)
    (kFault : PySem.W.keepIn K (.ref fFault) = true)
    (aRI : PySem.W.findIn K (.ref CR) "__init__" = some (some (.ref fRI)))
    (iRI : PySem.W.isFn K (.ref fRI) = true)
    (lRI : K.lookup fRI = some ⟨ocRI, odRI, .func (PySem.W.fnOf "__init__" "Row.__init__" (defArgs sRI) (defBody sRI) (defScope sRI) .none kVRI dcRI pmRI anRI cdRI ctRI), slRI⟩)
    (cRI : PySem.W.codeIn K cdRI "Row.__init__" = true)
    (kRI : PySem.W.keepIn K (.ref fRI) = true)
    (aRLen : PySem.W.findIn K (.ref CR) "__len__" = some (some (.ref fRLen)))
    (iRLen : PySem.W.isFn K (.ref fRLen) = true)
    (lRLen : K.lookup fRLen = some ⟨ocRLen, odRLen, .func (PySem.W.fnOf "__len__" "Row.__len__" (defArgs sRLen) (defBody sRLen) (defScope sRLen) .none kVRLen dcRLen pmRLen anRLen cdRLen ctRLen), slRLen⟩)
    (cRLen : PySem.W.codeIn K cdRLen "Row.__len__" = true)
    (kRLen : PySem.W.keepIn K (.ref fRLen) = true)
    (aREq : PySem.W.findIn K (.ref CR) "__eq__" = some (some (.ref fREq)))
    (iREq : PySem.W.isFn K (.ref fREq) = true)
    (lREq : K.lookup fREq = some ⟨ocREq, odREq, .func (PySem.W.fnOf "__eq__" "Row.__eq__" (defArgs sREq) (defBody sREq) (defScope sREq) .none kVREq dcREq pmREq anREq cdREq ctREq), slREq⟩)
    (cREq : PySem.W.codeIn K cdREq "Row.__eq__" = true)
    (kREq : PySem.W.keepIn K (.ref fREq) = true)
    (aTurning : PySem.W.nsIn K mainGlobals "is_turning" = some (some (.ref fTurning)))
    (lTurning : K.lookup fTurning = some ⟨ocTurning, odTurning, .func (PySem.W.fnOf "is_turning" "is_turning" (defArgs sTurning) (defBody sTurning) (defScope sTurning) .none kVTurning dcTurning pmTurning anTurning cdTurning ctTurning), slTurning⟩)
    (cTurning : PySem.W.codeIn K cdTurning "is_turning" = true)
    (kTurning : PySem.W.keepIn K (.ref fTurning) = true)
    (aPT : PySem.W.nsIn K mainGlobals "turned" = some (some (.ref fPT)))
    (lPT : K.lookup fPT = some ⟨ocPT, odPT, .func (PySem.W.fnOf "turned" "turned" (defArgs sPT) (defBody sPT) (defScope sPT) .none kVPT dcPT pmPT anPT cdPT ctPT), slPT⟩)
    (cPT : PySem.W.codeIn K cdPT "turned" = true)
    (kPT : PySem.W.keepIn K (.ref fPT) = true)
    (aLTurn : PySem.W.nsIn K mainGlobals "_law_turn" = some (some (.ref fLTurn)))
    (lLTurn : K.lookup fLTurn = some ⟨ocLTurn, odLTurn, .func (PySem.W.fnOf "_law_turn" "_law_turn" (defArgs sLTurn) (defBody sLTurn) (defScope sLTurn) .none kVLTurn dcLTurn pmLTurn anLTurn cdLTurn ctLTurn), slLTurn⟩)
    (cLTurn : PySem.W.codeIn K cdLTurn "_law_turn" = true)
    (kLTurn : PySem.W.keepIn K (.ref fLTurn) = true)
    (aRowT : PySem.W.nsIn K mainGlobals "_law_row" = some (some (.ref fRowT)))
    (lRowT : K.lookup fRowT = some ⟨ocRowT, odRowT, .func (PySem.W.fnOf "_law_row" "_law_row" (defArgs sRowT) (defBody sRowT) (defScope sRowT) .none kVRowT dcRowT pmRowT anRowT cdRowT ctRowT), slRowT⟩)
    (cRowT : PySem.W.codeIn K cdRowT "_law_row" = true)
    (kRowT : PySem.W.keepIn K (.ref fRowT) = true)
    (aClass : PySem.W.nsIn K mainGlobals "_law_class" = some (some (.ref fClass)))
    (lClass : K.lookup fClass = some ⟨ocClass, odClass, .func (PySem.W.fnOf "_law_class" "_law_class" (defArgs sClass) (defBody sClass) (defScope sClass) .none kVClass dcClass pmClass anClass cdClass ctClass), slClass⟩)
    (cClass : PySem.W.codeIn K cdClass "_law_class" = true)
    (kClass : PySem.W.keepIn K (.ref fClass) = true)
    (aRan : PySem.W.nsIn K mainGlobals "_law_ran" = some (some (.ref fRan)))
    (lRan : K.lookup fRan = some ⟨ocRan, odRan, .func (PySem.W.fnOf "_law_ran" "_law_ran" (defArgs sRan) (defBody sRan) (defScope sRan) .none kVRan dcRan pmRan anRan cdRan ctRan), slRan⟩)
    (cRan : PySem.W.codeIn K cdRan "_law_ran" = true)
    (kRan : PySem.W.keepIn K (.ref fRan) = true)
    (oex : PySem.W.excIn K c5 bmV "ValueError.__new__" = true)
    (okc : PySem.W.keepIn K (.ref c5) = true)
    (osu : PySem.W.subIn K (.ref c5) (.type "BaseException") = some true)
    (oty : PySem.W.typeIn K (.ref c5) = some (.type "type"))
    (rne : PySem.W.findIn K (.ref CR) "__ne__" = some (some (.builtin "object.__ne__")))
    (aCB : PySem.W.nsIn K mainGlobals "Bench" = some (some (.ref CB)))
    (aCM : PySem.W.nsIn K mainGlobals "Moment" = some (some (.ref CM)))
    (bvpg : PySem.W.plainGet K CB Str.empty = true)
    (bvhd : PySem.W.hasDictIn K CB = true)
    (bvpo : PySem.W.plainOver K CB = true)
    (bvsa : PySem.W.findIn K (.ref CB) "__setattr__" = some (some (.builtin "object.__setattr__")))
    (bvmk : PySem.W.makesIn K CB = true)
    (bvkc : PySem.W.keepIn K (.ref CB) = true)
    (bupg : PySem.W.plainGet K CM Str.empty = true)
    (buhd : PySem.W.hasDictIn K CM = true)
    (bupo : PySem.W.plainOver K CM = true)
    (busa : PySem.W.findIn K (.ref CM) "__setattr__" = some (some (.builtin "object.__setattr__")))
    (bumk : PySem.W.makesIn K CM = true)
    (bukc : PySem.W.keepIn K (.ref CM) = true)
    (bnF : PySem.W.findIn K (.ref CB) "first" = some none)
    (bnG : PySem.W.findIn K (.ref CB) "goal" = some none)
    (bnM : PySem.W.findIn K (.ref CB) "moment" = some none)
    (bnH : PySem.W.findIn K (.ref CM) "here" = some none)
    (bnD : PySem.W.findIn K (.ref CM) "done" = some none)
    (bnU : PySem.W.findIn K (.ref CM) "undone" = some none)
    (bcc : PySem.W.findIn K (.ref CB) "__class__" = some (some (.builtin "object.__class__")))
    (bmr : PySem.W.mroIn K CB (.type "object") = some true)
    (bks : PySem.W.kitOne K (.ref CB) (.ref CB) = some true)
    (bkr : PySem.W.kitOne K (.ref CR) (.ref CB) = some false)
    (brk : PySem.W.kitOne K (.ref CB) (.ref CR) = some false)
    (bnr : PySem.W.notFirst K CB (.ref CR) = true)
    (bnc : PySem.W.notFirst K CR (.ref CB) = true)
    (bne : PySem.W.findIn K (.ref CB) "__ne__" = some (some (.builtin "object.__ne__")))
    (bneM : CB ≠ CM)
    (bneR : CB ≠ CR)
    (bka0 : PySem.W.kitOne K (.type "NoneType") (.ref CB) = some false)
    (bkb0 : PySem.W.notFirst K CB (.type "NoneType") = true)
    (bkc0 : PySem.W.subIn K (.ref CB) (.type "NoneType") = some false)
    (bka1 : PySem.W.kitOne K (.type "bool") (.ref CB) = some false)
    (bkb1 : PySem.W.notFirst K CB (.type "bool") = true)
    (bkc1 : PySem.W.subIn K (.ref CB) (.type "bool") = some false)
    (bka2 : PySem.W.kitOne K (.type "int") (.ref CB) = some false)
    (bkb2 : PySem.W.notFirst K CB (.type "int") = true)
    (bkc2 : PySem.W.subIn K (.ref CB) (.type "int") = some false)
    (bka3 : PySem.W.kitOne K (.type "str") (.ref CB) = some false)
    (bkb3 : PySem.W.notFirst K CB (.type "str") = true)
    (bkc3 : PySem.W.subIn K (.ref CB) (.type "str") = some false)
    (bka4 : PySem.W.kitOne K (.type "list") (.ref CB) = some false)
    (bkb4 : PySem.W.notFirst K CB (.type "list") = true)
    (bkc4 : PySem.W.subIn K (.ref CB) (.type "list") = some false)
    (bka5 : PySem.W.kitOne K (.type "dict") (.ref CB) = some false)
    (bkb5 : PySem.W.notFirst K CB (.type "dict") = true)
    (bkc5 : PySem.W.subIn K (.ref CB) (.type "dict") = some false)
    (bka6 : PySem.W.kitOne K (.type "tuple") (.ref CB) = some false)
    (bkb6 : PySem.W.notFirst K CB (.type "tuple") = true)
    (bkc6 : PySem.W.subIn K (.ref CB) (.type "tuple") = some false)
    (nex : PySem.W.excIn K c9 bmV "ValueError.__new__" = true)
    (nkc : PySem.W.keepIn K (.ref c9) = true)
    (nsu : PySem.W.subIn K (.ref c9) (.type "BaseException") = some true)
    (nty : PySem.W.typeIn K (.ref c9) = some (.type "type"))
    (pat : PySem.W.findIn K (.ref CB) "row" = some (some (.ref prP)))
    (pge : PySem.W.specialIn K (.ref prP) "__get__" = some (some (.builtin "property.__get__")))
    (pta : PySem.W.takesIn K (.ref prP) = some true)
    (pre : PySem.W.recIn K prP "property" = some (.ref fBRow :: rsP))
    (lBRow : K.lookup fBRow = some ⟨ocBRow, odBRow, .func (PySem.W.fnOf "row" "Bench.row" (defArgs sBRow) (defBody sBRow) (defScope sBRow) .none kVBRow dcBRow pmBRow anBRow cdBRow ctBRow), slBRow⟩)
    (cBRow : PySem.W.codeIn K cdBRow "Bench.row" = true)
    (kBRow : PySem.W.keepIn K (.ref fBRow) = true)
    (aMI : PySem.W.findIn K (.ref CM) "__init__" = some (some (.ref fMI)))
    (iMI : PySem.W.isFn K (.ref fMI) = true)
    (lMI : K.lookup fMI = some ⟨ocMI, odMI, .func (PySem.W.fnOf "__init__" "Moment.__init__" (defArgs sMI) (defBody sMI) (defScope sMI) .none kVMI dcMI pmMI anMI cdMI ctMI), slMI⟩)
    (cMI : PySem.W.codeIn K cdMI "Moment.__init__" = true)
    (kMI : PySem.W.keepIn K (.ref fMI) = true)
    (aBI : PySem.W.findIn K (.ref CB) "__init__" = some (some (.ref fBI)))
    (iBI : PySem.W.isFn K (.ref fBI) = true)
    (lBI : K.lookup fBI = some ⟨ocBI, odBI, .func (PySem.W.fnOf "__init__" "Bench.__init__" (defArgs sBI) (defBody sBI) (defScope sBI) .none kVBI dcBI pmBI anBI cdBI ctBI), slBI⟩)
    (cBI : PySem.W.codeIn K cdBI "Bench.__init__" = true)
    (kBI : PySem.W.keepIn K (.ref fBI) = true)
    (aBLen : PySem.W.findIn K (.ref CB) "__len__" = some (some (.ref fBLen)))
    (iBLen : PySem.W.isFn K (.ref fBLen) = true)
    (lBLen : K.lookup fBLen = some ⟨ocBLen, odBLen, .func (PySem.W.fnOf "__len__" "Bench.__len__" (defArgs sBLen) (defBody sBLen) (defScope sBLen) .none kVBLen dcBLen pmBLen anBLen cdBLen ctBLen), slBLen⟩)
    (cBLen : PySem.W.codeIn K cdBLen "Bench.__len__" = true)
    (kBLen : PySem.W.keepIn K (.ref fBLen) = true)
    (aBDo : PySem.W.findIn K (.ref CB) "do" = some (some (.ref fBDo)))
    (iBDo : PySem.W.isFn K (.ref fBDo) = true)
    (lBDo : K.lookup fBDo = some ⟨ocBDo, odBDo, .func (PySem.W.fnOf "do" "Bench.do" (defArgs sBDo) (defBody sBDo) (defScope sBDo) .none kVBDo dcBDo pmBDo anBDo cdBDo ctBDo), slBDo⟩)
    (cBDo : PySem.W.codeIn K cdBDo "Bench.do" = true)
    (kBDo : PySem.W.keepIn K (.ref fBDo) = true)
    (aBUndo : PySem.W.findIn K (.ref CB) "undo" = some (some (.ref fBUndo)))
    (iBUndo : PySem.W.isFn K (.ref fBUndo) = true)
    (lBUndo : K.lookup fBUndo = some ⟨ocBUndo, odBUndo, .func (PySem.W.fnOf "undo" "Bench.undo" (defArgs sBUndo) (defBody sBUndo) (defScope sBUndo) .none kVBUndo dcBUndo pmBUndo anBUndo cdBUndo ctBUndo), slBUndo⟩)
    (cBUndo : PySem.W.codeIn K cdBUndo "Bench.undo" = true)
    (kBUndo : PySem.W.keepIn K (.ref fBUndo) = true)
    (aBRedo : PySem.W.findIn K (.ref CB) "redo" = some (some (.ref fBRedo)))
    (iBRedo : PySem.W.isFn K (.ref fBRedo) = true)
    (lBRedo : K.lookup fBRedo = some ⟨ocBRedo, odBRedo, .func (PySem.W.fnOf "redo" "Bench.redo" (defArgs sBRedo) (defBody sBRedo) (defScope sBRedo) .none kVBRedo dcBRedo pmBRedo anBRedo cdBRedo ctBRedo), slBRedo⟩)
    (cBRedo : PySem.W.codeIn K cdBRedo "Bench.redo" = true)
    (kBRedo : PySem.W.keepIn K (.ref fBRedo) = true)
    (aBTs : PySem.W.findIn K (.ref CB) "turnings" = some (some (.ref fBTs)))
    (iBTs : PySem.W.isFn K (.ref fBTs) = true)
    (lBTs : K.lookup fBTs = some ⟨ocBTs, odBTs, .func (PySem.W.fnOf "turnings" "Bench.turnings" (defArgs sBTs) (defBody sBTs) (defScope sBTs) .none kVBTs dcBTs pmBTs anBTs cdBTs ctBTs), slBTs⟩)
    (cBTs : PySem.W.codeIn K cdBTs "Bench.turnings" = true)
    (kBTs : PySem.W.keepIn K (.ref fBTs) = true)
    (aRun : PySem.W.nsIn K mainGlobals "run" = some (some (.ref fRun)))
    (lRun : K.lookup fRun = some ⟨ocRun, odRun, .func (PySem.W.fnOf "run" "run" (defArgs sRun) (defBody sRun) (defScope sRun) .none kVRun dcRun pmRun anRun cdRun ctRun), slRun⟩)
    (cRun : PySem.W.codeIn K cdRun "run" = true)
    (kRun : PySem.W.keepIn K (.ref fRun) = true)
    (aCK : PySem.W.nsIn K mainGlobals "Kept" = some (some (.ref CK)))
    (aCT : PySem.W.nsIn K mainGlobals "Trial" = some (some (.ref CT)))
    (qkpg : PySem.W.plainGet K CK Str.empty = true)
    (qkhd : PySem.W.hasDictIn K CK = true)
    (qkpo : PySem.W.plainOver K CK = true)
    (qksa : PySem.W.findIn K (.ref CK) "__setattr__" = some (some (.builtin "object.__setattr__")))
    (qkmk : PySem.W.makesIn K CK = true)
    (qkkc : PySem.W.keepIn K (.ref CK) = true)
    (qtpg : PySem.W.plainGet K CT Str.empty = true)
    (qthd : PySem.W.hasDictIn K CT = true)
    (qtpo : PySem.W.plainOver K CT = true)
    (qtsa : PySem.W.findIn K (.ref CT) "__setattr__" = some (some (.builtin "object.__setattr__")))
    (qtmk : PySem.W.makesIn K CT = true)
    (qtkc : PySem.W.keepIn K (.ref CT) = true)
    (qnKM : PySem.W.findIn K (.ref CK) "moment" = some none)
    (qnKO : PySem.W.findIn K (.ref CK) "outer" = some none)
    (qnTB : PySem.W.findIn K (.ref CT) "bench" = some none)
    (qnTK : PySem.W.findIn K (.ref CT) "kept" = some none)
    (neTK : CT ≠ CK)
    (neTB : CT ≠ CB)
    (neKB : CK ≠ CB)
    (neTR : CT ≠ CR)
    (aBDA : PySem.W.findIn K (.ref CB) "do_all" = some (some (.ref fBDA)))
    (iBDA : PySem.W.isFn K (.ref fBDA) = true)
    (lBDA : K.lookup fBDA = some ⟨ocBDA, odBDA, .func (PySem.W.fnOf "do_all" "Bench.do_all" (defArgs sDoAll) (defBody sDoAll) (defScope sDoAll) .none kVBDA dcBDA pmBDA anBDA cdBDA ctBDA), slBDA⟩)
    (cBDA : PySem.W.codeIn K cdBDA "Bench.do_all" = true)
    (kBDA : PySem.W.keepIn K (.ref fBDA) = true)
    (aBTr : PySem.W.findIn K (.ref CB) "trial" = some (some (.ref fBTr)))
    (iBTr : PySem.W.isFn K (.ref fBTr) = true)
    (lBTr : K.lookup fBTr = some ⟨ocBTr, odBTr, .func (PySem.W.fnOf "trial" "Bench.trial" (defArgs sBTr) (defBody sBTr) (defScope sBTr) .none kVBTr dcBTr pmBTr anBTr cdBTr ctBTr), slBTr⟩)
    (cBTr : PySem.W.codeIn K cdBTr "Bench.trial" = true)
    (kBTr : PySem.W.keepIn K (.ref fBTr) = true)
    (aKI : PySem.W.findIn K (.ref CK) "__init__" = some (some (.ref fKI)))
    (iKI : PySem.W.isFn K (.ref fKI) = true)
    (lKI : K.lookup fKI = some ⟨ocKI, odKI, .func (PySem.W.fnOf "__init__" "Kept.__init__" (defArgs sKI) (defBody sKI) (defScope sKI) .none kVKI dcKI pmKI anKI cdKI ctKI), slKI⟩)
    (cKI : PySem.W.codeIn K cdKI "Kept.__init__" = true)
    (kKI : PySem.W.keepIn K (.ref fKI) = true)
    (aTI : PySem.W.findIn K (.ref CT) "__init__" = some (some (.ref fTI)))
    (iTI : PySem.W.isFn K (.ref fTI) = true)
    (lTI : K.lookup fTI = some ⟨ocTI, odTI, .func (PySem.W.fnOf "__init__" "Trial.__init__" (defArgs sTI) (defBody sTI) (defScope sTI) .none kVTI dcTI pmTI anTI cdTI ctTI), slTI⟩)
    (cTI : PySem.W.codeIn K cdTI "Trial.__init__" = true)
    (kTI : PySem.W.keepIn K (.ref fTI) = true)
    (aTE : PySem.W.findIn K (.ref CT) "__enter__" = some (some (.ref fTE)))
    (iTE : PySem.W.isFn K (.ref fTE) = true)
    (lTE : K.lookup fTE = some ⟨ocTE, odTE, .func (PySem.W.fnOf "__enter__" "Trial.__enter__" (defArgs sTE) (defBody sTE) (defScope sTE) .none kVTE dcTE pmTE anTE cdTE ctTE), slTE⟩)
    (cTE : PySem.W.codeIn K cdTE "Trial.__enter__" = true)
    (kTE : PySem.W.keepIn K (.ref fTE) = true)
    (aTX : PySem.W.findIn K (.ref CT) "__exit__" = some (some (.ref fTX)))
    (iTX : PySem.W.isFn K (.ref fTX) = true)
    (lTX : K.lookup fTX = some ⟨ocTX, odTX, .func (PySem.W.fnOf "__exit__" "Trial.__exit__" (defArgs sTX) (defBody sTX) (defScope sTX) .none kVTX dcTX pmTX anTX cdTX ctTX), slTX⟩)
    (cTX : PySem.W.codeIn K cdTX "Trial.__exit__" = true)
    (kTX : PySem.W.keepIn K (.ref fTX) = true)
    (aTried : PySem.W.nsIn K mainGlobals "tried" = some (some (.ref fTried)))
    (lTried : K.lookup fTried = some ⟨ocTried, odTried, .func (PySem.W.fnOf "tried" "tried" (defArgs sTried) (defBody sTried) (defScope sTried) .none kVTried dcTried pmTried anTried cdTried ctTried), slTried⟩)
    (cTried : PySem.W.codeIn K cdTried "tried" = true)
    (kTried : PySem.W.keepIn K (.ref fTried) = true)
    (aShown : PySem.W.nsIn K mainGlobals "_law_shown" = some (some (.ref fShown)))
    (lShown : K.lookup fShown = some ⟨ocShown, odShown, .func (PySem.W.fnOf "_law_shown" "_law_shown" (defArgs sShown) (defBody sShown) (defScope sShown) .none kVShown dcShown pmShown anShown cdShown ctShown), slShown⟩)
    (cShown : PySem.W.codeIn K cdShown "_law_shown" = true)
    (kShown : PySem.W.keepIn K (.ref fShown) = true)
    (aSome : PySem.W.nsIn K mainGlobals "_law_some" = some (some (.ref fSome)))
    (lSome : K.lookup fSome = some ⟨ocSome, odSome, .func (PySem.W.fnOf "_law_some" "_law_some" (defArgs sSome) (defBody sSome) (defScope sSome) .none kVSome dcSome pmSome anSome cdSome ctSome), slSome⟩)
    (cSome : PySem.W.codeIn K cdSome "_law_some" = true)
    (kSome : PySem.W.keepIn K (.ref fSome) = true)
    (aSlip : PySem.W.nsIn K mainGlobals "_law_slipped" = some (some (.ref fSlip)))
    (lSlip : K.lookup fSlip = some ⟨ocSlip, odSlip, .func (PySem.W.fnOf "_law_slipped" "_law_slipped" (defArgs sSlip) (defBody sSlip) (defScope sSlip) .none kVSlip dcSlip pmSlip anSlip cdSlip ctSlip), slSlip⟩)
    (cSlip : PySem.W.codeIn K cdSlip "_law_slipped" = true)
    (kSlip : PySem.W.keepIn K (.ref fSlip) = true)
    (aIsR : PySem.W.nsIn K mainGlobals "_law_is_row" = some (some (.ref fIsR)))
    (lIsR : K.lookup fIsR = some ⟨ocIsR, odIsR, .func (PySem.W.fnOf "_law_is_row" "_law_is_row" (defArgs sIsR) (defBody sIsR) (defScope sIsR) .none kVIsR dcIsR pmIsR anIsR cdIsR ctIsR), slIsR⟩)
    (cIsR : PySem.W.codeIn K cdIsR "_law_is_row" = true)
    (kIsR : PySem.W.keepIn K (.ref fIsR) = true)
    (aRefu : PySem.W.nsIn K mainGlobals "_law_refusing" = some (some (.ref fRefu)))
    (lRefu : K.lookup fRefu = some ⟨ocRefu, odRefu, .func (PySem.W.fnOf "_law_refusing" "_law_refusing" (defArgs sRefu) (defBody sRefu) (defScope sRefu) .none kVRefu dcRefu pmRefu anRefu (.ref cRefu) ctRefu), slRefu⟩)
    (cRefu_ : PySem.W.codeIn K (.ref cRefu) "_law_refusing" = true)
    (kRefu : PySem.W.keepIn K (.ref fRefu) = true)
    (aOth : PySem.W.nsIn K mainGlobals "_law_others_right" = some (some (.ref fOth)))
    (lOth : K.lookup fOth = some ⟨ocOth, odOth, .func (PySem.W.fnOf "_law_others_right" "_law_others_right" (defArgs sOth) (defBody sOth) (defScope sOth) .none kVOth dcOth pmOth anOth (.ref cOth) ctOth), slOth⟩)
    (cOth_ : PySem.W.codeIn K (.ref cOth) "_law_others_right" = true)
    (kOth : PySem.W.keepIn K (.ref fOth) = true)
    (aTri : PySem.W.nsIn K mainGlobals "_law_trials_right" = some (some (.ref fTri)))
    (lTri : K.lookup fTri = some ⟨ocTri, odTri, .func (PySem.W.fnOf "_law_trials_right" "_law_trials_right" (defArgs sTri) (defBody sTri) (defScope sTri) .none kVTri dcTri pmTri anTri (.ref cTri) ctTri), slTri⟩)
    (cTri_ : PySem.W.codeIn K (.ref cTri) "_law_trials_right" = true)
    (kTri : PySem.W.keepIn K (.ref fTri) = true)
    (aAga : PySem.W.nsIn K mainGlobals "_law_again_right" = some (some (.ref fAga)))
    (lAga : K.lookup fAga = some ⟨ocAga, odAga, .func (PySem.W.fnOf "_law_again_right" "_law_again_right" (defArgs sAga) (defBody sAga) (defScope sAga) .none kVAga dcAga pmAga anAga (.ref cAga) ctAga), slAga⟩)
    (cAga_ : PySem.W.codeIn K (.ref cAga) "_law_again_right" = true)
    (kAga : PySem.W.keepIn K (.ref fAga) = true)
    (aLaw : PySem.W.nsIn K mainGlobals "law" = some (some (.ref fLaw)))
    (lLaw : K.lookup fLaw = some ⟨ocLaw, odLaw, .func (PySem.W.fnOf "law" "law" (defArgs sLaw) (defBody sLaw) (defScope sLaw) .none kVLaw dcLaw pmLaw anLaw (.ref cLaw) ctLaw), slLaw⟩)
    (cLaw_ : PySem.W.codeIn K (.ref cLaw) "law" = true)
    (kLaw : PySem.W.keepIn K (.ref fLaw) = true)
    (aTold : PySem.W.nsIn K mainGlobals "_law_told" = some (some (.ref fTold)))
    (lTold : K.lookup fTold = some ⟨ocTold, odTold, .func (PySem.W.fnOf "_law_told" "_law_told" (defArgs sTold) (defBody sTold) (defScope sTold) .none kVTold dcTold pmTold anTold cdTold ctTold), slTold⟩)
    (cTold : PySem.W.codeIn K cdTold "_law_told" = true)
    (kTold : PySem.W.keepIn K (.ref fTold) = true)
    (upLaw : PySem.W.tabIn K "law" = some (cLaw, pLaw))
    (npLaw : K.lookup pLaw = none)
    (tpLaw : PySem.W.CodeHd h cLaw pLaw ∧ h.get? pLaw = some oTab)
    (upRefu : PySem.W.tabIn K "_law_refusing" = some (cRefu, pRefu))
    (npRefu : K.lookup pRefu = none)
    (tpRefu : PySem.W.CodeHd h cRefu pRefu ∧ h.get? pRefu = some oTab)
    (upOth : PySem.W.tabIn K "_law_others_right" = some (cOth, pOth))
    (npOth : K.lookup pOth = none)
    (tpOth : PySem.W.CodeHd h cOth pOth ∧ h.get? pOth = some oTab)
    (upTri : PySem.W.tabIn K "_law_trials_right" = some (cTri, pTri))
    (npTri : K.lookup pTri = none)
    (tpTri : PySem.W.CodeHd h cTri pTri ∧ h.get? pTri = some oTab)
    (upAga : PySem.W.tabIn K "_law_again_right" = some (cAga, pAga))
    (npAga : K.lookup pAga = none)
    (tpAga : PySem.W.CodeHd h cAga pAga ∧ h.get? pAga = some oTab)
    (d01 : pLaw ≠ pRefu)
    (d02 : pLaw ≠ pOth)
    (d12 : pRefu ≠ pOth)
    (d03 : pLaw ≠ pTri)
    (d13 : pRefu ≠ pTri)
    (d23 : pOth ≠ pTri)
    (d04 : pLaw ≠ pAga)
    (d14 : pRefu ≠ pAga)
    (d24 : pOth ≠ pAga)
    (d34 : pTri ≠ pAga) :
    LawG l w K CX0 18 63 "script" mg fa h := by
  have e := hfa.symm.trans (PySem.W.mg_of X G aLaw)
  cases e
  have gCR := PySem.W.mg_of X G aCR
  have gMost := PySem.W.mg_of X G aMost
  have R : RowC K mg CR := ⟨⟨rpg, rhd, rpo, rsa⟩, rnw, gCR, ⟨_, gMost⟩, rhc, ohn, oht, rhm, rks⟩
  have gCF := PySem.W.mg_of X G aCF
  have gX1 := PySem.W.mg_of X G aX1
  have gX2 := PySem.W.mg_of X G aX2
  have gX3 := PySem.W.mg_of X G aX3
  have gX4 := PySem.W.mg_of X G aX4
  have gX5 := PySem.W.mg_of X G aX5
  have gX6 := PySem.W.mg_of X G aX6
  have gX7 := PySem.W.mg_of X G aX7
  have gX8 := PySem.W.mg_of X G aX8
  have gX9 := PySem.W.mg_of X G aX9
  have mgc : ∀ k : Kd, mg k.name = some (.ref (kdC c1 c2 c3 c4 c5 c6 c7 c8 c9 k)) := fun k => match k with | .row => gX1 | .turn => gX2 | .place => gX3 | .number => gX4 | .other => gX5 | .great => gX6 | .text => gX7 | .way => gX8 | .nothing => gX9
  have XE : Exs K mg CF (kdC c1 c2 c3 c4 c5 c6 c7 c8 c9) := ⟨gCF, mgc, xexc, xkit, xkve, xxf, xno, xany⟩
  have FC : FaceC K mg CF := ⟨gCF, fgi, frd, ffi⟩
  have FX1I := fun_mk (st := sXRow) lX1I cX1I kX1I
  have bX1I := FX1I.binds (ps := ["self", "place"]) fun _ _ _ _ _ _ us hl => match us, hl with | [_, _], _ => rfl
  have TX1I : XCls "ValueError.__new__" bmV K c1 := ⟨⟨_, _, _, _, _, _, _, _, _, _, _, _, _, _, _, xlX1I, xtX1I⟩, xsX1I, xbX1I, xyX1I, xkX1I⟩
  have FX2I := fun_mk (st := sXTurn) lX2I cX2I kX2I
  have bX2I := FX2I.binds (ps := ["self", "place"]) fun _ _ _ _ _ _ us hl => match us, hl with | [_, _], _ => rfl
  have TX2I : XCls "ValueError.__new__" bmV K c2 := ⟨⟨_, _, _, _, _, _, _, _, _, _, _, _, _, _, _, xlX2I, xtX2I⟩, xsX2I, xbX2I, xyX2I, xkX2I⟩
  have FX3I := fun_mk (st := sXPlace) lX3I cX3I kX3I
  have bX3I := FX3I.binds (ps := ["self", "value"]) fun _ _ _ _ _ _ us hl => match us, hl with | [_, _], _ => rfl
  have TX3I : XCls "ValueError.__new__" bmV K c3 := ⟨⟨_, _, _, _, _, _, _, _, _, _, _, _, _, _, _, xlX3I, xtX3I⟩, xsX3I, xbX3I, xyX3I, xkX3I⟩
  have FX4I := fun_mk (st := sXNumber) lX4I cX4I kX4I
  have bX4I := FX4I.binds (ps := ["self", "value"]) fun _ _ _ _ _ _ us hl => match us, hl with | [_, _], _ => rfl
  have TX4I : XCls "ValueError.__new__" bmV K c4 := ⟨⟨_, _, _, _, _, _, _, _, _, _, _, _, _, _, _, xlX4I, xtX4I⟩, xsX4I, xbX4I, xyX4I, xkX4I⟩
  have FX6I := fun_mk (st := sXGreat) lX6I cX6I kX6I
  have bX6I := FX6I.binds (ps := ["self", "most"]) fun _ _ _ _ _ _ us hl => match us, hl with | [_, _], _ => rfl
  have TX6I : XCls "OverflowError.__new__" bmO K c6 := ⟨⟨_, _, _, _, _, _, _, _, _, _, _, _, _, _, _, xlX6I, xtX6I⟩, xsX6I, xbX6I, xyX6I, xkX6I⟩
  have FX7I := fun_mk (st := sXText) lX7I cX7I kX7I
  have bX7I := FX7I.binds (ps := ["self", "place"]) fun _ _ _ _ _ _ us hl => match us, hl with | [_, _], _ => rfl
  have TX7I : XCls "ValueError.__new__" bmV K c7 := ⟨⟨_, _, _, _, _, _, _, _, _, _, _, _, _, _, _, xlX7I, xtX7I⟩, xsX7I, xbX7I, xyX7I, xkX7I⟩
  have FX8I := fun_mk (st := sXWay) lX8I cX8I kX8I
  have bX8I := FX8I.binds (ps := ["self", "value"]) fun _ _ _ _ _ _ us hl => match us, hl with | [_, _], _ => rfl
  have TX8I : XCls "ValueError.__new__" bmV K c8 := ⟨⟨_, _, _, _, _, _, _, _, _, _, _, _, _, _, _, xlX8I, xtX8I⟩, xsX8I, xbX8I, xyX8I, xkX8I⟩
  have B : Blt mg := ⟨PySem.W.mg_none_of X G z_int, PySem.W.mg_none_of X G z_len, PySem.W.mg_none_of X G z_range, PySem.W.mg_none_of X G z_enumerate, PySem.W.mg_none_of X G z_list, PySem.W.mg_none_of X G z_tuple, PySem.W.mg_none_of X G z_isinstance, PySem.W.mg_none_of X G z_ValueError, PySem.W.mg_none_of X G z_zip, PySem.W.mg_none_of X G z_abs, PySem.W.mg_none_of X G z_repr, PySem.W.mg_none_of X G z_set, PySem.W.mg_none_of X G z_max, PySem.W.mg_none_of X G z_bool, PySem.W.mg_none_of X G z_OverflowError, PySem.W.mg_none_of X G z_all, PySem.W.mg_none_of X G z_str, PySem.W.mg_none_of X G z_sorted, PySem.W.mg_none_of X G z_sum, PySem.W.mg_none_of X G z_min⟩
  have FMixed := fun_mk (st := sMixed) lMixed cMixed kMixed
  have bMixed := FMixed.binds (ps := ["cell", "n"]) fun _ _ _ _ _ _ us hl => match us, hl with | [_, _], _ => rfl
  have gMixed := PySem.W.mg_of X G aMixed
  have FDraw := fun_mk (st := sDraw) lDraw cDraw kDraw
  have bDraw := FDraw.binds (ps := ["m", "limit"]) fun _ _ _ _ _ _ us hl => match us, hl with | [_, _], _ => rfl
  have gDraw := PySem.W.mg_of X G aDraw
  have FFolded := fun_mk (st := sFolded) lFolded cFolded kFolded
  have bFolded := FFolded.binds (ps := ["script"]) fun _ _ _ _ _ _ us hl => match us, hl with | [_], _ => rfl
  have gFolded := PySem.W.mg_of X G aFolded
  have FBegun := fun_mk (st := sBegun) lBegun cBegun kBegun
  have bBegun := FBegun.binds (ps := ["script"]) fun _ _ _ _ _ _ us hl => match us, hl with | [_], _ => rfl
  have gBegun := PySem.W.mg_of X G aBegun
  have FWhole := fun_mk (st := sWhole) lWhole cWhole kWhole
  have bWhole := FWhole.binds (ps := ["value", "least", "most"]) fun _ _ _ _ _ _ us hl => match us, hl with | [_, _, _], _ => rfl
  have gWhole := PySem.W.mg_of X G aWhole
  have FPair := fun_mk (st := sPair) lPair cPair kPair
  have bPair := FPair.binds (ps := ["value", "most"]) fun _ _ _ _ _ _ us hl => match us, hl with | [_, _], _ => rfl
  have gPair := PySem.W.mg_of X G aPair
  have FStretch := fun_mk (st := sStretch) lStretch cStretch kStretch
  have bStretch := FStretch.binds (ps := ["value", "most"]) fun _ _ _ _ _ _ us hl => match us, hl with | [_, _], _ => rfl
  have gStretch := PySem.W.mg_of X G aStretch
  have FFault := fun_mk (st := sFault) lFault cFault kFault
  have bFault := FFault.binds (ps := ["waggons"]) fun _ _ _ _ _ _ us hl => match us, hl with | [_], _ => rfl
  have gFault := PySem.W.mg_of X G aFault
  have FRI := fun_mk (st := sRI) lRI cRI kRI
  have bRI := FRI.binds (ps := ["self", "waggons"]) fun _ _ _ _ _ _ us hl => match us, hl with | [_, _], _ => rfl
  have FRLen := fun_mk (st := sRLen) lRLen cRLen kRLen
  have bRLen := FRLen.binds (ps := ["self"]) fun _ _ _ _ _ _ us hl => match us, hl with | [_], _ => rfl
  have FREq := fun_mk (st := sREq) lREq cREq kREq
  have bREq := FREq.binds (ps := ["self", "other"]) fun _ _ _ _ _ _ us hl => match us, hl with | [_, _], _ => rfl
  have FTurning := fun_mk (st := sTurning) lTurning cTurning kTurning
  have bTurning := FTurning.binds (ps := ["row", "value"]) fun _ _ _ _ _ _ us hl => match us, hl with | [_, _], _ => rfl
  have gTurning := PySem.W.mg_of X G aTurning
  have FPT := fun_mk (st := sPT) lPT cPT kPT
  have bPT := FPT.binds (ps := ["row", "turning"]) fun _ _ _ _ _ _ us hl => match us, hl with | [_, _], _ => rfl
  have gPT := PySem.W.mg_of X G aPT
  have FLTurn := fun_mk (st := sLTurn) lLTurn cLTurn kLTurn
  have bLTurn := FLTurn.binds (ps := ["waggons", "first", "last"]) fun _ _ _ _ _ _ us hl => match us, hl with | [_, _, _], _ => rfl
  have gLTurn := PySem.W.mg_of X G aLTurn
  have FRowT := fun_mk (st := sRowT) lRowT cRowT kRowT
  have bRowT := FRowT.binds (ps := ["m", "many"]) fun _ _ _ _ _ _ us hl => match us, hl with | [_, _], _ => rfl
  have gRowT := PySem.W.mg_of X G aRowT
  have FClass := fun_mk (st := sClass) lClass cClass kClass
  have bClass := FClass.binds (ps := ["error"]) fun _ _ _ _ _ _ us hl => match us, hl with | [_], _ => rfl
  have gClass := PySem.W.mg_of X G aClass
  have FRan := fun_mk (st := sRan) lRan cRan kRan
  have bRan := FRan.binds (ps := ["waggons", "turnings"]) fun _ _ _ _ _ _ us hl => match us, hl with | [_, _], _ => rfl
  have gRan := PySem.W.mg_of X G aRan
  have FBRow := fun_mk (st := sBRow) lBRow cBRow kBRow
  have bBRow := FBRow.binds (ps := ["self"]) fun _ _ _ _ _ _ us hl => match us, hl with | [_], _ => rfl
  have gCB := PySem.W.mg_of X G aCB
  have gCM := PySem.W.mg_of X G aCM
  have FMI := fun_mk (st := sMI) lMI cMI kMI
  have bMI := FMI.binds (ps := ["self", "here", "done", "undone"]) fun _ _ _ _ _ _ us hl => match us, hl with | [_, _, _, _], _ => rfl
  have FBI := fun_mk (st := sBI) lBI cBI kBI
  have bBI := FBI.binds (ps := ["self", "row", "goal"]) fun _ _ _ _ _ _ us hl => match us, hl with | [_, _, _], _ => rfl
  have FBLen := fun_mk (st := sBLen) lBLen cBLen kBLen
  have bBLen := FBLen.binds (ps := ["self"]) fun _ _ _ _ _ _ us hl => match us, hl with | [_], _ => rfl
  have FBDo := fun_mk (st := sBDo) lBDo cBDo kBDo
  have bBDo := FBDo.binds (ps := ["self", "turning"]) fun _ _ _ _ _ _ us hl => match us, hl with | [_, _], _ => rfl
  have FBUndo := fun_mk (st := sBUndo) lBUndo cBUndo kBUndo
  have bBUndo := FBUndo.binds (ps := ["self"]) fun _ _ _ _ _ _ us hl => match us, hl with | [_], _ => rfl
  have FBRedo := fun_mk (st := sBRedo) lBRedo cBRedo kBRedo
  have bBRedo := FBRedo.binds (ps := ["self"]) fun _ _ _ _ _ _ us hl => match us, hl with | [_], _ => rfl
  have FBTs := fun_mk (st := sBTs) lBTs cBTs kBTs
  have bBTs := FBTs.binds (ps := ["self"]) fun _ _ _ _ _ _ us hl => match us, hl with | [_], _ => rfl
  have FRun := fun_mk (st := sRun) lRun cRun kRun
  have bRun := FRun.binds (ps := ["row", "turnings"]) fun _ _ _ _ _ _ us hl => match us, hl with | [_, _], _ => rfl
  have gRun := PySem.W.mg_of X G aRun
  have gCK := PySem.W.mg_of X G aCK
  have gCT := PySem.W.mg_of X G aCT
  have FBDA := fun_mk (st := sDoAll) lBDA cBDA kBDA
  have bBDA := FBDA.binds (ps := ["self", "turnings"]) fun _ _ _ _ _ _ us hl => match us, hl with | [_, _], _ => rfl
  have FBTr := fun_mk (st := sBTr) lBTr cBTr kBTr
  have bBTr := FBTr.binds (ps := ["self"]) fun _ _ _ _ _ _ us hl => match us, hl with | [_], _ => rfl
  have FKI := fun_mk (st := sKI) lKI cKI kKI
  have bKI := FKI.binds (ps := ["self", "moment", "outer"]) fun _ _ _ _ _ _ us hl => match us, hl with | [_, _, _], _ => rfl
  have FTI := fun_mk (st := sTI) lTI cTI kTI
  have bTI := FTI.binds (ps := ["self", "bench"]) fun _ _ _ _ _ _ us hl => match us, hl with | [_, _], _ => rfl
  have FTE := fun_mk (st := sTE) lTE cTE kTE
  have bTE := FTE.binds (ps := ["self"]) fun _ _ _ _ _ _ us hl => match us, hl with | [_], _ => rfl
  have FTX := fun_mk (st := sTX) lTX cTX kTX
  have bTX := FTX.binds (ps := ["self", "kind", "value", "trace"]) fun _ _ _ _ _ _ us hl => match us, hl with | [_, _, _, _], _ => rfl
  have FTried := fun_mk (st := sTried) lTried cTried kTried
  have bTried := FTried.binds (ps := ["bench", "function"]) fun _ _ _ _ _ _ us hl => match us, hl with | [_, _], _ => rfl
  have gTried := PySem.W.mg_of X G aTried
  have FShown := fun_mk (st := sShown) lShown cShown kShown
  have bShown := FShown.binds (ps := ["bench"]) fun _ _ _ _ _ _ us hl => match us, hl with | [_], _ => rfl
  have gShown := PySem.W.mg_of X G aShown
  have FSome := fun_mk (st := sSome) lSome cSome kSome
  have bSome := FSome.binds (ps := ["m", "many"]) fun _ _ _ _ _ _ us hl => match us, hl with | [_, _], _ => rfl
  have gSome := PySem.W.mg_of X G aSome
  have FSlip := fun_mk (st := sSlip) lSlip cSlip kSlip
  have bSlip := FSlip.binds (ps := ["same", "bench", "turnings", "way"]) fun _ _ _ _ _ _ us hl => match us, hl with | [_, _, _, _], _ => rfl
  have gSlip := PySem.W.mg_of X G aSlip
  have FIsR := fun_mk (st := sIsR) lIsR cIsR kIsR
  have bIsR := FIsR.binds (ps := ["told", "waggons"]) fun _ _ _ _ _ _ us hl => match us, hl with | [_, _], _ => rfl
  have gIsR := PySem.W.mg_of X G aIsR
  have FRefu := fun_mk (st := sRefu) lRefu cRefu_ kRefu
  have bRefu := FRefu.binds (ps := ["one", "way"]) fun _ _ _ _ _ _ us hl => match us, hl with | [_, _], _ => rfl
  have gRefu := PySem.W.mg_of X G aRefu
  have FOth := fun_mk (st := sOth) lOth cOth_ kOth
  have bOth := FOth.binds (ps := ["bench"]) fun _ _ _ _ _ _ us hl => match us, hl with | [_], _ => rfl
  have gOth := PySem.W.mg_of X G aOth
  have FTri := fun_mk (st := sTri) lTri cTri_ kTri
  have bTri := FTri.binds (ps := ["bench", "turnings", "here"]) fun _ _ _ _ _ _ us hl => match us, hl with | [_, _, _], _ => rfl
  have gTri := PySem.W.mg_of X G aTri
  have FAga := fun_mk (st := sAga) lAga cAga_ kAga
  have bAga := FAga.binds (ps := ["m", "bench", "many"]) fun _ _ _ _ _ _ us hl => match us, hl with | [_, _, _], _ => rfl
  have gAga := PySem.W.mg_of X G aAga
  have FLaw := fun_mk (st := sLaw) lLaw cLaw_ kLaw
  have bLaw := FLaw.binds (ps := ["script"]) fun _ _ _ _ _ _ us hl => match us, hl with | [_], _ => rfl
  have gLaw := PySem.W.mg_of X G aLaw
  have FTold := fun_mk (st := sTold) lTold cTold kTold
  have bTold := FTold.binds (ps := ["call"]) fun _ _ _ _ _ _ us hl => match us, hl with | [_], _ => rfl
  have gTold := PySem.W.mg_of X G aTold
  refine ⟨PySem.W.fnOf "law" "law" (defArgs sLaw) (defBody sLaw) (defScope sLaw) .none kVLaw dcLaw pmLaw anLaw (.ref cLaw) ctLaw, [(cLaw, pLaw), (cRefu, pRefu), (cOth, pOth), (cTri, pTri), (cAga, pAga)], spLaw0 K [(pLaw, (("law" : Str) ++ ".<locals>.") ++ "<lambda>"), (pRefu, (("_law_refusing" : Str) ++ ".<locals>.") ++ "<lambda>"), (pOth, (("_law_others_right" : Str) ++ ".<locals>.") ++ "<lambda>"), (pTri, (("_law_trials_right" : Str) ++ ".<locals>.") ++ "<lambda>"), (pAga, (("_law_again_right" : Str) ++ ".<locals>.") ++ "<lambda>")], ?_, ?_, ?_, fun s u => .of_eq rfl, ?_, fun base _ _ hTab => ?_⟩
  · intro p hp
    simp only [List.mem_cons, List.not_mem_nil, or_false] at hp
    rcases hp with rfl | rfl | rfl | rfl | rfl
    · exact tpLaw.2
    · exact tpRefu.2
    · exact tpOth.2
    · exact tpTri.2
    · exact tpAga.2
  · intro p hp
    simp only [List.mem_cons, List.not_mem_nil, or_false] at hp
    rcases hp with rfl | rfl | rfl | rfl | rfl
    · exact npLaw
    · exact npRefu
    · exact npOth
    · exact npTri
    · exact npAga
  · intro p hp
    simp only [List.mem_cons, List.not_mem_nil, or_false] at hp
    rcases hp with rfl | rfl | rfl | rfl | rfl
    · exact tpLaw.1
    · exact tpRefu.1
    · exact tpOth.1
    · exact tpTri.1
    · exact tpAga.1
  · intro H a ns hl hH hS
    refine ⟨a, ns, rfl, hS, hl, fun p hp => ?_, fun _ => rfl⟩
    simp only [List.mem_cons, List.not_mem_nil, or_false] at hp
    rcases hp with rfl | rfl | rfl | rfl | rfl
    · exact hH (cLaw, pLaw) (by simp)
    · exact hH (cRefu, pRefu) (by simp)
    · exact hH (cOth, pOth) (by simp)
    · exact hH (cTri, pTri) (by simp)
    · exact hH (cAga, pAga) (by simp)
  have TBpLaw := hTab (cLaw, pLaw) (by simp)
  have hmpLaw : (pLaw, (("law" : Str) ++ ".<locals>.") ++ "<lambda>") ∈ ([(pLaw, (("law" : Str) ++ ".<locals>.") ++ "<lambda>"), (pRefu, (("_law_refusing" : Str) ++ ".<locals>.") ++ "<lambda>"), (pOth, (("_law_others_right" : Str) ++ ".<locals>.") ++ "<lambda>"), (pTri, (("_law_trials_right" : Str) ++ ".<locals>.") ++ "<lambda>"), (pAga, (("_law_again_right" : Str) ++ ".<locals>.") ++ "<lambda>")] : List (Addr × Str)) := by simp
  have hupLaw : ∀ p ∈ ([(pLaw, (("law" : Str) ++ ".<locals>.") ++ "<lambda>"), (pRefu, (("_law_refusing" : Str) ++ ".<locals>.") ++ "<lambda>"), (pOth, (("_law_others_right" : Str) ++ ".<locals>.") ++ "<lambda>"), (pTri, (("_law_trials_right" : Str) ++ ".<locals>.") ++ "<lambda>"), (pAga, (("_law_again_right" : Str) ++ ".<locals>.") ++ "<lambda>")] : List (Addr × Str)), p.1 = pLaw → p.2 = (("law" : Str) ++ ".<locals>.") ++ "<lambda>" := fun p hp e => by
    simp only [List.mem_cons, List.not_mem_nil, or_false] at hp
    rcases hp with rfl | rfl | rfl | rfl | rfl
    · rfl
    · exact absurd e (Ne.symm d01)
    · exact absurd e (Ne.symm d02)
    · exact absurd e (Ne.symm d03)
    · exact absurd e (Ne.symm d04)
  have TBpRefu := hTab (cRefu, pRefu) (by simp)
  have hmpRefu : (pRefu, (("_law_refusing" : Str) ++ ".<locals>.") ++ "<lambda>") ∈ ([(pLaw, (("law" : Str) ++ ".<locals>.") ++ "<lambda>"), (pRefu, (("_law_refusing" : Str) ++ ".<locals>.") ++ "<lambda>"), (pOth, (("_law_others_right" : Str) ++ ".<locals>.") ++ "<lambda>"), (pTri, (("_law_trials_right" : Str) ++ ".<locals>.") ++ "<lambda>"), (pAga, (("_law_again_right" : Str) ++ ".<locals>.") ++ "<lambda>")] : List (Addr × Str)) := by simp
  have hupRefu : ∀ p ∈ ([(pLaw, (("law" : Str) ++ ".<locals>.") ++ "<lambda>"), (pRefu, (("_law_refusing" : Str) ++ ".<locals>.") ++ "<lambda>"), (pOth, (("_law_others_right" : Str) ++ ".<locals>.") ++ "<lambda>"), (pTri, (("_law_trials_right" : Str) ++ ".<locals>.") ++ "<lambda>"), (pAga, (("_law_again_right" : Str) ++ ".<locals>.") ++ "<lambda>")] : List (Addr × Str)), p.1 = pRefu → p.2 = (("_law_refusing" : Str) ++ ".<locals>.") ++ "<lambda>" := fun p hp e => by
    simp only [List.mem_cons, List.not_mem_nil, or_false] at hp
    rcases hp with rfl | rfl | rfl | rfl | rfl
    · exact absurd e d01
    · rfl
    · exact absurd e (Ne.symm d12)
    · exact absurd e (Ne.symm d13)
    · exact absurd e (Ne.symm d14)
  have TBpOth := hTab (cOth, pOth) (by simp)
  have hmpOth : (pOth, (("_law_others_right" : Str) ++ ".<locals>.") ++ "<lambda>") ∈ ([(pLaw, (("law" : Str) ++ ".<locals>.") ++ "<lambda>"), (pRefu, (("_law_refusing" : Str) ++ ".<locals>.") ++ "<lambda>"), (pOth, (("_law_others_right" : Str) ++ ".<locals>.") ++ "<lambda>"), (pTri, (("_law_trials_right" : Str) ++ ".<locals>.") ++ "<lambda>"), (pAga, (("_law_again_right" : Str) ++ ".<locals>.") ++ "<lambda>")] : List (Addr × Str)) := by simp
  have hupOth : ∀ p ∈ ([(pLaw, (("law" : Str) ++ ".<locals>.") ++ "<lambda>"), (pRefu, (("_law_refusing" : Str) ++ ".<locals>.") ++ "<lambda>"), (pOth, (("_law_others_right" : Str) ++ ".<locals>.") ++ "<lambda>"), (pTri, (("_law_trials_right" : Str) ++ ".<locals>.") ++ "<lambda>"), (pAga, (("_law_again_right" : Str) ++ ".<locals>.") ++ "<lambda>")] : List (Addr × Str)), p.1 = pOth → p.2 = (("_law_others_right" : Str) ++ ".<locals>.") ++ "<lambda>" := fun p hp e => by
    simp only [List.mem_cons, List.not_mem_nil, or_false] at hp
    rcases hp with rfl | rfl | rfl | rfl | rfl
    · exact absurd e d02
    · exact absurd e d12
    · rfl
    · exact absurd e (Ne.symm d23)
    · exact absurd e (Ne.symm d24)
  have TBpTri := hTab (cTri, pTri) (by simp)
  have hmpTri : (pTri, (("_law_trials_right" : Str) ++ ".<locals>.") ++ "<lambda>") ∈ ([(pLaw, (("law" : Str) ++ ".<locals>.") ++ "<lambda>"), (pRefu, (("_law_refusing" : Str) ++ ".<locals>.") ++ "<lambda>"), (pOth, (("_law_others_right" : Str) ++ ".<locals>.") ++ "<lambda>"), (pTri, (("_law_trials_right" : Str) ++ ".<locals>.") ++ "<lambda>"), (pAga, (("_law_again_right" : Str) ++ ".<locals>.") ++ "<lambda>")] : List (Addr × Str)) := by simp
  have hupTri : ∀ p ∈ ([(pLaw, (("law" : Str) ++ ".<locals>.") ++ "<lambda>"), (pRefu, (("_law_refusing" : Str) ++ ".<locals>.") ++ "<lambda>"), (pOth, (("_law_others_right" : Str) ++ ".<locals>.") ++ "<lambda>"), (pTri, (("_law_trials_right" : Str) ++ ".<locals>.") ++ "<lambda>"), (pAga, (("_law_again_right" : Str) ++ ".<locals>.") ++ "<lambda>")] : List (Addr × Str)), p.1 = pTri → p.2 = (("_law_trials_right" : Str) ++ ".<locals>.") ++ "<lambda>" := fun p hp e => by
    simp only [List.mem_cons, List.not_mem_nil, or_false] at hp
    rcases hp with rfl | rfl | rfl | rfl | rfl
    · exact absurd e d03
    · exact absurd e d13
    · exact absurd e d23
    · rfl
    · exact absurd e (Ne.symm d34)
  have TBpAga := hTab (cAga, pAga) (by simp)
  have hmpAga : (pAga, (("_law_again_right" : Str) ++ ".<locals>.") ++ "<lambda>") ∈ ([(pLaw, (("law" : Str) ++ ".<locals>.") ++ "<lambda>"), (pRefu, (("_law_refusing" : Str) ++ ".<locals>.") ++ "<lambda>"), (pOth, (("_law_others_right" : Str) ++ ".<locals>.") ++ "<lambda>"), (pTri, (("_law_trials_right" : Str) ++ ".<locals>.") ++ "<lambda>"), (pAga, (("_law_again_right" : Str) ++ ".<locals>.") ++ "<lambda>")] : List (Addr × Str)) := by simp
  have hupAga : ∀ p ∈ ([(pLaw, (("law" : Str) ++ ".<locals>.") ++ "<lambda>"), (pRefu, (("_law_refusing" : Str) ++ ".<locals>.") ++ "<lambda>"), (pOth, (("_law_others_right" : Str) ++ ".<locals>.") ++ "<lambda>"), (pTri, (("_law_trials_right" : Str) ++ ".<locals>.") ++ "<lambda>"), (pAga, (("_law_again_right" : Str) ++ ".<locals>.") ++ "<lambda>")] : List (Addr × Str)), p.1 = pAga → p.2 = (("_law_again_right" : Str) ++ ".<locals>.") ++ "<lambda>" := fun p hp e => by
    simp only [List.mem_cons, List.not_mem_nil, or_false] at hp
    rcases hp with rfl | rfl | rfl | rfl | rfl
    · exact absurd e d04
    · exact absurd e d14
    · exact absurd e d24
    · exact absurd e d34
    · rfl
  have DX1I : XDs l.prog w K mg base (kdC c1 c2 c3 c4 c5 c6 c7 c8 c9) .row := ⟨_, _, _, _, _, _, eb_value, TX1I, aX1I, xfX1I, (ok_xRow FX1I FC), bX1I, xno .row, gX1⟩
  have DX2I : XDs l.prog w K mg base (kdC c1 c2 c3 c4 c5 c6 c7 c8 c9) .turn := ⟨_, _, _, _, _, _, eb_value, TX2I, aX2I, xfX2I, (ok_xTurn FX2I FC), bX2I, xno .turn, gX2⟩
  have DX3I : XDs l.prog w K mg base (kdC c1 c2 c3 c4 c5 c6 c7 c8 c9) .place := ⟨_, _, _, _, _, _, eb_value, TX3I, aX3I, xfX3I, (ok_xPlace FX3I FC), bX3I, xno .place, gX3⟩
  have DX4I : XDs l.prog w K mg base (kdC c1 c2 c3 c4 c5 c6 c7 c8 c9) .number := ⟨_, _, _, _, _, _, eb_value, TX4I, aX4I, xfX4I, (ok_xNumber FX4I FC), bX4I, xno .number, gX4⟩
  have DX6I : XDs l.prog w K mg base (kdC c1 c2 c3 c4 c5 c6 c7 c8 c9) .great := ⟨_, _, _, _, _, _, eb_over, TX6I, aX6I, xfX6I, (ok_xGreat FX6I B ofi), bX6I, xno .great, gX6⟩
  have DX7I : XDs l.prog w K mg base (kdC c1 c2 c3 c4 c5 c6 c7 c8 c9) .text := ⟨_, _, _, _, _, _, eb_value, TX7I, aX7I, xfX7I, (ok_xText FX7I FC), bX7I, xno .text, gX7⟩
  have DX8I : XDs l.prog w K mg base (kdC c1 c2 c3 c4 c5 c6 c7 c8 c9) .way := ⟨_, _, _, _, _, _, eb_value, TX8I, aX8I, xfX8I, (ok_xWay FX8I FC), bX8I, xno .way, gX8⟩
  have XB : ∀ k, hasK k = true → XDs l.prog w K mg base (kdC c1 c2 c3 c4 c5 c6 c7 c8 c9) k := fun k h => by
    cases k
    · exact DX1I
    · exact DX2I
    · exact DX3I
    · exact DX4I
    · exact absurd h (by decide)
    · exact DX6I
    · exact DX7I
    · exact DX8I
    · exact absurd h (by decide)
  have hso := PySem.W.mg_none_of X G z_sorted
  have hsum := PySem.W.mg_none_of X G z_sum
  have hall := PySem.W.mg_none_of X G z_all
  have dMixed : Dn l.prog w K mg base 1 "_law_mixed" fMixed _ ["cell", "n"] spMixed := ⟨ok_mixed FMixed B, gMixed, kMixed, bMixed⟩
  have dDraw : Dn l.prog w K mg base 2 "_law_draw" fDraw _ ["m", "limit"] spDraw := ⟨ok_draw FDraw B dMixed, gDraw, kDraw, bDraw⟩
  have dFolded : Dn l.prog w K mg base 1 "_law_folded" fFolded _ ["script"] (spFolded K) := ⟨ok_folded FFolded B, gFolded, kFolded, bFolded⟩
  have dBegun : Dn l.prog w K mg base 2 "_law_begun" fBegun _ ["script"] (spBegun K) := ⟨ok_begun FBegun B dFolded, gBegun, kBegun, bBegun⟩
  have dWhole : Dn l.prog w K mg base 1 "is_whole" fWhole _ ["value", "least", "most"] (spWhole K) := ⟨ok_whole FWhole B, gWhole, kWhole, bWhole⟩
  have dPair : Dn l.prog w K mg base 2 "is_pair" fPair _ ["value", "most"] (spPair K) := ⟨ok_pair FPair B dWhole, gPair, kPair, bPair⟩
  have dStretch : Dn l.prog w K mg base 3 "is_stretch" fStretch _ ["value", "most"] (spStretch K) := ⟨ok_stretch FStretch B dPair, gStretch, kStretch, bStretch⟩
  have dFault : Dn l.prog w K mg base 2 "first_fault" fFault _ ["waggons"] (spFault K) := ⟨ok_fault FFault B dWhole, gFault, kFault, bFault⟩
  have oRI := ok_ri FRI B R XB dFault
  have RM : Mk K CR fRI := ⟨rmk, aRI, iRI, rkc⟩
  have oLen := ok_rlen (P := l.prog) (w := w) (base := base) FRLen B R
  have oEq := ok_req (P := l.prog) (w := w) (base := base) FREq B R
  have mEq : OpM K CR "__eq__" fREq _ ["self", "other"] := ⟨aREq, iREq, bREq⟩
  have dTurning : Dn l.prog w K mg base 4 "is_turning" fTurning _ ["row", "value"] (spTurning K CR) := ⟨ok_turning FTurning B dStretch oLen ⟨aRLen, iRLen, bRLen⟩, gTurning, kTurning, bTurning⟩
  have dPT : DnX l.prog w K mg base 5 "turned" fPT _ ["row", "turning"] (spPTurned K (kdC c1 c2 c3 c4 c5 c6 c7 c8 c9) CR) := ⟨ok_pturned FPT B R XB RM oRI bRI dTurning, gPT, kPT, bPT⟩
  have dLTurn : Dn l.prog w K mg base 1 "_law_turn" fLTurn _ ["waggons", "first", "last"] spLTurn := ⟨ok_lturn FLTurn B, gLTurn, kLTurn, bLTurn⟩
  have dRowT : Dn l.prog w K mg base 3 "_law_row" fRowT _ ["m", "many"] (spRowT (⟨base, mg, [(pLaw, (("law" : Str) ++ ".<locals>.") ++ "<lambda>"), (pRefu, (("_law_refusing" : Str) ++ ".<locals>.") ++ "<lambda>"), (pOth, (("_law_others_right" : Str) ++ ".<locals>.") ++ "<lambda>"), (pTri, (("_law_trials_right" : Str) ++ ".<locals>.") ++ "<lambda>"), (pAga, (("_law_again_right" : Str) ++ ".<locals>.") ++ "<lambda>")]⟩ : TbN)) := ⟨ok_rowT FRowT B dDraw dLTurn, gRowT, kRowT, bRowT⟩
  have dClass : Dn l.prog w K mg base 1 "_law_class" fClass _ ["error"] (spClass (kdC c1 c2 c3 c4 c5 c6 c7 c8 c9)) := ⟨ok_class FClass B XE, gClass, kClass, bClass⟩
  have dRan : Dn l.prog w K mg base 2 "_law_ran" fRan _ ["waggons", "turnings"] (spRan K) := ⟨ok_ran FRan B dLTurn, gRan, kRan, bRan⟩
  have O : OthC K mg ((kdC c1 c2 c3 c4 c5 c6 c7 c8 c9) .other) := ⟨oex, gX5, okc, osu, oty⟩
  have N : BenC K mg CR CB CM := ⟨⟨bvpg, bvhd, bvpo, bvsa⟩, bnF, bnG, bnM, ⟨bupg, buhd, bupo, busa⟩, bnH, bnD, bnU, gCB, gCM, bneM, bneR⟩
  have Z : BenQ K CB := ⟨bcc, bmr, bks⟩
  have ZT : BenT K CR CB := ⟨bkr, brk, bnr, bnc, fun T hT => by
      simp only [List.mem_cons, List.not_mem_nil, or_false] at hT
      rcases hT with rfl | rfl | rfl | rfl | rfl | rfl | rfl
      · exact ⟨bka0, bkb0, bkc0⟩
      · exact ⟨bka1, bkb1, bkc1⟩
      · exact ⟨bka2, bkb2, bkc2⟩
      · exact ⟨bka3, bkb3, bkc3⟩
      · exact ⟨bka4, bkb4, bkc4⟩
      · exact ⟨bka5, bkb5, bkc5⟩
      · exact ⟨bka6, bkb6, bkc6⟩⟩
  have O9 : NotC K mg ((kdC c1 c2 c3 c4 c5 c6 c7 c8 c9) .nothing) := ⟨nex, gX9, nkc, nsu, nty⟩
  have oMI := ok_mi (P := l.prog) (w := w) (base := base) FMI N
  have MM : Mk K CM fMI := ⟨bumk, aMI, iMI, bukc⟩
  have MB : Mk K CB fBI := ⟨bvmk, aBI, iBI, bvkc⟩
  have oBI := ok_bi FBI B N O MM oMI bMI oLen ⟨aRLen, iRLen, bRLen⟩
  have oBRow := ok_brow (P := l.prog) (w := w) (base := base) FBRow N
  have PRow : PropOf K CB "row" prP fBRow := ⟨pat, pge, pta, ⟨_, pre⟩⟩
  have oBLen := ok_blen (P := l.prog) (w := w) (base := base) FBLen B N
  have BL : OpM K CB "__len__" fBLen _ ["self"] := ⟨aBLen, iBLen, bBLen⟩
  have oDo := ok_do FBDo B N MM oMI bMI PRow oBRow bBRow dPT
  have mDo : Meth K CB "do" fBDo := ⟨aBDo, iBDo, kBDo⟩
  have oUndo := ok_undo FBUndo B N O9 MM oMI bMI PRow oBRow bBRow dPT
  have mUndo : Meth K CB "undo" fBUndo := ⟨aBUndo, iBUndo, kBUndo⟩
  have oRedo := ok_redo FBRedo B N O9 MM oMI bMI PRow oBRow bBRow dPT
  have mRedo : Meth K CB "redo" fBRedo := ⟨aBRedo, iBRedo, kBRedo⟩
  have oTs := ok_bts (P := l.prog) (w := w) (base := base) FBTs N
  have mTs : Meth K CB "turnings" fBTs := ⟨aBTs, iBTs, kBTs⟩
  have dRun : DnX l.prog w K mg base 6 "run" fRun _ ["row", "turnings"] (spRun K (kdC c1 c2 c3 c4 c5 c6 c7 c8 c9) CR) := ⟨ok_run FRun B R XB dTurning dPT, gRun, kRun, bRun⟩
  have TC : TriC K mg CB CM CK CT := ⟨⟨qkpg, qkhd, qkpo, qksa⟩, qnKM, qnKO, ⟨qtpg, qthd, qtpo, qtsa⟩, qnTB, qnTK, gCK, gCT, neTK, neTB, neKB⟩
  have oDA := ok_doall FBDA B N MM oMI bMI PRow oBRow bBRow dRun
  have mDA : Meth K CB "do_all" fBDA := ⟨aBDA, iBDA, kBDA⟩
  have oKI := ok_ki (P := l.prog) (w := w) (base := base) FKI TC
  have MKp : Mk K CK fKI := ⟨qkmk, aKI, iKI, qkkc⟩
  have oTI := ok_ti (P := l.prog) (w := w) (base := base) FTI TC
  have MTr : Mk K CT fTI := ⟨qtmk, aTI, iTI, qtkc⟩
  have oBTr := ok_btr (P := l.prog) (w := w) (base := base) FBTr TC MTr oTI bTI
  have oTE := ok_te (P := l.prog) (w := w) (base := base) FTE N TC MKp oKI bKI
  have oTX := ok_tx (P := l.prog) (w := w) (base := base) FTX N TC
  have TP : TrP l.prog w K mg base CB CK CT fBTr fTE fTX _ _ _ := ⟨⟨aBTr, iBTr, kBTr⟩, oBTr, bBTr, ⟨aTE, iTE, kTE⟩, ⟨aTX, iTX, kTX⟩, oTE, bTE, oTX, bTX⟩
  have TD : DL K mg "tried" sTried fTried _ ["bench", "function"] _ _ _ _ _ _ _ _ := ⟨gTried, kTried, lTried, cTried, bTried⟩
  have DT : DL K mg "_law_told" sTold fTold _ ["call"] _ _ _ _ _ _ _ _ := ⟨gTold, kTold, lTold, cTold, bTold⟩
  have dShown : Dn l.prog w K mg base 3 "_law_shown" fShown _ ["bench"] (spShown CR CB CM) := ⟨ok_shown FShown B R N oTs mTs bBTs PRow oBRow bBRow oBLen BL, gShown, kShown, bShown⟩
  have dSome : Dn l.prog w K mg base 3 "_law_some" fSome _ ["m", "many"] (spSome (⟨base, mg, [(pLaw, (("law" : Str) ++ ".<locals>.") ++ "<lambda>"), (pRefu, (("_law_refusing" : Str) ++ ".<locals>.") ++ "<lambda>"), (pOth, (("_law_others_right" : Str) ++ ".<locals>.") ++ "<lambda>"), (pTri, (("_law_trials_right" : Str) ++ ".<locals>.") ++ "<lambda>"), (pAga, (("_law_again_right" : Str) ++ ".<locals>.") ++ "<lambda>")]⟩ : TbN)) := ⟨ok_some FSome B dDraw, gSome, kSome, bSome⟩
  have dSlip : DnX l.prog w K mg base 7 "_law_slipped" fSlip _ ["same", "bench", "turnings", "way"] (spSlip (kdC c1 c2 c3 c4 c5 c6 c7 c8 c9) CR CB CM) := ⟨ok_slip FSlip B R N oDo mDo bBDo oUndo mUndo bBUndo dShown PRow oBRow bBRow oBLen BL, gSlip, kSlip, bSlip⟩
  have dIsR : DnG l.prog w K mg base 1 "_law_is_row" fIsR _ ["told", "waggons"] (spIsR CR) := ⟨ok_isr FIsR B R, gIsR, kIsR, bIsR⟩
  have dRefu : DnX l.prog w K mg base 10 "_law_refusing" fRefu _ ["one", "way"] (spRefu (kdC c1 c2 c3 c4 c5 c6 c7 c8 c9) CR CB CM (⟨base, mg, [(pLaw, (("law" : Str) ++ ".<locals>.") ++ "<lambda>"), (pRefu, (("_law_refusing" : Str) ++ ".<locals>.") ++ "<lambda>"), (pOth, (("_law_others_right" : Str) ++ ".<locals>.") ++ "<lambda>"), (pTri, (("_law_trials_right" : Str) ++ ".<locals>.") ++ "<lambda>"), (pAga, (("_law_again_right" : Str) ++ ".<locals>.") ++ "<lambda>")]⟩ : TbN)) := ⟨ok_refu (fT := fRefu) B R N TC neTR oDo mDo bBDo dShown RM oRI bRI TD TP TBpRefu.code hmpRefu ⟨gRefu, kRefu, lRefu, cRefu_, bRefu⟩, gRefu, kRefu, bRefu⟩
  have dOth : Dn l.prog w K mg base 16 "_law_others_right" fOth _ ["bench"] (spOth CR CB CM (⟨base, mg, [(pLaw, (("law" : Str) ++ ".<locals>.") ++ "<lambda>"), (pRefu, (("_law_refusing" : Str) ++ ".<locals>.") ++ "<lambda>"), (pOth, (("_law_others_right" : Str) ++ ".<locals>.") ++ "<lambda>"), (pTri, (("_law_trials_right" : Str) ++ ".<locals>.") ++ "<lambda>"), (pAga, (("_law_again_right" : Str) ++ ".<locals>.") ++ "<lambda>")]⟩ : TbN)) := ⟨ok_oth B N TC neTR XE DT dClass dShown dRefu TD TP TBpOth.code hmpOth ⟨gOth, kOth, lOth, cOth_, bOth⟩, gOth, kOth, bOth⟩
  have dTri : Dn l.prog w K mg base 16 "_law_trials_right" fTri _ ["bench", "turnings", "here"] (spTri CR CB CM (⟨base, mg, [(pLaw, (("law" : Str) ++ ".<locals>.") ++ "<lambda>"), (pRefu, (("_law_refusing" : Str) ++ ".<locals>.") ++ "<lambda>"), (pOth, (("_law_others_right" : Str) ++ ".<locals>.") ++ "<lambda>"), (pTri, (("_law_trials_right" : Str) ++ ".<locals>.") ++ "<lambda>"), (pAga, (("_law_again_right" : Str) ++ ".<locals>.") ++ "<lambda>")]⟩ : TbN)) := ⟨ok_tri B R N TC neTR XE DT dClass dShown dSlip oDA mDA bBDA oBLen BL TD TP TBpTri.code hmpTri ⟨gTri, kTri, lTri, cTri_, bTri⟩, gTri, kTri, bTri⟩
  have dAga : Dn l.prog w K mg base 16 "_law_again_right" fAga _ ["m", "bench", "many"] (spAga CR CB CM (⟨base, mg, [(pLaw, (("law" : Str) ++ ".<locals>.") ++ "<lambda>"), (pRefu, (("_law_refusing" : Str) ++ ".<locals>.") ++ "<lambda>"), (pOth, (("_law_others_right" : Str) ++ ".<locals>.") ++ "<lambda>"), (pTri, (("_law_trials_right" : Str) ++ ".<locals>.") ++ "<lambda>"), (pAga, (("_law_again_right" : Str) ++ ".<locals>.") ++ "<lambda>")]⟩ : TbN)) := ⟨ok_aga B R N TC neTR XE DT dClass dShown dDraw oDA mDA bBDA oDo mDo bBDo oUndo mUndo bBUndo oRedo mRedo bBRedo PRow oBRow bBRow oBLen BL oEq mEq rne TD TP TBpAga.code hmpAga ⟨gAga, kAga, lAga, cAga_, bAga⟩, gAga, kAga, bAga⟩
  exact law_start (fun p hp => by
      simp only [List.mem_cons, List.not_mem_nil, or_false] at hp
      rcases hp with rfl | rfl | rfl | rfl | rfl
      · exact ⟨TBpLaw.bm, TBpLaw.gP⟩
      · exact ⟨TBpRefu.bm, TBpRefu.gP⟩
      · exact ⟨TBpOth.bm, TBpOth.gP⟩
      · exact ⟨TBpTri.bm, TBpTri.gP⟩
      · exact ⟨TBpAga.bm, TBpAga.gP⟩) (fun p hp q hq e => by
      simp only [List.mem_cons, List.not_mem_nil, or_false] at hp
      rcases hp with rfl | rfl | rfl | rfl | rfl
      · exact (hupLaw q hq e.symm).symm
      · exact (hupRefu q hq e.symm).symm
      · exact (hupOth q hq e.symm).symm
      · exact (hupTri q hq e.symm).symm
      · exact (hupAga q hq e.symm).symm) (ok_law B R N XE DT dClass dShown dDraw dBegun dRowT dSome dRan dTri dAga dOth dIsR RM oRI bRI MB oBI bBI oDA mDA bBDA oTs mTs bBTs TBpLaw.code hmpLaw ⟨gLaw, kLaw, lLaw, cLaw_, bLaw⟩)
end Fab
namespace PySem.W.Fast
theorem tw6115049161089966139 : True := trivial
theorem tw8622512917901816681 : True := trivial
theorem tw3101464708244607696 : True := trivial
theorem tw10728695661008833762 : True := trivial
theorem tw2027378016458232892 : True := trivial
theorem tw9164931851254053323 : True := trivial
theorem tw8964637689720225712 : True := trivial
theorem tw161904795243940547 : True := trivial
theorem tw7064704544751406754 : True := trivial
theorem tw18236043456456262872 : True := trivial
theorem tw1732237350510429405 : True := trivial
theorem tw14273049436192598859 : True := trivial
theorem tw11557245356677674055 : True := trivial
theorem tw3121294402111857450 : True := trivial
theorem tw6023603026932811414 : True := trivial
theorem tw13626712427374518426 : True := trivial
theorem tw1718121831864891539 : True := trivial
theorem tw8103417266859066092 : True := trivial
theorem tw855292170879065735 : True := trivial
theorem tw8499555686074100859 : True := trivial
theorem tw2640725246338770604 : True := trivial
theorem tw14633632510116553410 : True := trivial
theorem tw660682108612333750 : True := trivial
theorem tw15900964171143375861 : True := trivial
theorem tw2238262365819430890 : True := trivial
theorem tw387072755521593902 : True := trivial
end PySem.W.Fast
open PySem PySem.W PyProof.Rows in
set_option maxRecDepth 100000 in
set_option maxHeartbeats 0 in
theorem PySem.Challenge.cw_faceabout_k75_turnings_all_or_none_and_t_holds : PySem.Challenge.rw_faceabout_k75_turnings_all_or_none_and_t.Holds := by
  w_on; o_law; k_head; (case hw => w_witness2)
  k_fill
  refine Fab.walkG (l := PySem.Challenge.rw_faceabout_k75_turnings_all_or_none_and_t) (n := 63) (k := 18) (x := "script") (CX := fun _ => L2.CX0) rfl (by decide) rfl ⟨rfl, by decide, by decide⟩ (fun w h Y => PySem.W.km_in_of Y) ?F (fun _ _ _ _ _ z => z)
  case F =>
    intro w mg fa h Y KX TO G hmg
    refine' Fab.all_mk KX G hmg ?aCR ?rpg ?rhd ?rpo ?rsa ?rmk ?rkc ?rnw ?rhc ?rhm ?rks ?ohn ?oht ?aMost ?aCF ?aX1 ?aX2 ?aX3 ?aX4 ?aX5 ?aX6 ?aX7 ?aX8 ?aX9 ?fgi ?frd ?ffi ?ofi ?xno ?xexc ?xkit ?xkve ?xxf ?xany ?xlX1I ?xtX1I ?xsX1I ?xbX1I ?xyX1I ?xkX1I ?aX1I ?iX1I ?lX1I ?cX1I ?kX1I ?xfX1I ?xlX2I ?xtX2I ?xsX2I ?xbX2I ?xyX2I ?xkX2I ?aX2I ?iX2I ?lX2I ?cX2I ?kX2I ?xfX2I ?xlX3I ?xtX3I ?xsX3I ?xbX3I ?xyX3I ?xkX3I ?aX3I ?iX3I ?lX3I ?cX3I ?kX3I ?xfX3I ?xlX4I ?xtX4I ?xsX4I ?xbX4I ?xyX4I ?xkX4I ?aX4I ?iX4I ?lX4I ?cX4I ?kX4I ?xfX4I ?xlX6I ?xtX6I ?xsX6I ?xbX6I ?xyX6I ?xkX6I ?aX6I ?iX6I ?lX6I ?cX6I ?kX6I ?xfX6I ?xlX7I ?xtX7I ?xsX7I ?xbX7I ?xyX7I ?xkX7I ?aX7I ?iX7I ?lX7I ?cX7I ?kX7I ?xfX7I ?xlX8I ?xtX8I ?xsX8I ?xbX8I ?xyX8I ?xkX8I ?aX8I ?iX8I ?lX8I ?cX8I ?kX8I ?xfX8I ?z_int ?z_len ?z_range ?z_enumerate ?z_list ?z_tuple ?z_isinstance ?z_ValueError ?z_zip ?z_abs ?z_repr ?z_set ?z_max ?z_bool ?z_OverflowError ?z_all ?z_str ?z_sorted ?z_sum ?z_min ?aMixed ?lMixed ?cMixed ?kMixed ?aDraw ?lDraw ?cDraw ?kDraw ?aFolded ?lFolded ?cFolded ?kFolded ?aBegun ?lBegun ?cBegun ?kBegun ?aWhole ?lWhole ?cWhole ?kWhole ?aPair ?lPair ?cPair ?kPair ?aStretch ?lStretch ?cStretch ?kStretch ?aFault ?lFault ?cFault ?kFault ?aRI ?iRI ?lRI ?cRI ?kRI ?aRLen ?iRLen ?lRLen ?cRLen ?kRLen ?aREq ?iREq ?lREq ?cREq ?kREq ?aTurning ?lTurning ?cTurning ?kTurning ?aPT ?lPT ?cPT ?kPT ?aLTurn ?lLTurn ?cLTurn ?kLTurn ?aRowT ?lRowT ?cRowT ?kRowT ?aClass ?lClass ?cClass ?kClass ?aRan ?lRan ?cRan ?kRan ?oex ?okc ?osu ?oty ?rne ?aCB ?aCM ?bvpg ?bvhd ?bvpo ?bvsa ?bvmk ?bvkc ?bupg ?buhd ?bupo ?busa ?bumk ?bukc ?bnF ?bnG ?bnM ?bnH ?bnD ?bnU ?bcc ?bmr ?bks ?bkr ?brk ?bnr ?bnc ?bne ?bneM ?bneR ?bka0 ?bkb0 ?bkc0 ?bka1 ?bkb1 ?bkc1 ?bka2 ?bkb2 ?bkc2 ?bka3 ?bkb3 ?bkc3 ?bka4 ?bkb4 ?bkc4 ?bka5 ?bkb5 ?bkc5 ?bka6 ?bkb6 ?bkc6 ?nex ?nkc ?nsu ?nty ?pat ?pge ?pta ?pre ?lBRow ?cBRow ?kBRow ?aMI ?iMI ?lMI ?cMI ?kMI ?aBI ?iBI ?lBI ?cBI ?kBI ?aBLen ?iBLen ?lBLen ?cBLen ?kBLen ?aBDo ?iBDo ?lBDo ?cBDo ?kBDo ?aBUndo ?iBUndo ?lBUndo ?cBUndo ?kBUndo ?aBRedo ?iBRedo ?lBRedo ?cBRedo ?kBRedo ?aBTs ?iBTs ?lBTs ?cBTs ?kBTs ?aRun ?lRun ?cRun ?kRun ?aCK ?aCT ?qkpg ?qkhd ?qkpo ?qksa ?qkmk ?qkkc ?qtpg ?qthd ?qtpo ?qtsa ?qtmk ?qtkc ?qnKM ?qnKO ?qnTB ?qnTK ?neTK ?neTB ?neKB ?neTR ?aBDA ?iBDA ?lBDA ?cBDA ?kBDA ?aBTr ?iBTr ?lBTr ?cBTr ?kBTr ?aKI ?iKI ?lKI ?cKI ?kKI ?aTI ?iTI ?lTI ?cTI ?kTI ?aTE ?iTE ?lTE ?cTE ?kTE ?aTX ?iTX ?lTX ?cTX ?kTX ?aTried ?lTried ?cTried ?kTried ?aShown ?lShown ?cShown ?kShown ?aSome ?lSome ?cSome ?kSome ?aSlip ?lSlip ?cSlip ?kSlip ?aIsR ?lIsR ?cIsR ?kIsR ?aRefu ?lRefu ?cRefu_ ?kRefu ?aOth ?lOth ?cOth_ ?kOth ?aTri ?lTri ?cTri_ ?kTri ?aAga ?lAga ?cAga_ ?kAga ?aLaw ?lLaw ?cLaw_ ?kLaw ?aTold ?lTold ?cTold ?kTold ?upLaw ?npLaw ?tpLaw ?upRefu ?npRefu ?tpRefu ?upOth ?npOth ?tpOth ?upTri ?npTri ?tpTri ?upAga ?npAga ?tpAga ?d01 ?d02 ?d12 ?d03 ?d13 ?d23 ?d04 ?d14 ?d24 ?d34
    (case aCR => first | k_is | rfl | kernel_rfl)
    (case rpg => first | k_is | rfl | kernel_rfl)
    (case rhd => first | k_is | rfl | kernel_rfl)
    (case rpo => first | k_is | rfl | kernel_rfl)
    (case rsa => first | k_is | rfl | kernel_rfl)
    (case rmk => first | k_is | rfl | kernel_rfl)
    (case rkc => first | k_is | rfl | kernel_rfl)
    (case rnw => first | k_is | rfl | kernel_rfl)
    (case rhc => first | k_is | rfl | kernel_rfl)
    (case rhm => first | k_is | rfl | kernel_rfl)
    (case rks => first | k_is | rfl | kernel_rfl)
    (case ohn => first | k_is | rfl | kernel_rfl)
    (case oht => first | k_is | rfl | kernel_rfl)
    (case aMost => first | k_is | rfl | kernel_rfl)
    (case aCF => first | k_is | rfl | kernel_rfl)
    (case aX1 => first | k_is | rfl | kernel_rfl)
    (case aX2 => first | k_is | rfl | kernel_rfl)
    (case aX3 => first | k_is | rfl | kernel_rfl)
    (case aX4 => first | k_is | rfl | kernel_rfl)
    (case aX5 => first | k_is | rfl | kernel_rfl)
    (case aX6 => first | k_is | rfl | kernel_rfl)
    (case aX7 => first | k_is | rfl | kernel_rfl)
    (case aX8 => first | k_is | rfl | kernel_rfl)
    (case aX9 => first | k_is | rfl | kernel_rfl)
    (case fgi => first | k_is | rfl | kernel_rfl)
    (case frd => first | k_is | rfl | kernel_rfl)
    (case ffi => first | k_is | rfl | kernel_rfl)
    (case ofi => first | k_is | rfl | kernel_rfl)
    (case xno => intro k; cases k <;> (try dsimp only [Fab.kdC, Fab.Kd.fld]) <;> first | kernel_rfl | k_is | rfl)
    (case xexc => intro k; cases k <;> refine ⟨?_, ?_, ?_, ?_, ?_, ?_, ?_, ?_⟩ <;> (try dsimp only [Fab.kdC]) <;> first | k_is | rfl | kernel_rfl)
    (case xkit => intro k j; cases k <;> cases j <;> (try dsimp only [Fab.kdC]) <;> first | kernel_rfl | k_is | rfl)
    (case xkve => intro k; cases k <;> (try dsimp only [Fab.kdC, Fab.Kd.fld]) <;> first | kernel_rfl | k_is | rfl)
    (case xxf => intro k; cases k <;> refine ⟨?_, ?_, ?_, ?_⟩ <;> (try dsimp only [Fab.kdC]) <;> first | k_is | rfl | kernel_rfl)
    (case xany => intro k; cases k <;> (try dsimp only [Fab.kdC, Fab.Kd.fld]) <;> first | kernel_rfl | k_is | rfl)
    (case xlX1I => first | k_is | rfl | kernel_rfl)
    (case xtX1I => first | kernel_rfl | rfl | k_is)
    (case xsX1I => first | k_is | rfl | kernel_rfl)
    (case xbX1I => first | k_is | rfl | kernel_rfl)
    (case xyX1I => first | k_is | rfl | kernel_rfl)
    (case xkX1I => first | k_is | rfl | kernel_rfl)
    (case aX1I => first | k_is | rfl | kernel_rfl)
    (case iX1I => first | k_is | rfl | kernel_rfl)
    (case lX1I => first | k_is | rfl | kernel_rfl)
    (case cX1I => first | k_is | rfl | kernel_rfl)
    (case kX1I => first | k_is | rfl | kernel_rfl)
    (case xfX1I => first | k_is | rfl | kernel_rfl)
    (case xlX2I => first | k_is | rfl | kernel_rfl)
    (case xtX2I => first | kernel_rfl | rfl | k_is)
    (case xsX2I => first | k_is | rfl | kernel_rfl)
    (case xbX2I => first | k_is | rfl | kernel_rfl)
    (case xyX2I => first | k_is | rfl | kernel_rfl)
    (case xkX2I => first | k_is | rfl | kernel_rfl)
    (case aX2I => first | k_is | rfl | kernel_rfl)
    (case iX2I => first | k_is | rfl | kernel_rfl)
    (case lX2I => first | k_is | rfl | kernel_rfl)
    (case cX2I => first | k_is | rfl | kernel_rfl)
    (case kX2I => first | k_is | rfl | kernel_rfl)
    (case xfX2I => first | k_is | rfl | kernel_rfl)
    (case xlX3I => first | k_is | rfl | kernel_rfl)
    (case xtX3I => first | kernel_rfl | rfl | k_is)
    (case xsX3I => first | k_is | rfl | kernel_rfl)
    (case xbX3I => first | k_is | rfl | kernel_rfl)
    (case xyX3I => first | k_is | rfl | kernel_rfl)
    (case xkX3I => first | k_is | rfl | kernel_rfl)
    (case aX3I => first | k_is | rfl | kernel_rfl)
    (case iX3I => first | k_is | rfl | kernel_rfl)
    (case lX3I => first | k_is | rfl | kernel_rfl)
    (case cX3I => first | k_is | rfl | kernel_rfl)
    (case kX3I => first | k_is | rfl | kernel_rfl)
    (case xfX3I => first | k_is | rfl | kernel_rfl)
    (case xlX4I => first | k_is | rfl | kernel_rfl)
    (case xtX4I => first | kernel_rfl | rfl | k_is)
    (case xsX4I => first | k_is | rfl | kernel_rfl)
    (case xbX4I => first | k_is | rfl | kernel_rfl)
    (case xyX4I => first | k_is | rfl | kernel_rfl)
    (case xkX4I => first | k_is | rfl | kernel_rfl)
    (case aX4I => first | k_is | rfl | kernel_rfl)
    (case iX4I => first | k_is | rfl | kernel_rfl)
    (case lX4I => first | k_is | rfl | kernel_rfl)
    (case cX4I => first | k_is | rfl | kernel_rfl)
    (case kX4I => first | k_is | rfl | kernel_rfl)
    (case xfX4I => first | k_is | rfl | kernel_rfl)
    (case xlX6I => first | k_is | rfl | kernel_rfl)
    (case xtX6I => first | kernel_rfl | rfl | k_is)
    (case xsX6I => first | k_is | rfl | kernel_rfl)
    (case xbX6I => first | k_is | rfl | kernel_rfl)
    (case xyX6I => first | k_is | rfl | kernel_rfl)
    (case xkX6I => first | k_is | rfl | kernel_rfl)
    (case aX6I => first | k_is | rfl | kernel_rfl)
    (case iX6I => first | k_is | rfl | kernel_rfl)
    (case lX6I => first | k_is | rfl | kernel_rfl)
    (case cX6I => first | k_is | rfl | kernel_rfl)
    (case kX6I => first | k_is | rfl | kernel_rfl)
    (case xfX6I => first | k_is | rfl | kernel_rfl)
    (case xlX7I => first | k_is | rfl | kernel_rfl)
    (case xtX7I => first | kernel_rfl | rfl | k_is)
    (case xsX7I => first | k_is | rfl | kernel_rfl)
    (case xbX7I => first | k_is | rfl | kernel_rfl)
    (case xyX7I => first | k_is | rfl | kernel_rfl)
    (case xkX7I => first | k_is | rfl | kernel_rfl)
    (case aX7I => first | k_is | rfl | kernel_rfl)
    (case iX7I => first | k_is | rfl | kernel_rfl)
    (case lX7I => first | k_is | rfl | kernel_rfl)
    (case cX7I => first | k_is | rfl | kernel_rfl)
    (case kX7I => first | k_is | rfl | kernel_rfl)
    (case xfX7I => first | k_is | rfl | kernel_rfl)
    (case xlX8I => first | k_is | rfl | kernel_rfl)
    (case xtX8I => first | kernel_rfl | rfl | k_is)
    (case xsX8I => first | k_is | rfl | kernel_rfl)
    (case xbX8I => first | k_is | rfl | kernel_rfl)
    (case xyX8I => first | k_is | rfl | kernel_rfl)
    (case xkX8I => first | k_is | rfl | kernel_rfl)
    (case aX8I => first | k_is | rfl | kernel_rfl)
    (case iX8I => first | k_is | rfl | kernel_rfl)
    (case lX8I => first | k_is | rfl | kernel_rfl)
    (case cX8I => first | k_is | rfl | kernel_rfl)
    (case kX8I => first | k_is | rfl | kernel_rfl)
    (case xfX8I => first | k_is | rfl | kernel_rfl)
    (case z_int => first | k_is | rfl | kernel_rfl)
    (case z_len => first | k_is | rfl | kernel_rfl)
    (case z_range => first | k_is | rfl | kernel_rfl)
    (case z_enumerate => first | k_is | rfl | kernel_rfl)
    (case z_list => first | k_is | rfl | kernel_rfl)
    (case z_tuple => first | k_is | rfl | kernel_rfl)
    (case z_isinstance => first | k_is | rfl | kernel_rfl)
    (case z_ValueError => first | k_is | rfl | kernel_rfl)
    (case z_zip => first | k_is | rfl | kernel_rfl)
    (case z_abs => first | k_is | rfl | kernel_rfl)
    (case z_repr => first | k_is | rfl | kernel_rfl)
    (case z_set => first | k_is | rfl | kernel_rfl)
    (case z_max => first | k_is | rfl | kernel_rfl)
    (case z_bool => first | k_is | rfl | kernel_rfl)
    (case z_OverflowError => first | k_is | rfl | kernel_rfl)
    (case z_all => first | k_is | rfl | kernel_rfl)
    (case z_str => first | k_is | rfl | kernel_rfl)
    (case z_sorted => first | k_is | rfl | kernel_rfl)
    (case z_sum => first | k_is | rfl | kernel_rfl)
    (case z_min => first | k_is | rfl | kernel_rfl)
    (case aMixed => first | k_is | rfl | kernel_rfl)
    (case lMixed => first | k_is | rfl | kernel_rfl)
    (case cMixed => first | k_is | rfl | kernel_rfl)
    (case kMixed => first | k_is | rfl | kernel_rfl)
    (case aDraw => first | k_is | rfl | kernel_rfl)
    (case lDraw => first | k_is | rfl | kernel_rfl)
    (case cDraw => first | k_is | rfl | kernel_rfl)
    (case kDraw => first | k_is | rfl | kernel_rfl)
    (case aFolded => first | k_is | rfl | kernel_rfl)
    (case lFolded => first | k_is | rfl | kernel_rfl)
    (case cFolded => first | k_is | rfl | kernel_rfl)
    (case kFolded => first | k_is | rfl | kernel_rfl)
    (case aBegun => first | k_is | rfl | kernel_rfl)
    (case lBegun => first | k_is | rfl | kernel_rfl)
    (case cBegun => first | k_is | rfl | kernel_rfl)
    (case kBegun => first | k_is | rfl | kernel_rfl)
    (case aWhole => first | k_is | rfl | kernel_rfl)
    (case lWhole => first | k_is | rfl | kernel_rfl)
    (case cWhole => first | k_is | rfl | kernel_rfl)
    (case kWhole => first | k_is | rfl | kernel_rfl)
    (case aPair => first | k_is | rfl | kernel_rfl)
    (case lPair => first | k_is | rfl | kernel_rfl)
    (case cPair => first | k_is | rfl | kernel_rfl)
    (case kPair => first | k_is | rfl | kernel_rfl)
    (case aStretch => first | k_is | rfl | kernel_rfl)
    (case lStretch => first | k_is | rfl | kernel_rfl)
    (case cStretch => first | k_is | rfl | kernel_rfl)
    (case kStretch => first | k_is | rfl | kernel_rfl)
    (case aFault => first | k_is | rfl | kernel_rfl)
    (case lFault => first | k_is | rfl | kernel_rfl)
    (case cFault => first | k_is | rfl | kernel_rfl)
    (case kFault => first | k_is | rfl | kernel_rfl)
    (case aRI => first | k_is | rfl | kernel_rfl)
    (case iRI => first | k_is | rfl | kernel_rfl)
    (case lRI => first | k_is | rfl | kernel_rfl)
    (case cRI => first | k_is | rfl | kernel_rfl)
    (case kRI => first | k_is | rfl | kernel_rfl)
    (case aRLen => first | k_is | rfl | kernel_rfl)
    (case iRLen => first | k_is | rfl | kernel_rfl)
    (case lRLen => first | k_is | rfl | kernel_rfl)
    (case cRLen => first | k_is | rfl | kernel_rfl)
    (case kRLen => first | k_is | rfl | kernel_rfl)
    (case aREq => first | k_is | rfl | kernel_rfl)
    (case iREq => first | k_is | rfl | kernel_rfl)
    (case lREq => first | k_is | rfl | kernel_rfl)
    (case cREq => first | k_is | rfl | kernel_rfl)
    (case kREq => first | k_is | rfl | kernel_rfl)
    (case aTurning => first | k_is | rfl | kernel_rfl)
    (case lTurning => first | k_is | rfl | kernel_rfl)
    (case cTurning => first | k_is | rfl | kernel_rfl)
    (case kTurning => first | k_is | rfl | kernel_rfl)
    (case aPT => first | k_is | rfl | kernel_rfl)
    (case lPT => first | k_is | rfl | kernel_rfl)
    (case cPT => first | k_is | rfl | kernel_rfl)
    (case kPT => first | k_is | rfl | kernel_rfl)
    (case aLTurn => first | k_is | rfl | kernel_rfl)
    (case lLTurn => first | k_is | rfl | kernel_rfl)
    (case cLTurn => first | k_is | rfl | kernel_rfl)
    (case kLTurn => first | k_is | rfl | kernel_rfl)
    (case aRowT => first | k_is | rfl | kernel_rfl)
    (case lRowT => first | k_is | rfl | kernel_rfl)
    (case cRowT => first | k_is | rfl | kernel_rfl)
    (case kRowT => first | k_is | rfl | kernel_rfl)
    (case aClass => first | k_is | rfl | kernel_rfl)
    (case lClass => first | k_is | rfl | kernel_rfl)
    (case cClass => first | k_is | rfl | kernel_rfl)
    (case kClass => first | k_is | rfl | kernel_rfl)
    (case aRan => first | k_is | rfl | kernel_rfl)
    (case lRan => first | k_is | rfl | kernel_rfl)
    (case cRan => first | k_is | rfl | kernel_rfl)
    (case kRan => first | k_is | rfl | kernel_rfl)
    (case oex => first | kernel_rfl | rfl | k_is)
    (case okc => first | k_is | rfl | kernel_rfl)
    (case osu => first | k_is | rfl | kernel_rfl)
    (case oty => first | k_is | rfl | kernel_rfl)
    (case rne => first | k_is | rfl | kernel_rfl)
    (case aCB => first | k_is | rfl | kernel_rfl)
    (case aCM => first | k_is | rfl | kernel_rfl)
    (case bvpg => first | k_is | rfl | kernel_rfl)
    (case bvhd => first | k_is | rfl | kernel_rfl)
    (case bvpo => first | k_is | rfl | kernel_rfl)
    (case bvsa => first | k_is | rfl | kernel_rfl)
    (case bvmk => first | k_is | rfl | kernel_rfl)
    (case bvkc => first | k_is | rfl | kernel_rfl)
    (case bupg => first | k_is | rfl | kernel_rfl)
    (case buhd => first | k_is | rfl | kernel_rfl)
    (case bupo => first | k_is | rfl | kernel_rfl)
    (case busa => first | k_is | rfl | kernel_rfl)
    (case bumk => first | k_is | rfl | kernel_rfl)
    (case bukc => first | k_is | rfl | kernel_rfl)
    (case bnF => first | k_is | rfl | kernel_rfl)
    (case bnG => first | k_is | rfl | kernel_rfl)
    (case bnM => first | k_is | rfl | kernel_rfl)
    (case bnH => first | k_is | rfl | kernel_rfl)
    (case bnD => first | k_is | rfl | kernel_rfl)
    (case bnU => first | k_is | rfl | kernel_rfl)
    (case bcc => first | k_is | rfl | kernel_rfl)
    (case bmr => first | k_is | rfl | kernel_rfl)
    (case bks => first | k_is | rfl | kernel_rfl)
    (case bkr => first | k_is | rfl | kernel_rfl)
    (case brk => first | k_is | rfl | kernel_rfl)
    (case bnr => first | k_is | rfl | kernel_rfl)
    (case bnc => first | k_is | rfl | kernel_rfl)
    (case bne => first | k_is | rfl | kernel_rfl)
    (case bneM => decide)
    (case bneR => decide)
    (case bka0 => first | k_is | rfl | kernel_rfl)
    (case bkb0 => first | k_is | rfl | kernel_rfl)
    (case bkc0 => first | k_is | rfl | kernel_rfl)
    (case bka1 => first | k_is | rfl | kernel_rfl)
    (case bkb1 => first | k_is | rfl | kernel_rfl)
    (case bkc1 => first | k_is | rfl | kernel_rfl)
    (case bka2 => first | k_is | rfl | kernel_rfl)
    (case bkb2 => first | k_is | rfl | kernel_rfl)
    (case bkc2 => first | k_is | rfl | kernel_rfl)
    (case bka3 => first | k_is | rfl | kernel_rfl)
    (case bkb3 => first | k_is | rfl | kernel_rfl)
    (case bkc3 => first | k_is | rfl | kernel_rfl)
    (case bka4 => first | k_is | rfl | kernel_rfl)
    (case bkb4 => first | k_is | rfl | kernel_rfl)
    (case bkc4 => first | k_is | rfl | kernel_rfl)
    (case bka5 => first | k_is | rfl | kernel_rfl)
    (case bkb5 => first | k_is | rfl | kernel_rfl)
    (case bkc5 => first | k_is | rfl | kernel_rfl)
    (case bka6 => first | k_is | rfl | kernel_rfl)
    (case bkb6 => first | k_is | rfl | kernel_rfl)
    (case bkc6 => first | k_is | rfl | kernel_rfl)
    (case nex => first | kernel_rfl | rfl | k_is)
    (case nkc => first | k_is | rfl | kernel_rfl)
    (case nsu => first | k_is | rfl | kernel_rfl)
    (case nty => first | k_is | rfl | kernel_rfl)
    (case pat => first | k_is | rfl | kernel_rfl)
    (case pge => first | k_is | rfl | kernel_rfl)
    (case pta => first | k_is | rfl | kernel_rfl)
    (case pre => first | k_is | rfl | kernel_rfl)
    (case lBRow => first | k_is | rfl | kernel_rfl)
    (case cBRow => first | k_is | rfl | kernel_rfl)
    (case kBRow => first | k_is | rfl | kernel_rfl)
    (case aMI => first | k_is | rfl | kernel_rfl)
    (case iMI => first | k_is | rfl | kernel_rfl)
    (case lMI => first | k_is | rfl | kernel_rfl)
    (case cMI => first | k_is | rfl | kernel_rfl)
    (case kMI => first | k_is | rfl | kernel_rfl)
    (case aBI => first | k_is | rfl | kernel_rfl)
    (case iBI => first | k_is | rfl | kernel_rfl)
    (case lBI => first | k_is | rfl | kernel_rfl)
    (case cBI => first | k_is | rfl | kernel_rfl)
    (case kBI => first | k_is | rfl | kernel_rfl)
    (case aBLen => first | k_is | rfl | kernel_rfl)
    (case iBLen => first | k_is | rfl | kernel_rfl)
    (case lBLen => first | k_is | rfl | kernel_rfl)
    (case cBLen => first | k_is | rfl | kernel_rfl)
    (case kBLen => first | k_is | rfl | kernel_rfl)
    (case aBDo => first | k_is | rfl | kernel_rfl)
    (case iBDo => first | k_is | rfl | kernel_rfl)
    (case lBDo => first | k_is | rfl | kernel_rfl)
    (case cBDo => first | k_is | rfl | kernel_rfl)
    (case kBDo => first | k_is | rfl | kernel_rfl)
    (case aBUndo => first | k_is | rfl | kernel_rfl)
    (case iBUndo => first | k_is | rfl | kernel_rfl)
    (case lBUndo => first | k_is | rfl | kernel_rfl)
    (case cBUndo => first | k_is | rfl | kernel_rfl)
    (case kBUndo => first | k_is | rfl | kernel_rfl)
    (case aBRedo => first | k_is | rfl | kernel_rfl)
    (case iBRedo => first | k_is | rfl | kernel_rfl)
    (case lBRedo => first | k_is | rfl | kernel_rfl)
    (case cBRedo => first | k_is | rfl | kernel_rfl)
    (case kBRedo => first | k_is | rfl | kernel_rfl)
    (case aBTs => first | k_is | rfl | kernel_rfl)
    (case iBTs => first | k_is | rfl | kernel_rfl)
    (case lBTs => first | k_is | rfl | kernel_rfl)
    (case cBTs => first | k_is | rfl | kernel_rfl)
    (case kBTs => first | k_is | rfl | kernel_rfl)
    (case aRun => first | k_is | rfl | kernel_rfl)
    (case lRun => first | k_is | rfl | kernel_rfl)
    (case cRun => first | k_is | rfl | kernel_rfl)
    (case kRun => first | k_is | rfl | kernel_rfl)
    (case aCK => first | k_is | rfl | kernel_rfl)
    (case aCT => first | k_is | rfl | kernel_rfl)
    (case qkpg => first | k_is | rfl | kernel_rfl)
    (case qkhd => first | k_is | rfl | kernel_rfl)
    (case qkpo => first | k_is | rfl | kernel_rfl)
    (case qksa => first | k_is | rfl | kernel_rfl)
    (case qkmk => first | k_is | rfl | kernel_rfl)
    (case qkkc => first | k_is | rfl | kernel_rfl)
    (case qtpg => first | k_is | rfl | kernel_rfl)
    (case qthd => first | k_is | rfl | kernel_rfl)
    (case qtpo => first | k_is | rfl | kernel_rfl)
    (case qtsa => first | k_is | rfl | kernel_rfl)
    (case qtmk => first | k_is | rfl | kernel_rfl)
    (case qtkc => first | k_is | rfl | kernel_rfl)
    (case qnKM => first | k_is | rfl | kernel_rfl)
    (case qnKO => first | k_is | rfl | kernel_rfl)
    (case qnTB => first | k_is | rfl | kernel_rfl)
    (case qnTK => first | k_is | rfl | kernel_rfl)
    (case neTK => decide)
    (case neTB => decide)
    (case neKB => decide)
    (case neTR => decide)
    (case aBDA => first | k_is | rfl | kernel_rfl)
    (case iBDA => first | k_is | rfl | kernel_rfl)
    (case lBDA => first | k_is | rfl | kernel_rfl)
    (case cBDA => first | k_is | rfl | kernel_rfl)
    (case kBDA => first | k_is | rfl | kernel_rfl)
    (case aBTr => first | k_is | rfl | kernel_rfl)
    (case iBTr => first | k_is | rfl | kernel_rfl)
    (case lBTr => first | k_is | rfl | kernel_rfl)
    (case cBTr => first | k_is | rfl | kernel_rfl)
    (case kBTr => first | k_is | rfl | kernel_rfl)
    (case aKI => first | k_is | rfl | kernel_rfl)
    (case iKI => first | k_is | rfl | kernel_rfl)
    (case lKI => first | k_is | rfl | kernel_rfl)
    (case cKI => first | k_is | rfl | kernel_rfl)
    (case kKI => first | k_is | rfl | kernel_rfl)
    (case aTI => first | k_is | rfl | kernel_rfl)
    (case iTI => first | k_is | rfl | kernel_rfl)
    (case lTI => first | k_is | rfl | kernel_rfl)
    (case cTI => first | k_is | rfl | kernel_rfl)
    (case kTI => first | k_is | rfl | kernel_rfl)
    (case aTE => first | k_is | rfl | kernel_rfl)
    (case iTE => first | k_is | rfl | kernel_rfl)
    (case lTE => first | k_is | rfl | kernel_rfl)
    (case cTE => first | k_is | rfl | kernel_rfl)
    (case kTE => first | k_is | rfl | kernel_rfl)
    (case aTX => first | k_is | rfl | kernel_rfl)
    (case iTX => first | k_is | rfl | kernel_rfl)
    (case lTX => first | k_is | rfl | kernel_rfl)
    (case cTX => first | k_is | rfl | kernel_rfl)
    (case kTX => first | k_is | rfl | kernel_rfl)
    (case aTried => first | k_is | rfl | kernel_rfl)
    (case lTried => first | k_is | rfl | kernel_rfl)
    (case cTried => first | k_is | rfl | kernel_rfl)
    (case kTried => first | k_is | rfl | kernel_rfl)
    (case aShown => first | k_is | rfl | kernel_rfl)
    (case lShown => first | k_is | rfl | kernel_rfl)
    (case cShown => first | k_is | rfl | kernel_rfl)
    (case kShown => first | k_is | rfl | kernel_rfl)
    (case aSome => first | k_is | rfl | kernel_rfl)
    (case lSome => first | k_is | rfl | kernel_rfl)
    (case cSome => first | k_is | rfl | kernel_rfl)
    (case kSome => first | k_is | rfl | kernel_rfl)
    (case aSlip => first | k_is | rfl | kernel_rfl)
    (case lSlip => first | k_is | rfl | kernel_rfl)
    (case cSlip => first | k_is | rfl | kernel_rfl)
    (case kSlip => first | k_is | rfl | kernel_rfl)
    (case aIsR => first | k_is | rfl | kernel_rfl)
    (case lIsR => first | k_is | rfl | kernel_rfl)
    (case cIsR => first | k_is | rfl | kernel_rfl)
    (case kIsR => first | k_is | rfl | kernel_rfl)
    (case aRefu => first | k_is | rfl | kernel_rfl)
    (case lRefu => first | k_is | rfl | kernel_rfl)
    (case cRefu_ => first | k_is | rfl | kernel_rfl)
    (case kRefu => first | k_is | rfl | kernel_rfl)
    (case aOth => first | k_is | rfl | kernel_rfl)
    (case lOth => first | k_is | rfl | kernel_rfl)
    (case cOth_ => first | k_is | rfl | kernel_rfl)
    (case kOth => first | k_is | rfl | kernel_rfl)
    (case aTri => first | k_is | rfl | kernel_rfl)
    (case lTri => first | k_is | rfl | kernel_rfl)
    (case cTri_ => first | k_is | rfl | kernel_rfl)
    (case kTri => first | k_is | rfl | kernel_rfl)
    (case aAga => first | k_is | rfl | kernel_rfl)
    (case lAga => first | k_is | rfl | kernel_rfl)
    (case cAga_ => first | k_is | rfl | kernel_rfl)
    (case kAga => first | k_is | rfl | kernel_rfl)
    (case aLaw => first | k_is | rfl | kernel_rfl)
    (case lLaw => first | k_is | rfl | kernel_rfl)
    (case cLaw_ => first | k_is | rfl | kernel_rfl)
    (case kLaw => first | k_is | rfl | kernel_rfl)
    (case aTold => first | k_is | rfl | kernel_rfl)
    (case lTold => first | k_is | rfl | kernel_rfl)
    (case cTold => first | k_is | rfl | kernel_rfl)
    (case kTold => first | k_is | rfl | kernel_rfl)
    (case upLaw => exact rfl)
    (case npLaw => first | rfl | kernel_rfl)
    (case tpLaw => exact TO _ "law" _ _ rfl (by kernel_rfl))
    (case upRefu => exact rfl)
    (case npRefu => first | rfl | kernel_rfl)
    (case tpRefu => exact TO _ "_law_refusing" _ _ rfl (by kernel_rfl))
    (case upOth => exact rfl)
    (case npOth => first | rfl | kernel_rfl)
    (case tpOth => exact TO _ "_law_others_right" _ _ rfl (by kernel_rfl))
    (case upTri => exact rfl)
    (case npTri => first | rfl | kernel_rfl)
    (case tpTri => exact TO _ "_law_trials_right" _ _ rfl (by kernel_rfl))
    (case upAga => exact rfl)
    (case npAga => first | rfl | kernel_rfl)
    (case tpAga => exact TO _ "_law_again_right" _ _ rfl (by kernel_rfl))
    (case d01 => decide)
    (case d02 => decide)
    (case d12 => decide)
    (case d03 => decide)
    (case d13 => decide)
    (case d23 => decide)
    (case d04 => decide)
    (case d14 => decide)
    (case d24 => decide)
    (case d34 => decide)
#print axioms PySem.Challenge.cw_faceabout_k75_turnings_all_or_none_and_t_holds
